/- Plain maths of layer 8: what a builder holds, and what becomes of it. Plain maths of layer 9: texts cut at a byte, words, looks, columns. Plain maths of layer 9: what a table's lines tell (lg: what a text is set as, and what is wrong in it); nothing is told of other lines. Plain maths of layer 10: m -/
import Derived.Test.YtebabjnngdjceaaGreatDoorDa
import Derived.Test.YtebabjnngdjceaaGreatDoorZ0
set_option linter.unusedVariables false
set_option linter.unusedSimpArgs false
namespace Go.Proofs.YtebabjnngdjceaaGreatDoor
open Go.RowKit
def jn (a b:List Gly):List Gly:=if a=[] then b else if b=[] then a else a++ [(32,0)]++b
theorem Eb (a b:List Gly):ink (a++b)=ink a++ink b:=by simp[ink]
theorem Nj (a b:List Gly):ink (jn a b)=ink a++ink b:=by
 unfold jn
 split
 ·next h=>subst h;rfl
 ·split
  ·next h=>subst h;simp[ink]
  ·rw[Eb,Eb]
   simp[ink]
structure Bt where
 nm:Nm
 kids:List Nd
 opn:List Nd
 text:List Gly
 line:Int
 has:Bool
def kE (y x:Nd):Nd:= .mk y.hd (y.kids++ [x])
def jS (t:Bt) (x:Nd):Bt:=
 match t.opn.getLast? with
 | none=>{t with kids:=t.kids++ [x] }
 | some y=>{t with opn:=t.opn.dropLast++ [kE y x] }
def fH (t:Bt):Nd:= .mk ⟨3,t.line,0,t.text,[],aW⟩ []
def l8 (t:Bt):Bt:={t with text:=[],line:=0,has:=false}
def bH (t:Bt):Bt:=l8 (if ink t.text=[] then t else jS t (fH t))
def gP (t:Bt) (l:List Gly) (line:Int):Bt:={t with text:=jn t.text l,line:=if t.has then t.line else line,has:=true}
def vH (t:Bt) (x:Nd):Bt:=jS (bH t) x
def pK (t:Bt) (x:Nd):Bt:={bH t with opn:=(bH t).opn++ [x] }
def jR (t:Bt):Bt:=
 match t.opn.getLast? with
 | none=>t
 | some x=>jS {t with opn:=t.opn.dropLast} x
def bIn (t:Bt) (k:Int):Bool:=t.opn.any fun y=>y.hd.kind==k
def vZ (k:Int):Nat→Bt→Bt
 | 0,t=>t
 | n+1,t=>match t.opn.getLast? with
  | none=>t
  | some y=>if y.hd.kind=k then jR t else vZ k n (jR t)
def dB (t:Bt) (k:Int):Bt×Bool:=if bIn (bH t) k then(vZ k (bH t).opn.length (bH t),true) else(bH t,false)
def iM (K:List Int):Nat→Bt→Bt
 | 0,t=>t
 | n+1,t=>match t.opn.getLast? with
  | none=>t
  | some y=>if y.hd.kind∈K then iM K n (jR t) else t
def aP (t:Bt) (K:List Int):Bt:=iM K (bH t).opn.length (bH t)
def lu:List Nd→List Nd
 | []=>[]
 | y::r=>[.mk y.hd (y.kids++lu r)]
def lh (t:Bt):List Nd:=t.kids++lu t.opn
def nu (t:Bt):List Nd:=qx (lh (bH t))
theorem Ir (x:Nd):Nd.mk x.hd x.kids=x:=by cases x;rfl
theorem Ew (x:Nd):lu [x]=[x]:=by simp[lu,Ir]
theorem vK: ∀(l:List Nd) (y x:Nd),lu (l++ [y,x])=lu (l++ [kE y x])
 | [],y,x=>by
  cases y;cases x
  simp[lu,kE,Nd.hd,Nd.kids]
 | z::l,y,x=>by
  have:=vK l y x;simp only[PR,lu,this]
theorem fJ {t:Bt} (x:Nd) (h:t.opn=[]):jS t x={t with kids:=t.kids++ [x] }:=by unfold jS;rw[h];rfl
theorem gI {t:Bt} (x:Nd) {l:List Nd} {y:Nd} (h:t.opn=l++ [y]):jS t x={t with opn:=l++ [kE y x] }:=by unfold jS;rw[h];simp
theorem dF (l:List Nd):l=[]∨ ∃r y,l=r++ [y]:=by
 rcases QQ l with h | ⟨r,y,h⟩
 ·exact .inl h
 ·exact .inr ⟨r,y,by simpa using h⟩
theorem oG {t:Bt} (h:t.opn=[]):jR t=t:=by unfold jR;rw[h];rfl
theorem jD {t:Bt} {l:List Nd} {x:Nd} (h:t.opn=l++ [x]):jR t=jS {t with opn:=l} x:=by unfold jR;rw[h];simp
theorem KA (t:Bt):lh (jR t)=lh t:=by
 rcases dF t.opn with h | ⟨l,x,h⟩
 ·rw[oG h]
 ·rw[jD h]
  rcases dF l with h2 | ⟨r,y,h2⟩
  ·rw[fJ x (by exact h2)]
   unfold lh;simp only;rw[h,h2];simp[lu,Ir]
  ·rw[gI x (show({t with opn:=l}:Bt).opn=r++ [y] from h2)]
   unfold lh;simp only;rw[h,h2,Pw];rw[show [y]++ [x]=[y,x] from rfl,vK]
theorem oH (t:Bt):(jR t).opn.length=t.opn.length-1:=by
 rcases dF t.opn with h | ⟨l,x,h⟩
 ·rw[oG h,h];rfl
 ·rw[jD h]
  rcases dF l with h2 | ⟨r,y,h2⟩
  ·rw[fJ x (by exact h2),h];simp[h2]
  ·rw[gI x (show({t with opn:=l}:Bt).opn=r++ [y] from h2),h,h2];simp
def qz (t u:Bt):Prop:=u.nm=t.nm∧u.text=t.text∧u.line=t.line∧u.has=t.has
theorem qz.trans {a b c:Bt} (h:qz a b) (k:qz b c):qz a c:=⟨k.1.trans h.1,k.2.1.trans h.2.1,k.2.2.1.trans h.2.2.1,k.2.2.2.trans h.2.2.2⟩
theorem qb (t:Bt) (x:Nd):qz t (jS t x):=by
 unfold jS
 split<;>exact⟨rfl,rfl,rfl,rfl⟩
theorem EZ (t:Bt):qz t (jR t):=by
 unfold jR
 split
 ·exact⟨rfl,rfl,rfl,rfl⟩
 ·exact(show qz t {t with opn:=t.opn.dropLast} from⟨rfl,rfl,rfl,rfl⟩).trans (qb _ _)
def Mm (t:Bt):Prop:=t.text=[]∧t.line=0∧t.has=false
theorem Nt {t:Bt} (h:Mm t):bH t=t:=by
 obtain⟨nm,kids,opn,text,line,has⟩:=t;obtain⟨h1,h2,h3⟩:=h;simp only at h1 h2 h3;subst h1 h2 h3;rfl
abbrev Txt:=List UInt8
def LF (c:UInt8):Txt→List Txt
 | []=>[[]]
 | x::r=>if x=c then []::LF c r else match LF c r with
  | []=>[[x]]
  | h::t=>(x::h)::t
def OC (x:UInt8):Bool:=x==32 || x==44
def wV:Txt→Txt→List Txt
 | w,[]=>if w=[] then [] else [w]
 | w,x::r=>if OC x then(if w=[] then wV [] r else w::wV [] r) else wV (w++ [x]) r
def GM (s:Txt):List Txt:=wV [] s
def Ej (s:Txt) (c:UInt8):Bool:=s.getLast? ==some c
def OI:Txt:=[98,111,120]
def Ol:Txt:=[97,108,108,98,111,120]
def lookW:List Txt→Option (Bool×Bool)
 | []=>some (false,false)
 | w::l=>if w=OI∨w=Ol then(lookW l).map (fun q=>(true,q.2 || w==Ol)) else none
def IM (s:Txt):Bool×Bool×Bool:=
 if Ej s 59 then match lookW (GM s.dropLast)with
  | some (b,a)=>(b,a,true)
  | none=>(false,false,false)
 else(false,false,false)
def Oi (w:Txt):UInt8×Bool:=match w.head? with
 | some x=>if x=108∨x=76 then(108,true) else if x=99∨x=67 then(99,true) else if x=114∨x=82 then(114,true) else(108,false)
 | none=>(108,false)
def Oh (s:Txt):Txt×Bool:=
 let l:=GM (if Ej s 46 then s.dropLast else s)
 (l.map (fun w=>(Oi w).1),l.all (fun w=>(Oi w).2))
abbrev Dgn:=Int×Int×Int
abbrev Lgf:=Txt→List Gly×List (Int×Int)
def cK (ln:Int) (l:List (Int×Int)):List Dgn:=l.map (fun q=>(q.1,ln,q.2))
def OJ (s:Txt):Bool:=s.take 2== [84,125]
def tbW:Txt:=[84,123]
def L9 (lg:Lgf):List Txt→Int→List Gly→List Dgn→List Gly×List Dgn×Int×List Txt
 | [],ln,acc,d=>(acc,d,ln,[])
 | s::r,ln,acc,d=>if OJ s then(acc,d,ln,s::r) else L9 lg r (ln+1) (jn acc (lg s).1) (d++cK ln (lg s).2)
abbrev NI:=List (List Gly)×List Dgn×Int×List Txt
def C8 (lg:Lgf) (K:List Txt→List Txt→Int→List (List Gly)→List Dgn→NI):List Txt→List Txt→Int→List (List Gly)→List Dgn→NI
 | [],rest,ln,cs,d=>(cs,d,ln,rest)
 | p::ps,rest,ln,cs,d=>if p=tbW then
   match L9 lg rest (ln+1) [] d with
   | (g,d2,ln2,[])=>(cs++ [g],d2++ [(7,ln,0)],ln2,[])
   | (g,d2,ln2,s::r)=>K (LF 9 s).tail r ln2 (cs++ [g]) d2
  else C8 lg K ps rest ln (cs++ [(lg p).1]) (d++cK ln (lg p).2)
def Jv (lg:Lgf):Nat→List Txt→List Txt→Int→List (List Gly)→List Dgn→NI
 | 0=>C8 lg (fun _ rest ln cs d=>(cs,d,ln,rest))
 | n+1=>C8 lg (Jv lg n)
def rowP (lg:Lgf) (nc:Nat) (s:Txt) (rest:List Txt) (ln:Int):dm×List Dgn×Int×List Txt:=
 if s=[95]∨s=[61] then((true,[]),[],ln,rest) else
  let q:=Jv lg (rest.length+1) (LF 9 s) rest ln [] []
  ((false,q.1),q.2.1++(if nc<q.1.length then [(11,ln,0)] else []),q.2.2.1,q.2.2.2)
def Me (lg:Lgf) (nc:Nat):Nat→List Txt→Int→List dm→List Dgn→List dm×List Dgn
 | 0,_,_,rs,d=>(rs,d)
 | _,[],_,rs,d=>(rs,d)
 | n+1,s::r,ln,rs,d=>let q:=rowP lg nc s r ln
  Me lg nc n q.2.2.2 (q.2.2.1+1) (rs++ [q.1]) (d++q.2.1)
def Mo:List Txt→Int→Txt→List Dgn→Txt×Bool×List Dgn×List Txt×Int
 | [],ln,cols,d=>(cols,false,d,[],ln)
 | s::r,ln,cols,d=>
  let c:=Oh s
  let d':=d++(if c.2 then [] else [(10,ln,0)])++(if 20<c.1.length then [(11,ln,0)] else [])
  let cols':=if c.1=[] then cols else c.1.take 20
  if Ej s 46 then(cols',true,d',r,ln+1) else Mo r (ln+1) cols' d'
def NW (line:Int) (l:List Txt):Bool×Bool×List Dgn×List Txt×Int:=match l with
 | []=>(false,false,[],[],line)
 | s::r=>if Ej s 59 then((IM s).1,(IM s).2.1,(if(IM s).2.2 then [] else [(10,line,0)]),r,line+1) else(false,false,[],s::r,line)
def MP (lg:Lgf) (line:Int) (l:List Txt):Tab×List Dgn:=
 let a:=NW line l
 let b:=Mo a.2.2.2.1 a.2.2.2.2 [] a.2.2.1
 let cols:=if b.1=[] then [108] else b.1
 let d:=b.2.2.1++(if b.2.1 then [] else [(7,line,0)])
 let q:=Me lg cols.length b.2.2.2.1.length b.2.2.2.1 b.2.2.2.2 [] d
 (mend ⟨cols,q.1,a.1,a.2.1⟩,q.2)
section
variable {lg:Lgf} (hg: ∀s,∀q∈(lg s).2,0≤q.2)
include hg
omit hg in
end
structure bu where
 line:Int
 mac:Txt
 args:List Txt
 text:Txt
structure jT where
 inl:bu→Option (List Gly×List (Int×Int))
 wds:List Txt→List Gly×List (Int×Int)
 tab:Int→List Txt→Tab×List Dgn
structure MWt where
 kind:Int
 line:Int
 n:Int
structure Md where
 b:Bt
 d:List Dgn
 th:Bool
 w:Option MWt
 v:Option (Int×List (List Gly))
 g:Option (Int×List Txt)
def mdg (c:UInt8):Bool:=decide (48≤c.toNat)&&decide (c.toNat≤57)
def OE (s:Txt):Int:=s.foldl (fun a c=>10*a+((c.toNat:Int)-48)) 0
def ni (s:Txt) (or:Int):Int×Bool:=
 let t:=if s.getLast? =some 110 then s.dropLast else s
 if t≠ []∧t.all mdg=true∧t.length≤6 then(min (OE t) 200,true) else(or,false)
def aK (s:Md) (k ln:Int):Md:={s with d:=s.d++ [(k,ln,0)] }
def bL (kind line n:Int) (t:List Gly):Hd:=⟨kind,line,n,t,[],aW⟩
def cz (s:Md) (h:Hd):Md:=if 20≤s.b.opn.length then aK s 8 h.line else {s with b:=pK s.b (.mk h []) }
def iA (r:bu) (k:Nat):Txt:=(r.args[k]?).getD []
def aT (s:Md) (r:bu) (k:Nat):Md×Int:=match r.args[k]? with
 | none=>(s,7)
 | some a=>if(ni a 7).2 then(s,(ni a 7).1) else(aK s 5 r.line,7)
def wU (I:jT) (s:Md) (r:bu) (l:List Txt):Md×List Gly:=({s with d:=s.d++cK r.line (I.wds l).2},(I.wds l).1)
def uu (I:jT) (s:Md) (r:bu) (k:Int) (K:List Int):Md:=
 let s1:={s with b:=aP s.b K}
 if r.args=[] then {s1 with w:=some ⟨k,r.line,0⟩ } else
  let q:=wU I s1 r r.args
  cz q.1 (bL k r.line 0 q.2)
def Ko (I:jT) (s:Md) (r:bu) (tp:Bool):Md:=
 let s1:={s with b:=aP s.b [4] }
 if tp then
  let q:=aT s1 r 0
  {q.1 with w:=some ⟨4,r.line,q.2⟩ }
 else
  let q:=wU I s1 r (r.args.take 1)
  let p:=aT q.1 r 1
  cz p.1 (bL 4 r.line p.2 q.2)
def mTH:Txt:=[84,72]
def mSH:Txt:=[83,72]
def mSS:Txt:=[83,83]
def FM (I:jT) (s:Md) (r:bu):Md:=
 if r.mac=mTH then(if s.th then aK s 13 r.line else {s with th:=true,b:={s.b with nm:=⟨iA r 0,iA r 1,iA r 2,iA r 3⟩ } })
 else if r.mac=mSH then uu I s r 1 [1,2,4,5]
 else if r.mac=mSS then uu I s r 2 [2,4,5]
 else if r.mac=[80,80]∨r.mac=[80]∨r.mac=[76,80] then {s with b:=aP s.b [4] }
 else if r.mac=[84,80] then Ko I s r true
 else if r.mac=[73,80] then Ko I s r false
 else if r.mac=[82,83] then(let q:=aT s r 0;cz q.1 (bL 5 r.line q.2 []))
 else if r.mac=[82,69] then(let q:=dB s.b 5;if q.2 then {s with b:=q.1} else aK {s with b:=q.1} 6 r.line)
 else if r.mac=[69,88]∨r.mac=[110,102] then {s with b:=bH s.b,v:=some (r.line,[]) }
 else if r.mac=[84,83] then {s with b:=bH s.b,g:=some (r.line,[]) }
 else if r.mac=[69,69]∨r.mac=[102,105]∨r.mac=[84,69] then aK s 6 r.line
 else aK s 4 r.line
def qW (s:Md) (v:Int×List (List Gly)):Md:={s with b:=vH s.b (.mk ⟨6,v.1,0,[],v.2,aW⟩ []),v:=none}
def AC (I:jT) (s:Md) (g:Int×List Txt):Md:={s with b:=vH s.b (.mk ⟨7,g.1,0,[],[],(I.tab g.1 g.2).1⟩ []),d:=s.d++(I.tab g.1 g.2).2,g:=none}
def Aw (s:Md) (r:bu) (l:List Gly):Md:=match s.v with
 | some v=>{s with v:=some (v.1,v.2++ [l]) }
 | none=>match s.w with
  | some w=>cz {s with w:=none} (bL w.kind w.line w.n l)
  | none=>if r.mac=[]∧ink l=[] then {s with b:=bH s.b} else {s with b:=gP s.b l r.line}
def upM (s:Md):Md:=match s.w with
 | some w=>{aK s 5 w.line with w:=none}
 | none=>s
def lM (I:jT) (s:Md) (r:bu):Md:=match s.g with
 | some g=>if r.mac=[] then {s with g:=some (g.1,g.2++ [r.text]) } else if r.mac=[84,69] then AC I s g else aK s 13 r.line
 | none=>match I.inl r with
  | some q=>if r.mac≠ []∧r.args=[] then aK s 5 r.line else Aw {s with d:=s.d++cK r.line q.2} r q.1
  | none=>match s.v with
   | some v=>if r.mac=[69,69]∨r.mac=[102,105] then qW s v else aK s 13 r.line
   | none=>FM I (upM s) r
def Gc (I:jT) (s:Md):Md:=match s.g with
 | some g=>AC I (aK s 7 g.1) g
 | none=>s
def Jf (s:Md):Md:=match s.v with
 | some v=>qW (aK s 7 v.1) v
 | none=>s
def Av (s:Md):Md:=if s.th then s else aK s 12 0
def CP (I:jT) (s:Md):Md:=Av (Jf (Gc I (upM s)))
def md0:Md:=⟨⟨⟨[],[],[],[]⟩,[],[],[],0,false⟩,[],false,none,none,none⟩
def fP (I:jT) (l:List bu):Md:=l.foldl (lM I) md0
def dE (I:jT) (l:List bu):Md:=CP I (fP I l)
section
variable {m:Nm} {s:Md} {I:jT}
end
section
open Go.RowKit
structure NC (w:World) (g o:Nat) (x:NV):Prop where
 c0:w.cell? ⟨g,o,none⟩=some (.int .i64 x.kind)
 c1:w.cell? ⟨g,o+1,none⟩=some (.int .i64 x.line)
 c2:w.cell? ⟨g,o+2,none⟩=some (.int .i64 x.n)
 c3:w.cell? ⟨g,o+3,none⟩=some (.slice x.text.1 x.text.2.1 x.text.2.2)
 c4:w.cell? ⟨g,o+4,none⟩=some (.slice x.kids.1 x.kids.2.1 x.kids.2.2)
 c5:w.cell? ⟨g,o+5,none⟩=some (.slice x.rows.1 x.rows.2.1 x.rows.2.2)
 c6:w.cell? ⟨g,o+6,none⟩=some (.string ⟨x.cols.toArray⟩)
 c7:w.cell? ⟨g,o+7,none⟩=some (.slice x.trows.1 x.trows.2.1 x.trows.2.2)
 c8:w.cell? ⟨g,o+8,none⟩=some (.bool x.box)
 c9:w.cell? ⟨g,o+9,none⟩=some (.bool x.all)
attribute [local go_sem ↓ high] gN
end
section
structure Exc (X:Nat→Prop) (w w':World):Prop where
 os:w'.os=w.os
 tape:w'.tape=w.tape
 output:w'.output=w.output
 size:w.heap.size≤w'.heap.size
 block: ∀k,k<w.heap.size→ ¬X k→w'.heap[k]? =w.heap[k]?
theorem Exc.refl (X:Nat→Prop) (w:World):Exc X w w:=⟨rfl,rfl,rfl,OW _,fun _ _ _=>rfl⟩
theorem Exc.trans {X Y:Nat→Prop} {a b c:World} (h:Exc X a b) (k:Exc Y b c) (hXY: ∀i,i<a.heap.size→Y i→X i):Exc X a c:=
 ⟨k.os.trans h.os,k.tape.trans h.tape,k.output.trans h.output,Pp h.size k.size,fun i hi hx=>(k.block i (O0 hi h.size) (fun q=>hx (hXY i hi q))).trans (h.block i hi hx)⟩
theorem Exc.then {X:Nat→Prop} {a b c:World} (h:Exc X a b) (k:Exc X b c):Exc X a c:=h.trans k (fun _ _ q=>q)
theorem Exc.of {X:Nat→Prop} {w w':World} (h:Below w.heap.size w w'):Exc X w w':=⟨h.os,h.tape,h.output,h.size,fun k hk _=>h.block k hk⟩
theorem Exc.below {X:Nat→Prop} {w w':World} {D:Nat} (h:Exc X w w') (hD:D≤w.heap.size) (hX: ∀b,b<D→ ¬X b):Below D w w':=
 ⟨h.os,h.tape,h.output,h.size,fun k hk=>h.block k (O0 hk hD) (hX k hk)⟩
theorem Exc.mono {X Y:Nat→Prop} {w w':World} (h:Exc X w w') (hXY: ∀i,i<w.heap.size→X i→Y i):Exc Y w w':=
 ⟨h.os,h.tape,h.output,h.size,fun k hk hy=>h.block k hk (fun q=>hy (hXY k hk q))⟩
theorem Exc.set {X:Nat→Prop} {a w:World} (h:Exc X a w) {g:Nat} (j:Nat) (v:Value) (hg:g<a.heap.size→X g):Exc X a (w.setCell ⟨g,j,none⟩ v):=
 ⟨h.os,h.tape,h.output,by simpa[World.setCell] using h.size,fun k hk hx=>(O8 w ⟨g,j,none⟩ v k (fun e=>hx (by subst e;exact hg hk))).trans (h.block k hk hx)⟩
theorem Exc.blk {X:Nat→Prop} {w w':World} (h:Exc X w w') {g:Nat} {e:TypeId} {L:List Value} (hb:Blk w g e L) (hX: ¬X g):Blk w' g e L:=(h.block g (O5.1 hb).1 hX).trans hb
theorem Nw (w:World) (a b:Obj):Below w.heap.size w ((w.alloc a).alloc b):=((OX _ w).alloc (OW _) _).alloc (by simp) _
theorem Blk.lt {W:World} {g:Nat} {e:TypeId} {L:List Value} (h:Blk W g e L):g<W.heap.size:=(O5.1 h).1
end
def t0:Bt:=⟨⟨[],[],[],[]⟩,[],[],[],0,false⟩
def Mf (h:Hd):Prop:=h.kind=3∧h.rows=[]∧h.grid=aW∧ink h.text≠ []
theorem K7 {h:Hd} (hp:Mf h):lvN (.mk h [])=ink h.text:=by
 simp[lvN,jI,hp.2.1,hp.2.2.1,aW,gp,lvL]
def D8 (y:Nd):Prop:= ∃h,y= .mk h []∧Mf h
def OD (h:Hd):Prop:=h.kind=1∧h.rows=[]∧h.grid=aW
def Mi (y:Nd):Prop:= ∃h ks,y= .mk h ks∧OD h∧ ∀z∈ks,D8 z
def Np (y:Nd):Prop:=D8 y∨Mi y
theorem zP: ∀l:List Nd,(∀y∈l,D8 y)→plL l=true∧dpL l≤1
 | [],_=>by simp[plL,dpL]
 | y::l,h=>by
  obtain⟨hd,rfl,hp⟩:=h y (by simp);obtain⟨i1,i2⟩:=zP l (fun z hz=>h z (by simp[hz]));refine⟨?_,?_⟩
  ·simp[plL,plN,i1,tK,hp.1,hp.2.1,hp.2.2.1,aW,jJ]
  ·simp only[dpL,dpN];omega
theorem Ee: ∀l:List Nd,(∀y∈l,Np y)→plL l=true∧dpL l≤2
 | [],_=>by simp[plL,dpL]
 | y::l,h=>by
  obtain⟨i1,i2⟩:=Ee l (fun z hz=>h z (by simp[hz]));rcases h y (by simp)with⟨hd,rfl,hp⟩| ⟨hd,ks,rfl,hp,hk⟩
  ·refine⟨?_,?_⟩
   ·simp[plL,plN,i1,tK,hp.1,hp.2.1,hp.2.2.1,aW,jJ]
   ·simp only[dpL,dpN];omega
  ·obtain⟨j1,j2⟩:=zP ks hk
   refine⟨?_,?_⟩
   ·simp[plL,plN,i1,j1,tK,hp.1,hp.2.1,hp.2.2,aW]
   ·simp only[dpL,dpN];omega
structure nA (b:Bt) (want:List Gly) (n:Nat):Prop where
 opn:b.opn=[]∨ ∃y,b.opn=[y]∧Mi y
 kids: ∀y∈b.kids,Np y
 lv:lvL (b.kids++b.opn)++ink b.text=want
 cnt:aG (b.kids++b.opn)≤n
theorem nA.all {b:Bt} {want:List Gly} {n:Nat} (h:nA b want n):lh b=b.kids++b.opn:=by
 unfold lh;rcases h.opn with e | ⟨y,e,-⟩
 ·rw[e];rfl
 ·rw[e,Ew]
theorem Fe {t:Bt} (h:ink t.text≠ []):D8 (fH t):=⟨_,rfl,rfl,rfl,rfl,h⟩
theorem IL (t:Bt) (h:ink t.text≠ []):lvN (fH t)=ink t.text:=K7 (h:=⟨3,t.line,0,t.text,[],aW⟩) ⟨rfl,rfl,rfl,h⟩
theorem nA.fin {b:Bt} {want:List Gly} {n:Nat} (h:nA b want n):nA (bH b) want (n+1)∧(bH b).text=[]:=by
 refine⟨?_,rfl⟩;unfold bH
 by_cases hi:ink b.text=[]
 ·rw[Pk hi]
  refine⟨h.opn,h.kids,?_,Nat.le_succ_of_le h.cnt⟩;have:=h.lv;rw[hi]at this;exact this
 ·rw[Pd hi]
  have hp:=Fe hi;have hv:=IL b hi;have h3:=h.lv;have h4:=h.cnt;have hc:fK (fH b)=1:=rfl;rcases h.opn with e | ⟨y,e,hy⟩
  ·rw[fJ _ e]
   refine⟨.inl e,fun y hy=>?_,?_,?_⟩
   ·rcases QP.1 hy with q | q
    ·exact h.kids y q
    ·rw[QE.1 q];exact .inl hp
   ·show lvL ((b.kids++ [fH b])++b.opn)++ink []=want
    rw[e,Pn]at h3 ⊢;rw[iq,←h3];simp[lvL,hv,ink]
   ·show aG ((b.kids++ [fH b])++b.opn)≤n+1
    rw[e,Pn]at h4 ⊢;rw[iU];simp only[aG,hc];omega
  ·rw[gI (l:=[]) _ (by rw[e];rfl)]
   obtain⟨hd,ks,rfl,h5,h6⟩:=hy;refine⟨.inr ⟨_,rfl,hd,ks++ [fH b],rfl,h5,fun z hz=>?_⟩,h.kids,?_,?_⟩
   ·rcases QP.1 hz with q | q
    ·exact h6 z q
    ·rw[QE.1 q];exact hp
   ·show lvL (b.kids++ [Nd.mk hd (ks++ [fH b])])++ink []=want
    rw[e]at h3;rw[←h3,iq,iq];simp[lvL,lvN,iq,hv,ink]
   ·show aG (b.kids++ [Nd.mk hd (ks++ [fH b])])≤n+1
    rw[e]at h4;rw[iU]at h4 ⊢;simp only[aG,fK,iU,hc]at h4 ⊢;omega
theorem nA.text {b:Bt} {want:List Gly} {n:Nat} (h:nA b want n) (l:List Gly) (ln:Int):nA (gP b l ln) (want++ink l) (n+1):=by
 refine⟨h.opn,h.kids,?_,Nat.le_succ_of_le h.cnt⟩;show lvL (b.kids++b.opn)++ink (jn b.text l)=_;rw[Nj,←h.lv,Pw]
theorem nA.shut {b:Bt} {want:List Gly} {n:Nat} (h:nA b want n):nA (aP b [1,2,4,5]) want (n+1)∧(aP b [1,2,4,5]).opn=[]∧(aP b [1,2,4,5]).text=[]:=by
 obtain⟨h1,h2⟩:=h.fin;unfold aP;generalize bH b=t at h1 h2;rcases h1.opn with e | ⟨y,e,hy⟩
 ·rw[e]
  exact⟨h1,e,h2⟩
 ·rw[e]
  obtain⟨hd,ks,rfl,h5,h6⟩:=hy;have e2:iM [1,2,4,5] 1 t={t with opn:=[],kids:=t.kids++ [Nd.mk hd ks] }:=by
   unfold iM;rw[e];show(if hd.kind∈ [1,2,4,5] then iM [1,2,4,5] 0 (jR t) else t)=_;rw[Pk (by rw[h5.1];simp),iM,jD (l:=[]) (by rw[e];rfl),fJ _ rfl]
  show nA (iM [1,2,4,5] 1 t) want (n+1)∧_;rw[show([Nd.mk hd ks]:List Nd).length=1 from rfl,e2];refine⟨⟨.inl rfl,fun y hy=>?_,?_,?_⟩,rfl,h2⟩
  ·rcases QP.1 hy with q | q
   ·exact h1.kids y q
   ·rw[QE.1 q];exact .inr ⟨hd,ks,rfl,h5,h6⟩
  ·have h3:=h1.lv
   rw[e]at h3;show lvL ((t.kids++ [Nd.mk hd ks])++ [])++ink t.text=want;rw[Pn];exact h3
  ·have h4:=h1.cnt
   rw[e]at h4;show aG ((t.kids++ [Nd.mk hd ks])++ [])≤n+1;rw[Pn];exact h4
theorem Ga {t:Bt} (h:t.text=[]):bH t=l8 t:=by
 unfold bH;rw[h,Pk (by rfl)]
theorem nA.sect {b:Bt} {want:List Gly} {n:Nat} (h:nA b want n) (ho:b.opn=[]) (ht:b.text=[]) (ln:Int) (l:List Gly):nA (pK b (.mk (bL 1 ln 0 l) [])) (want++ink l) (n+1):=by
 unfold pK;rw[Ga ht];have h3:=h.lv;have h4:=h.cnt;rw[ho,Pn]at h3 h4;rw[ht]at h3;refine⟨.inr ⟨Nd.mk (bL 1 ln 0 l) [],by show b.opn++ [_]=_;rw[ho];rfl,bL 1 ln 0 l,[],rfl,⟨rfl,rfl,rfl⟩,fun z hz=>by cases hz⟩,h.kids,?_,?_⟩
 ·show lvL (b.kids++(b.opn++ [Nd.mk (bL 1 ln 0 l) []]))++ink []=_
  rw[ho,Qa,iq,←h3];simp[lvL,lvN,jI,bL,gp,aW,ink]
 ·show aG (b.kids++(b.opn++ [Nd.mk (bL 1 ln 0 l) []]))≤n+1
  rw[ho,Qa,iU];simp only[aG,fK];omega
structure MtS (s:Md) (want:List Gly) (n:Nat):Prop where
 b:nA s.b want n
 w:s.w=none
 v:s.v=none
 g:s.g=none
structure jT.txt (I:jT) (lg:Txt→List Gly):Prop where
 text: ∀r,r.mac=[]→ ∃wr,I.inl r=some (lg r.text,wr)
 head: ∀r,r.mac=mSH→I.inl r=none
 wds: ∀x,(I.wds [x]).1=lg x
theorem MtS.text {I:jT} {lg:Txt→List Gly} (hI:I.txt lg) {s:Md} {want:List Gly} {n:Nat} (h:MtS s want n) (ln:Int) (x:Txt):MtS (lM I s ⟨ln,[],[],x⟩) (want++ink (lg x)) (n+3):=by
 obtain⟨wr,hw⟩:=hI.text ⟨ln,[],[],x⟩ rfl;unfold lM;rw[h.g];simp only[hw];rw[Pd (by simp)];unfold Aw;simp only[h.v,h.w]
 by_cases hi:ink (lg x)=[]
 ·rw[Pk ⟨trivial,hi⟩,hi,Pn]
  have h1:=h.b.fin.1;exact⟨⟨h1.opn,h1.kids,h1.lv,Pp h1.cnt (by omega)⟩,rfl,rfl,rfl⟩
 ·rw[Pd (fun q=>hi q.2)]
  have h1:=h.b.text (lg x) ln;exact⟨⟨h1.opn,h1.kids,h1.lv,Pp h1.cnt (by omega)⟩,rfl,rfl,rfl⟩
theorem MtS.head {I:jT} {lg:Txt→List Gly} (hI:I.txt lg) {s:Md} {want:List Gly} {n:Nat} (h:MtS s want n) (ln:Int) (x:Txt):MtS (lM I s ⟨ln,mSH,[x],[]⟩) (want++ink (lg x)) (n+3):=by
 have hw:=hI.head ⟨ln,mSH,[x],[]⟩ rfl;unfold lM;rw[h.g];simp only[hw,h.v];have hu:upM s=s:=by unfold upM;rw[h.w]
 rw[hu];have hm:FM I s ⟨ln,mSH,[x],[]⟩=uu I s ⟨ln,mSH,[x],[]⟩ 1 [1,2,4,5]:=by
  unfold FM;rw[Pd (show¬mSH=mTH by decide),Pk rfl]
 rw[hm];obtain⟨h1,h2,h3⟩:=h.b.shut;unfold uu wU cz;simp only;rw[Pd (by simp),Pd (by rw[h2];simp)];have h4:=h1.sect h2 h3 ln (I.wds [x]).1;rw[hI.wds]at h4 ⊢;exact⟨⟨h4.opn,h4.kids,h4.lv,Pp h4.cnt (by omega)⟩,h.w,h.v,h.g⟩
def iO (i:Int) (x:Txt) (hd:Bool):bu:=if hd then⟨i,mSH,[x],[]⟩ else⟨i,[],[],x⟩
theorem MtS.rows {I:jT} {lg:Txt→List Gly} (hI:I.txt lg): ∀(l:List (Int×Txt×Bool)) (s:Md) (want:List Gly) (n:Nat),MtS s want n→MtS ((l.map fun q=>iO q.1 q.2.1 q.2.2).foldl (lM I) s) (want++l.flatMap fun q=>ink (lg q.2.1)) (n+3*l.length)
 | [],s,want,n,h=>by simpa using h
 | q::l,s,want,n,h=>by
  have h1:MtS (lM I s (iO q.1 q.2.1 q.2.2)) (want++ink (lg q.2.1)) (n+3):=by
   obtain⟨i,x,hd⟩:=q
   cases hd
   ·exact h.text hI i x
   ·exact h.head hI i x
  have h2:=MtS.rows hI l _ _ _ h1;rw[PL,Re,List.flatMap_cons,←Pw,Pe,show n+3*(l.length+1)=n+3+3*l.length by omega];exact h2
theorem mt0:MtS md0 [] 0:=⟨⟨.inl rfl,fun y h=>(by cases h),rfl,by simp[md0,aG]⟩,rfl,rfl,rfl⟩
theorem xY {I:jT} {lg:Txt→List Gly} (hI:I.txt lg) (l:List (Int×Txt×Bool)) (hl:l.length≤6000):
  lvL (nu (dE I (l.map fun q=>iO q.1 q.2.1 q.2.2)).b)=l.flatMap fun q=>ink (lg q.2.1):=by
 have h:=MtS.rows hI l md0 [] 0 mt0;rw[Qa]at h;unfold dE fP;generalize List.foldl (lM I) md0 (l.map fun q=>iO q.1 q.2.1 q.2.2)=s at h;generalize (l.flatMap fun q=>ink (lg q.2.1))=want at h;have hb:(CP I s).b=s.b:=by
  unfold CP;have h1:upM s=s:=by unfold upM;rw[h.w]
  have h2:Gc I s=s:=by unfold Gc;rw[h.g]
  have h3:Jf s=s:=by unfold Jf;rw[h.v]
  rw[h1,h2,h3];unfold Av
  split<;>rfl
 rw[hb];unfold nu;obtain⟨f1,f2⟩:=h.b.fin;have f3:=f1.all;have f4:=f1.lv;have f7:=f1.cnt;rw[f2,show ink ([]:List Gly)=[] from rfl,Pn]at f4;have hg: ∀y∈(bH s.b).kids++(bH s.b).opn,Np y:=fun y hy=>by
  rcases QP.1 hy with q | q
  ·exact f1.kids y q
  ·rcases f1.opn with e | ⟨z,e,hz⟩
   ·rw[e]at q;cases q
   ·rw[e]at q
    rw[QE.1 q];exact .inr hz
 obtain⟨g1,g2⟩:=Ee _ hg;rw[f3,FV g1 (by omega) (by omega)];exact f4
def mEX:Txt:=[69,88]
def mEE:Txt:=[69,69]
end Go.Proofs.YtebabjnngdjceaaGreatDoor

/- The document's answer fo -/
import Derived.Test.YtebabjnngdjceaaGreatDoorQ9
import Derived.Deep.RegionHeld3
import Derived.Deep.DeepCutAuto
import Derived.StillTailTactics
set_option linter.unusedVariables false
set_option linter.unusedSimpArgs false
namespace Go.Proofs.YtebabjnngdjceaaGreatDoor
open Go.RowKit
section
def qK (S:Nat→Prop)(w:World)(x:NV)(y:Nd):Prop:=df S w x y.hd∧NsS S w (pv x.kids) y.kids
theorem qK.keep {S:Nat→Prop}{w w':World}{x:NV}{y:Nd}(h:qK S w x y)(k:Kp S w w'):qK S w' x y:=⟨h.1.keep k,h.2.keep k⟩
attribute [local go_sem ↓ high] fA
end
def jw (b:List UInt8):List Value:=[.string ⟨b.toArray⟩]
theorem dF (b:List UInt8):(jw b).length=1:=rfl
def nameAt (l:List (List UInt8))(k:Nat):List UInt8:=l.getD k []
structure Dd where
 kind:Int
 s:List (List UInt8)
 x:Nd
 n:Int
 l:List Int
 g:List Gly
structure DV where
 kind:Int
 s:PV
 x:NV
 n:Int
 l:PV
 g:PV
def rD (t:Bt)(d:Dd):Bt×Bool:=
 if d.kind=1 then({t with nm:=⟨nameAt d.s 0,nameAt d.s 1,nameAt d.s 2,nameAt d.s 3⟩ },false)
 else if d.kind=2 then(rE t d.x,false)
 else if d.kind=3 then dm t d.n
 else if d.kind=4 then(aK t d.l,false)
 else if d.kind=5 then(iA t d.g d.n,false)
 else if d.kind=6 then(bM t,false)
 else(qI t d.x,false)
structure Told (P:Bt→World→Prop)(bp:Value)(t:Bt)(dv:DV)(d:Dd)(w:World):Prop where
 title:d.kind=1→ ∀W,Below w.heap.size w W→Calls Tryz.prog 82 #[bp,.string ⟨(nameAt d.s 0).toArray⟩,.string ⟨(nameAt d.s 1).toArray⟩,.string ⟨(nameAt d.s 2).toArray⟩,.string ⟨(nameAt d.s 3).toArray⟩] W fun e w'=>e=.returned (.tuple #[])∧P (rD t d).1 w'∧ ∀k,w.heap.size≤k→k<W.heap.size→w'.heap[k]? =W.heap[k]?
 opn:d.kind=2→ ∀W,Below w.heap.size w W→Calls Tryz.prog 123 #[bp,.agg (af dv.x).toArray] W fun e w'=>e=.returned (.tuple #[])∧P (rD t d).1 w'
 close:d.kind=3→ ∀W,Below w.heap.size w W→Calls Tryz.prog 88 #[bp,.int .i64 d.n] W fun e w'=>e=.returned (.bool (rD t d).2)∧P (rD t d).1 w'
 shut:d.kind=4→ ∀W,Below w.heap.size w W→Calls Tryz.prog 84 #[bp,pv dv.l] W fun e w'=>e=.returned (.tuple #[])∧P (rD t d).1 w'
 text:d.kind=5→ ∀W,Below w.heap.size w W→Calls Tryz.prog 92 #[bp,pv dv.g,.int .i64 d.n] W fun e w'=>e=.returned (.tuple #[])∧P (rD t d).1 w'
 nd:d.kind=6→ ∀W,Below w.heap.size w W→Calls Tryz.prog 63 #[bp] W fun e w'=>e=.returned (.tuple #[])∧P (rD t d).1 w'
 add:¬d.kind=1→ ¬d.kind=2→ ¬d.kind=3→ ¬d.kind=4→ ¬d.kind=5→ ¬d.kind=6→ ∀W,Below w.heap.size w W→Calls Tryz.prog 94 #[bp,.agg (af dv.x).toArray] W fun e w'=>e=.returned (.tuple #[])∧P (rD t d).1 w'
structure Exq (X:Nat→Prop)(w w':World):Prop where
 os:w'.os=w.os
 tape:w'.tape=w.tape
 output:w'.output=w.output
 size:w.heap.size≤w'.heap.size
 block:∀k,k<w.heap.size→ ¬X k→w'.heap[k]? =w.heap[k]?
def bt0:Bt:=⟨⟨[],[],[],[]⟩,[],[],[],0,false⟩
abbrev BIT:=(Nat→Prop)→(Nat→Prop)→World→Nat→Bt→Prop
def Aft (BI:BIT)(X R S:Nat→Prop)(w:World)(b:Nat)(t':Bt)(w':World):Prop:=
 ∃X' R',BI X' R' w' b t'∧Exq X w w'∧(∀k,X' k→X k∨w.heap.size≤k)∧(∀k,R' k→R k∨S k∨X k∨w.heap.size≤k)
abbrev ak (b:Nat):Value:= .pointer (some ⟨b,0,none⟩)
structure bu (BI:BIT)(TB:World→Prop):Prop where
 lt:∀{X R w b t},BI X R w b t→ ∀k,X k∨R k→k<w.heap.size
 keep:∀{X R w w' b t},BI X R w b t→Kp X w w'→Kp R w w'→w.heap.size≤w'.heap.size→BI X R w' b t
 sep:∀{X R w b t},BI X R w b t→ ∀k,R k→ ¬X k
 more:∀{X R R' w b t},BI X R w b t→(∀k,R k→R' k)→(∀k,R' k→R k∨(k<w.heap.size∧ ¬X k))→BI X R' w b t
 new:∀w,Calls Tryz.prog 24 #[] w fun e w'=> ∃b X,e=.returned (ak b)∧BI X (fun _=>False) w' b bt0∧Below w.heap.size w w'∧ ∀k,X k→w.heap.size≤k
 title:∀{X R w b t} (n0 n1 n2 n3:List UInt8),BI X R w b t→TB w→Calls Tryz.prog 82 #[ak b,.string ⟨n0.toArray⟩,.string ⟨n1.toArray⟩,.string ⟨n2.toArray⟩,.string ⟨n3.toArray⟩] w fun e w'=>e=.returned (.tuple #[])∧Aft BI X R (fun _=>False) w b {t with nm:=⟨n0,n1,n2,n3⟩ } w'
 opn:∀{X R S w b t nv y},BI X R w b t→TB w→qK S w nv y→(∀k,S k→k<w.heap.size∧ ¬X k)→btl t+nlN y≤30000→Calls Tryz.prog 123 #[ak b,.agg (af nv).toArray] w fun e w'=>e=.returned (.tuple #[])∧Aft BI X R S w b (rE t y) w'
 add:∀{X R S w b t nv y},BI X R w b t→TB w→qK S w nv y→(∀k,S k→k<w.heap.size∧ ¬X k)→btl t+nlN y≤30000→Calls Tryz.prog 94 #[ak b,.agg (af nv).toArray] w fun e w'=>e=.returned (.tuple #[])∧Aft BI X R S w b (qI t y) w'
 close:∀{X R w b t} (k:Int),BI X R w b t→TB w→btl t≤30000→Calls Tryz.prog 88 #[ak b,.int .i64 k] w fun e w'=>e=.returned (.bool (dm t k).2)∧Aft BI X R (fun _=>False) w b (dm t k).1 w'
 shut:∀{X R S w b t v} (K:List Int),BI X R w b t→TB w→FsS S 1 il w v K→(∀k,S k→k<w.heap.size∧ ¬X k)→K.length≤30000→btl t≤30000→Calls Tryz.prog 84 #[ak b,v] w fun e w'=>e=.returned (.tuple #[])∧Aft BI X R S w b (aK t K) w'
 text:∀{X R S w b t v} (g:List Gly) (i:Int),BI X R w b t→TB w→FsS S 2 aR w v g→(∀k,S k→k<w.heap.size∧ ¬X k)→btl t+g.length≤30000→Calls Tryz.prog 92 #[ak b,v,.int .i64 i] w fun e w'=>e=.returned (.tuple #[])∧Aft BI X R S w b (iA t g i) w'
 nd:∀{X R w b t},BI X R w b t→TB w→btl t≤30000→Calls Tryz.prog 63 #[ak b] w fun e w'=>e=.returned (.tuple #[])∧Aft BI X R (fun _=>False) w b (bM t) w'
 depth:∀{X R w b t},BI X R w b t→TB w→Calls Tryz.prog 96 #[ak b] w fun e w'=>e=.returned (.int .i64 (t.opn.length:Int))∧Below w.heap.size w w'
 doc:∀{X R w b t},BI X R w b t→TB w→btl t≤30000→Calls Tryz.prog 31 #[ak b] w fun e w'=> ∃s:PV,e=.returned (rP t.nm (pv s))∧NsS (fun k=>w.heap.size≤k∧k<w'.heap.size) w' (pv s) (wz t)∧Below w.heap.size w w'
 tb:∀{w w'},TB w→Below w.heap.size w w'→TB w'
section
variable {α:Type}{e n:Nat}{f:α→List Value}{base:Nat}{W W':World}{x:Value}{l:List α}
theorem ag.kp (h:ag e n f base W x l)(k:∀b,x.ownBlock=some b→W'.heap[b]? =W.heap[b]?):ag e n f base W' x l:=by
 refine⟨h.1,?_⟩;rcases h.2 with h0 | ⟨g,cap,cur,rfl,hg,hh,r⟩
 ·exact .inl h0
 ·exact .inr ⟨g,cap,cur,rfl,hg,(k g rfl).trans hh,r⟩
theorem ag.z (h:ag e n f base W x l):ag e n f 0 W x l:=h.mono (P6 _)
theorem o9 (hf:∀x,(f x).length=n)(h:ag e n f base W x l):FsS (fun b=>x.ownBlock=some b) n f W x l:=by
 refine⟨ag.sl hf h,fun a k c e1 hk=>?_⟩;subst e1;rcases h.2 with⟨hn,-⟩| ⟨g,cap,cur,hx,hb,hgg,-⟩
 ·injection hn with e1 e2 e3
  cases e1
 ·injection hx with e1 e2 e3
  injection e1 with e1
  subst e1;exact⟨rfl,fun _ i _=>by simp[World.frozen?,hgg]⟩
theorem ag.ltb (h:ag e n f base W x l){g:Nat}(hg:x.ownBlock=some g):g<W.heap.size:=by
 obtain⟨-,cur,hc⟩:=h.ty hg;exact(Py.1 hc).1
theorem ag.place (hf:∀x,(f x).length=n)(h:ag e n f base W x l)(hl:0<l.length):∃g c,x=.slice (some ⟨g,0,none⟩) l.length c∧l.length≤c∧base≤g∧ ∃cur,W.heap[g]? =some (.cells cur e (0,0))∧cur.size=c*n:=by
 rcases h.2 with⟨-,h0⟩| ⟨g,cap,cur,rfl,hb,hh,h1,-,hs,-⟩
 ·omega
 ·exact⟨g,cap,rfl,h1,hb,cur,hh,hs⟩
theorem ag.slotA (hf:∀x,(f x).length=n){g c N:Nat}(h:ag e n f base W (.slice (some ⟨g,0,none⟩) N c) l){j:Nat}{s:α}(hs:l[j]? =some s){i:Nat}{u:Value}(hu:(f s)[i]? =some u):
  W.cell? ⟨g,j*n+i,none⟩=some u∧W.frozen? ⟨g,j*n+i,none⟩=false:=by
 have hx:=pK hf l j i s u hs hu;obtain⟨a,c',e2⟩:=(ag.sl hf h).len;injection e2 with e3 e4 e5
 have h':W.ownsRow base e n (.slice (some ⟨g,0,none⟩) N c) l.length (aA f l):=h;rw[e4]at h';refine⟨?_,h'.frozenAt _⟩;have:=World.ownsRow.cells (g:=g) h' rfl (j*n+i) u hx;rw[QV]at this;rw[Ra]at this;exact this
def Ja:List Value→Nat→List Value→List Value
 | xs,_,[]=>xs
 | xs,o,v::r=>Ja (xs.set o v) (o+1) r
theorem Ae:∀(vs u A B:List Value),u.length=vs.length→Ja (A++u++B) A.length vs=A++vs++B
 | [],u,A,B,h=>by
  obtain rfl:u=[]:=Qj h;rfl
 | v::vs,[],A,B,h=>by simp at h
 | v::vs,c::u,A,B,h=>by
  have ih:=Ae vs u (A++ [v]) B (by simpa using h);have e1:(A++c::u++B).set A.length v=(A++ [v])++u++B:=by simp
  show Ja ((A++c::u++B).set A.length v) (A.length+1) vs=_;rw[e1];have e2:(A++ [v]).length=A.length+1:=by simp
  rw[e2]at ih;rw[ih];simp
theorem o8 {g N c:Nat}:∀(vs:List Value) (o:Nat) (xs:List Value) (W:World),W.ownsRow base e n (.slice (some ⟨g,0,none⟩) N c) N xs→(W.setCells g o vs).ownsRow base e n (.slice (some ⟨g,0,none⟩) N c) N (Ja xs o vs)
 | [],_,_,_,h=>h
 | v::vs,o,xs,W,h=>o8 vs (o+1) (xs.set o v) _ (h.stored o v).1
theorem Aa {l:List α}{j:Nat}{s:α}(hs:l[j]? =some s):l=l.take j++ [s]++l.drop (j+1):=by
 obtain⟨hj,rfl⟩:=Pw.1 hs;simp
theorem ag.putA (hf:∀x,(f x).length=n){g c N:Nat}(h:ag e n f base W (.slice (some ⟨g,0,none⟩) N c) l){j:Nat}(hj:j<l.length)(s:α):
  ag e n f base (W.setCells g (j*n) (f s)) (.slice (some ⟨g,0,none⟩) N c) (l.set j s):=by
 obtain⟨a,c',e2⟩:=(ag.sl hf h).len;injection e2 with e3 e4 e5
 have h':W.ownsRow base e n (.slice (some ⟨g,0,none⟩) N c) l.length (aA f l):=h;rw[←e4]at h';have k:=o8 (f s) (j*n) (aA f l) W h';obtain⟨y,hy⟩:∃y,l[j]? =some y:=⟨l[j],Pz hj⟩;have e6:=Aa hy;have e7:l.set j s=l.take j++ [s]++l.drop (j+1):=by
  rw[List.set_eq_take_append_cons_drop];simp[hj]
 have e8:(aA f (l.take j)).length=j*n:=by rw[bQ hf,PW,RD (Nat.le_of_lt hj)]
 have e9:Ja (aA f l) (j*n) (f s)=aA f (l.set j s):=by
  rw[e7,dA,dA,dU]
  conv=>lhs;rw[e6,dA,dA,dU,←e8]
  exact Ae (f s) (f y) _ _ (by rw[hf,hf])
 unfold ag;rw[Ru,e4,←e9]at*;exact k
theorem ag.cut (hf:∀x,(f x).length=n){a:Option Addr}{N c:Nat}(h:ag e n f base W (.slice a N c) l){k:Nat}(hk:k≤l.length):ag e n f base W (.slice a k c) (l.take k):=by
 have hl:(l.take k).length=k:=by rw[PW];omega
 refine⟨bQ hf _,?_⟩;rcases h.2 with⟨h1,h0⟩| ⟨g,cap,cur,h1,hg,hh,hn,hm,hs,ht⟩
 ·injection h1 with e1 e2 e3
  subst e1 e3;have:k=0:=by omega
  subst this;exact .inl ⟨rfl,by simp⟩
 ·injection h1 with e1 e2 e3
  subst e1 e3;refine .inr ⟨g,c,cur,by rw[hl],hg,hh,by omega,hm,hs,?_⟩;rw[hl];have e4:aA f (l.take k)=(aA f l).take (k*n):=by
   have h2:aA f l=aA f (l.take k)++aA f (l.drop k):=by rw[←dA,QK]
   have h3:(aA f (l.take k)).length=k*n:=by rw[bQ hf,hl]
   rw[h2,←h3,List.take_left]
  rw[e4,←ht,List.take_take,RD (R9 _ hk)]
theorem ag.behind (hf:∀x,(f x).length=n){g c k:Nat}{v:Value}(h:ag e n f base W (.slice (some ⟨g,0,none⟩) k c) l){q:Nat}(hq:l.length*n≤q):ag e n f base (W.setCell ⟨g,q,none⟩ v) (.slice (some ⟨g,0,none⟩) k c) l:=by
 obtain⟨a,c',e2⟩:=(ag.sl hf h).len;injection e2 with e3 e4 e5
 have h':W.ownsRow base e n (.slice (some ⟨g,0,none⟩) k c) l.length (aA f l):=h;rw[←e4]at h';have k1:=(h'.stored q v).1;rw[List.set_eq_of_length_le (by rw[bQ hf];exact hq)]at k1;unfold ag;rw[←e4];exact k1
end
theorem vL {B:Nat}{a:World}{b:Nat}(hb:B≤b):∀(vs:List Value) (o:Nat) (w:World),Below B a w→Below B a (w.setCells b o vs)
 | [],_,_,h=>h
 | v::r,o,w,h=>vL hb r (o+1) _ (h.setCell hb _)
theorem jf {X:Nat→Prop}{a:World}{g:Nat}(hg:g<a.heap.size→X g):∀(vs:List Value) (o:Nat) (w:World),Exc X a w→Exc X a (w.setCells g o vs)
 | [],_,_,h=>h
 | v::r,o,w,h=>jf hg r (o+1) _ (h.set o v hg)
theorem mU {g:Nat}:∀(vs:List Value) (o:Nat) (w:World),(w.setCells g o vs).heap.size=w.heap.size
 | [],_,_=>rfl
 | v::r,o,w=>(mU r (o+1) _).trans (gH _ _ _)
theorem aB {g k:Nat}(hk:k≠g):∀(vs:List Value) (o:Nat) (w:World),(w.setCells g o vs).heap[k]? =w.heap[k]?
 | [],_,_=>rfl
 | v::r,o,w=>(aB hk r (o+1) _).trans (PN w ⟨g,o,none⟩ v k hk)
def RwV (R O:Nat→Prop)(w:World)(v:Value)(L:List NV):Prop:=
 (ag 58 10 af 0 w v L∧ ∀k,v.ownBlock=some k→O k)∨(FsS R 10 af w v L∧ ∃a,v=.slice a L.length L.length)
def RwN (R O:Nat→Prop)(w:World)(v:Value)(l:List Nd):Prop:=
 ∃L:List NV,RwV R O w v L∧L.length=l.length∧ ∀(i:Nat) x y,L[i]? =some x→l[i]? =some y→df R w x y.hd∧NsS R w (pv x.kids) y.kids
section
variable {R R' O O':Nat→Prop}{w w':World}{v:Value}{L:List NV}{l:List Nd}
theorem RwV.keep (h:RwV R O w v L)(hR:Kp R w w')(hO:Kp O w w'):RwV R O w' v L:=
 h.imp (fun q=>⟨q.1.kp (fun b e=>hO b (q.2 b e)),q.2⟩) (fun q=>⟨q.1.keep hR,q.2⟩)
theorem RwV.mono (h:RwV R O w v L)(hR:∀k,R k→R' k)(hO:∀k,O k→O' k):RwV R' O' w v L:=
 h.imp (fun q=>⟨q.1,fun k e=>hO k (q.2 k e)⟩) (fun q=>⟨q.1.mono hR,q.2⟩)
theorem RwV.fs (h:RwV R O w v L):FsS (fun k=>R k∨O k) 10 af w v L:=
 h.elim (fun q=>(o9 ay q.1).mono (fun k e=> .inr (q.2 k e))) (fun q=>q.1.mono (fun k=> .inl))
theorem RwV.len (h:RwV R O w v L):∃a c,v=.slice a L.length c∧L.length≤c:=by
 obtain⟨⟨a,c,e,hc,-⟩,-⟩:=h.fs;exact⟨a,c,e,hc⟩
theorem RwN.keep (h:RwN R O w v l)(hR:Kp R w w')(hO:Kp O w w'):RwN R O w' v l:=by
 obtain⟨L,h1,h2,h3⟩:=h;exact⟨L,h1.keep hR hO,h2,fun i x y a b=>⟨(h3 i x y a b).1.keep hR,(h3 i x y a b).2.keep hR⟩⟩
theorem RwN.mono (h:RwN R O w v l)(hR:∀k,R k→R' k)(hO:∀k,O k→O' k):RwN R' O' w v l:=by
 obtain⟨L,h1,h2,h3⟩:=h;exact⟨L,h1.mono hR hO,h2,fun i x y a b=>⟨(h3 i x y a b).1.mono hR,(h3 i x y a b).2.mono hR⟩⟩
theorem RwN.nil (R O:Nat→Prop)(w:World):RwN R O w (.slice none 0 0) []:=⟨[],.inl ⟨ag.nil _ _,fun k e=>by cases e⟩,rfl,fun i x y h=>by simp at h⟩
theorem RwN.len (h:RwN R O w v l):∃a c,v=.slice a l.length c∧l.length≤c:=by
 obtain⟨L,h1,h2,-⟩:=h;obtain⟨a,c,e,hc⟩:=h1.len;exact⟨a,c,h2▸e,h2▸hc⟩
theorem RwN.nss (h:RwN R O w v l):NsS (fun k=>R k∨O k) w v l:=by
 obtain⟨L,h1,h2,h3⟩:=h;exact .mk _ _ L h2 h1.fs (fun i x y a b=>(h3 i x y a b).1.mono (fun k=> .inl)) (fun i x y a b=>(h3 i x y a b).2.mono (fun k=> .inl))
theorem dN.rwn {base:Nat}(h:dN (fun _=>False) base w v l)(hO:∀k,v.ownBlock=some k→O k)(hR:∀k,base≤k→k<w.heap.size→v.ownBlock≠some k→R k):RwN R O w v l:=by
 obtain⟨L,S,h1,h2,h3,h4⟩:=h.own;have m:∀b,S b→R b:=fun b q=>(h3 b q).elim (fun z=>z.elim) (fun z=>hR b z.1 z.2.1 z.2.2)
 exact⟨L,.inl ⟨h1.z,hO⟩,h2,fun i x y a b=>⟨(h4 i x y a b).1.mono m,(h4 i x y a b).2.mono m⟩⟩
theorem RwN.clip (h:RwN R O w v l):∃a c,v=.slice a l.length c∧RwN (fun k=>R k∨O k) O' w (.slice a l.length l.length) l:=by
 obtain⟨L,h1,h2,h3⟩:=h;have hf:=h1.fs;obtain⟨a,c,rfl,hc⟩:=h1.len;refine⟨a,c,by rw[h2],L,.inr ⟨⟨?_,fun a' k c' e hk=>?_⟩,a,by rw[h2]⟩,h2,fun i x y p q=>⟨(h3 i x y p q).1.mono (fun k=> .inl),(h3 i x y p q).2.mono (fun k=> .inl)⟩⟩
 ·obtain⟨⟨a2,c2,e2,hc2,hr⟩,-⟩:=hf
  injection e2 with e3 e4 e5
  subst e3;exact⟨a,_,by rw[h2],Rw h2,hr⟩
 ·injection e with e1 e2 e3
  subst e1 e2;exact hf.2 a' _ c (by rw[h2]) hk
theorem RwV.app1 (h:RwV R O w v L)(hl:L.length≤400000){u:Value}{z:NV}{c0:Nat}{ad:Addr}(hu:u=.slice (some ad) 1 c0)(hf:Fs 10 af w u [z]):
  ∃g c w',(Builtin.append_ #[36,36] 36 #[v,u]).run Tryz.prog w=.ok (.slice (some ⟨g,0,none⟩) (L.length+1) c) w'∧ag 58 10 af 0 w' (.slice (some ⟨g,0,none⟩) (L.length+1) c) (L++ [z])∧Exc O w w'∧(O g∨w.heap.size≤g)∧g<w'.heap.size:=by
 obtain⟨i0,hi,hz0,hz1,hz2⟩:=Ql kY;have fin:∀x' w',(Builtin.append_ #[36,36] 36 #[v,u]).run Tryz.prog w=.ok x' w'→ag 58 10 af 0 w' x' (L++ [z])→Exc O w w'→(∀k,x'.ownBlock=some k→O k∨w.heap.size≤k)→
   ∃g c w',(Builtin.append_ #[36,36] 36 #[v,u]).run Tryz.prog w=.ok (.slice (some ⟨g,0,none⟩) (L.length+1) c) w'∧ag 58 10 af 0 w' (.slice (some ⟨g,0,none⟩) (L.length+1) c) (L++ [z])∧Exc O w w'∧(O g∨w.heap.size≤g)∧g<w'.heap.size:=fun x' w' hr ho hE hg=>by
  obtain⟨g,c,e,-,-,cur,hcur,-⟩:=ho.place ay (by simp);have e2:(L++ [z]).length=L.length+1:=by simp
  rw[e2]at e;subst e;exact⟨g,c,w',hr,ho,hE,hg g rfl,(Py.1 hcur).1⟩
 rcases h with⟨ho,hO⟩| ⟨hF,a,hv⟩
 ·obtain⟨x',w',hr,ho',hg,hq⟩:=lM (P:=Tryz.prog) (t:=36) ay jS (by decide) Tryz.underlying36 hi hz0 hz1 hz2 rfl (by decide) ho hf (P6 _) (by simp;omega)
  refine fin x' w' hr ho' ⟨hg.os,hg.tape,hg.output,hg.size,fun k hk hx=>hg.block k hk (fun e=>hx (hO k e.symm))⟩ (fun k hk=>?_);rcases hq with e | e
  ·exact .inl (hO k (e▸hk))
  ·rw[e]at hk
   exact .inr (Rw (PT hk))
 ·subst hv hu
  rcases a with _ | b
  ·obtain⟨⟨a2,c2,e2,-,hr2⟩,-⟩:=hF
   injection e2 with e3 e4 e5
   subst e3;have hL:L=[]:=by
    cases L with
    | nil=>rfl
    | cons x r=>
     obtain⟨g,off,h0,-⟩:=hr2 0 x rfl
     cases h0
   subst hL;obtain⟨x',w',hr,ho',hg,hq⟩:=lM (P:=Tryz.prog) (t:=36) ay jS (by decide) Tryz.underlying36 hi hz0 hz1 hz2 rfl (by decide) (ag.nil (e:=58) (n:=10) (f:=af) 0 w) hf (P6 _) (by simp);refine fin x' w' hr ho' ⟨hg.os,hg.tape,hg.output,hg.size,fun k hk hx=>hg.block k hk (fun e=>by cases e)⟩ (fun k hk=>?_);rcases hq with e | e
   ·rw[e]at hk;cases hk
   ·rw[e]at hk
    exact .inr (Rw (PT hk))
  ·obtain⟨⟨a2,c2,e2,-,hr2⟩,-⟩:=hF
   injection e2 with e3 e4 e5
   subst e3;obtain⟨a3,c3,e6,-,hr3⟩:=hf;injection e6 with e7 e8 e9
   subst e7;have hold:∀j u,(aA af L)[j]? =some u→w.cell? (b.add j)=some u:=fun j u hj=>by
    obtain⟨q,i,y,rfl,hq,hi'⟩:=jU ay L j u hj;obtain⟨g,off,hg,h0⟩:=hr2 q y hq;obtain rfl:=PT hg;rw[QV];exact h0 i u hi'
   have hnew:∀j u,(aA af [z])[j]? =some u→w.cell? (ad.add j)=some u:=fun j u hj=>by
    obtain⟨q,i,y,rfl,hq,hi'⟩:=jU ay [z] j u hj;obtain⟨g,off,hg,h0⟩:=hr3 q y hq;obtain rfl:=PT hg;rw[QV];exact h0 i u hi'
   obtain⟨x',w',hr,ho',hg⟩:=run_append_arg_grows (P:=Tryz.prog) w 36 36 58 i0 _ 10 144 Tryz.underlying36 hi hz0 hz1 hz2 rfl (by decide) b L.length L.length (aA af L) (bQ ay L) hold ad 1 c0 (aA af [z]) (bQ ay [z]) hnew (by omega) (by unfold maxLen;omega) (by omega);have ho2:ag 58 10 af w.heap.size w' x' (L++ [z]):=by
    unfold ag;rw[dA,PL];exact ho'
   refine fin x' w' hr ho2.z ⟨hg.os,hg.tape,hg.output,hg.size,fun k hk hx=>hg.block k hk (by simp)⟩ (fun k hk=>?_);obtain⟨g,c,e,-,hgb,cur,hcur,-⟩:=ho2.place ay (by simp);subst e;simp only[Value.ownBlock,QC]at hk;exact .inr (by omega)
end
def bP (n:Nm)(kv ov:PV)(pa:Value):List Value:=[.string ⟨n.a.toArray⟩,.string ⟨n.b.toArray⟩,.string ⟨n.c.toArray⟩,.string ⟨n.d.toArray⟩,pv kv,pv ov,pa]
def iW (line:Int)(tv:PV):NV:=⟨3,line,0,tv,aj,aj,[],aj,false,false⟩
def lN (m:Bool)(lab:Nat→Nat)(R:Nat→Prop)(w:World)(pa:Value)(t:Bt):Prop:=
 (t.has=false∧pa=.pointer none∧t.text=[]∧t.line=0)∨
 (t.has=true∧ ∃g tv,pa=.pointer (some ⟨g,0,none⟩)∧Blk w g 58 (af (iW t.line tv))∧
  ((m=true∧lab g=4∧ag 35 2 aR 0 w (pv tv) t.text∧ ∀k,(pv tv).ownBlock=some k→lab k=5)∨(m=false∧R g∧FsS R 2 aR w (pv tv) t.text)))
structure BC (m:Bool)(R:Nat→Prop)(w:World)(b:Nat)(t:Bt)(kv ov:PV)(pa:Value)(LO:List NV)(lab:Nat→Nat):Prop where
 ll:∀k,lab k≠0→k<w.heap.size
 rl:∀k,R k→k<w.heap.size
 sep:∀k,R k→lab k=0
 lb:lab b=1
 box:Blk w b 116 (bP t.nm kv ov pa)
 kids:RwN R (fun k=>lab k=2) w (pv kv) t.kids
 opn:ag 58 10 af 0 w (pv ov) LO
 opb:∀k,(pv ov).ownBlock=some k→lab k=3
 ol:LO.length=t.opn.length
 on:∀(i:Nat) x y,LO[i]? =some x→t.opn[i]? =some y→df R w x y.hd∧RwN R (fun k=>lab k=6+i) w (pv x.kids) y.kids
 para:lN m lab R w pa t
def BM (m:Bool)(X R:Nat→Prop)(w:World)(b:Nat)(t:Bt):Prop:= ∃kv ov pa LO lab,BC m R w b t kv ov pa LO lab∧ ∀k,X k↔lab k≠0
section
variable {m:Bool}{X R R':Nat→Prop}{w w':World}{b:Nat}{t:Bt}{kv ov:PV}{pa:Value}{LO:List NV}{lab lab':Nat→Nat}
theorem lN.keep (h:lN m lab R w pa t)(hR:Kp R w w')(hX:Kp (fun k=>lab k=4∨lab k=5) w w'):lN m lab R w' pa t:=by
 rcases h with h | ⟨h1,g,tv,h2,h3,h4⟩
 ·exact .inl h
 ·refine .inr ⟨h1,g,tv,h2,?_,?_⟩
  ·rcases h4 with⟨-,q,-⟩| ⟨-,q,-⟩
   ·exact(hX g (.inl q)).trans h3
   ·exact(hR g q).trans h3
  ·exact h4.imp (fun⟨q1,q2,q3,q4⟩=>⟨q1,q2,q3.kp (fun k e=>hX k (.inr (q4 k e))),q4⟩) (fun⟨q1,q2,q3⟩=>⟨q1,q2,q3.keep hR⟩)
theorem lN.relab (h:lN m lab R w pa t)(hR:∀k,R k→R' k)(h4:∀k,lab k=4→lab' k=4)(h5:∀k,lab k=5→lab' k=5):lN m lab' R' w pa t:=by
 rcases h with h | ⟨q1,g,tv,q2,q3,q4⟩
 ·exact .inl h
 ·exact .inr ⟨q1,g,tv,q2,q3,q4.imp (fun⟨z1,z2,z3,z4⟩=>⟨z1,h4 _ z2,z3,fun k e=>h5 _ (z4 k e)⟩) (fun⟨z1,z2,z3⟩=>⟨z1,hR _ z2,z3.mono hR⟩)⟩
theorem BC.keep (h:BC m R w b t kv ov pa LO lab)(hX:Kp (fun k=>lab k≠0) w w')(hR:Kp R w w')(hs:w.heap.size≤w'.heap.size):BC m R w' b t kv ov pa LO lab:=
 have kz:∀z,z≠0→Kp (fun k=>lab k=z) w w':=fun z hz k e=>hX k (show lab k≠0 by rw[show lab k=z from e];exact hz)
 ⟨fun k q=>PH (h.ll k q) hs,fun k q=>PH (h.rl k q) hs,h.sep,h.lb,(hX b (show lab b≠0 by rw[h.lb];decide)).trans h.box,h.kids.keep hR (kz 2 (by decide)),
  h.opn.kp (fun k e=>hX k (show lab k≠0 by rw[h.opb k e];decide)),h.opb,h.ol,fun i x y a c=>⟨(h.on i x y a c).1.keep hR,(h.on i x y a c).2.keep hR (kz _ (by omega))⟩,lN.keep h.para hR (fun k q=>hX k (show lab k≠0 by rcases q with q | q<;>omega))⟩
theorem BM.keep (h:BM m X R w b t)(hX:Kp X w w')(hR:Kp R w w')(hs:w.heap.size≤w'.heap.size):BM m X R w' b t:=by
 obtain⟨kv,ov,pa,LO,lab,h1,h2⟩:=h;exact⟨kv,ov,pa,LO,lab,h1.keep (fun k q=>hX k ((h2 k).2 q)) hR hs,h2⟩
theorem BM.lt (h:BM m X R w b t):∀k,X k∨R k→k<w.heap.size:=by
 obtain⟨kv,ov,pa,LO,lab,h1,h2⟩:=h;exact fun k q=>q.elim (fun q=>h1.ll k ((h2 k).1 q)) (h1.rl k)
theorem BM.sep (h:BM m X R w b t):∀k,R k→ ¬X k:=by
 obtain⟨kv,ov,pa,LO,lab,h1,h2⟩:=h;exact fun k q z=>(h2 k).1 z (h1.sep k q)
theorem BM.self (h:BM m X R w b t):X b:=by
 obtain⟨kv,ov,pa,LO,lab,h1,h2⟩:=h;exact(h2 b).2 (by rw[h1.lb];decide)
theorem BC.more (h:BC m R w b t kv ov pa LO lab)(hR:∀k,R k→R' k)(hn:∀k,R' k→R k∨(k<w.heap.size∧lab k=0)):BC m R' w b t kv ov pa LO lab:=
 ⟨h.ll,fun k q=>(hn k q).elim (h.rl k) (fun z=>z.1),fun k q=>(hn k q).elim (h.sep k) (fun z=>z.2),h.lb,h.box,h.kids.mono hR (fun _ q=>q),h.opn,h.opb,h.ol,
  fun i x y a c=>⟨(h.on i x y a c).1.mono hR,(h.on i x y a c).2.mono hR (fun _ q=>q)⟩,lN.relab h.para hR (fun _ q=>q) (fun _ q=>q)⟩
theorem BM.more (h:BM m X R w b t)(hR:∀k,R k→R' k)(hn:∀k,R' k→R k∨(k<w.heap.size∧ ¬X k)):BM m X R' w b t:=by
 obtain⟨kv,ov,pa,LO,lab,h1,h2⟩:=h;refine⟨kv,ov,pa,LO,lab,h1.more hR (fun k q=>(hn k q).imp id (fun z=>⟨z.1,?_⟩)),h2⟩;have:=z.2;rw[h2 k]at this;omega
theorem BC.at (h:BC m R w b t kv ov pa LO lab){i:Nat}{y:Nd}(hy:t.opn[i]? =some y):∃g c x,pv ov=.slice (some ⟨g,0,none⟩) t.opn.length c∧t.opn.length≤c∧lab g=3∧LO[i]? =some x∧(∀(j:Nat) u,(af x)[j]? =some u→w.cell? ⟨g,i*10+j,none⟩=some u∧w.frozen? ⟨g,i*10+j,none⟩=false)∧df R w x y.hd∧RwN R (fun k=>lab k=6+i) w (pv x.kids) y.kids:=by
 have hi:=(Pw.1 hy).1;have hl:=h.ol;obtain⟨x,hx⟩:∃x,LO[i]? =some x:=⟨LO[i]'(by omega),Pz _⟩;obtain⟨g,c,e,hc,-,-⟩:=h.opn.place ay (by omega);have ho:=h.opn;rw[e]at ho;refine⟨g,c,x,by rw[e,hl],by omega,h.opb g (by rw[e];rfl),hx,fun j u hu=>ho.slotA ay hx hu,h.on i x y hx hy⟩
theorem BC.olen (h:BC m R w b t kv ov pa LO lab):∃a c,pv ov=.slice a t.opn.length c∧t.opn.length≤c:=by
 obtain⟨a,c,e,hc,-⟩:=ag.sl ay h.opn;exact⟨a,c,h.ol▸e,h.ol▸hc⟩
end
section
variable {R O:Nat→Prop}{W:World}{v:Value}{l:List Nd}
theorem Hm {α:Type}{n:Nat}{f:α→List Value}(hf:∀x,(f x).length=n){l:List α}{j:Nat}{s s':α}(hs:l[j]? =some s){i:Nat}{u:Value}(hi:i<n)(hu:f s'=(f s).set i u):aA f (l.set j s')=(aA f l).set (j*n+i) u:=by
 have hj:=(Pw.1 hs).1;have e6:=Aa hs;have e7:l.set j s'=l.take j++ [s']++l.drop (j+1):=by
  rw[List.set_eq_take_append_cons_drop];simp[hj]
 have e8:(aA f (l.take j)).length=j*n:=by rw[bQ hf,PW,RD (Nat.le_of_lt hj)]
 rw[e7,dA,dA,dU,hu]
 conv=>rhs;rw[e6,dA,dA,dU,←e8]
 rw[Qx,Qx,Rx _ _ (by omega),show(aA f (l.take j)).length+i-(aA f (l.take j)).length=i by omega,List.set_append_left _ _ (by rw[hf];exact hi)]
theorem EM {α β:Type}{x x':α}{y y':β}{i:Nat}(h:[x][i]? =some x')(k:[y][i]? =some y'):x=x'∧y=y':=by
 match i,h,k with
 | 0,h,k=>exact⟨by simpa using h,by simpa using k⟩
 | i+1,h,k=>simp at h
theorem ag.set1 {α:Type}{e n base:Nat}{f:α→List Value}(hf:∀x,(f x).length=n){l:List α}{g c N:Nat}(h:ag e n f base W (.slice (some ⟨g,0,none⟩) N c) l){j:Nat}{s s':α}(hs:l[j]? =some s){i:Nat}{u:Value}(hi:i<n)(hu:f s'=(f s).set i u):
  ag e n f base (W.setCell ⟨g,j*n+i,none⟩ u) (.slice (some ⟨g,0,none⟩) N c) (l.set j s'):=by
 obtain⟨a,c',e2⟩:=(ag.sl hf h).len;injection e2 with e3 e4 e5
 have h':W.ownsRow base e n (.slice (some ⟨g,0,none⟩) N c) l.length (aA f l):=h;rw[←e4]at h';have k:=(h'.stored (j*n+i) u).1;rw[←Hm hf hs hi hu]at k;unfold ag;rw[Ru,←e4];exact k
theorem RwN.push (h:RwN R O W v l)(hlt:∀k,R k∨O k→k<W.heap.size)(hRO:∀k,R k→ ¬O k){x:NV}{y:Nd}(hx:df R W x y.hd)(hk:NsS R W (pv x.kids) y.kids)(hl:l.length≤400000){W1:World}(b1:Below W.heap.size W W1)(hz:Blk W1 W.heap.size 58 zNd):
  ∃g c w',(Builtin.append_ #[36,36] 36 #[v,.slice (some ⟨W.heap.size,0,none⟩) 1 1]).run Tryz.prog W1=.ok (.slice (some ⟨g,0,none⟩) (l.length+1) c) w'∧l.length+1≤c∧Exc O W w'∧(O g∨W.heap.size≤g)∧g<w'.heap.size∧
   (∀(i:Nat) u,zNd[i]? =some u→w'.cell? ⟨g,l.length*10+i,none⟩=some u∧w'.frozen? ⟨g,l.length*10+i,none⟩=false)∧RwN R (fun k=>k=g) (w'.setCells g (l.length*10) (af x)) (.slice (some ⟨g,0,none⟩) (l.length+1) c) (l++ [y]):=by
 have hRl:∀k,R k→k<W.heap.size:=fun k q=>hlt k (.inl q)
 have kR1:Kp R W W1:=Kp.below b1 hRl;have kO1:Kp O W W1:=Kp.below b1 (fun k q=>hlt k (.inr q));obtain⟨L,h1,h2,h3⟩:=h.keep kR1 kO1;have hz':Fs 10 af W1 (.slice (some ⟨W.heap.size,0,none⟩) 1 1) [(⟨0,0,0,aj,aj,aj,[],aj,false,false⟩:NV)]:=by
  refine⟨_,_,rfl,Px _,fun j x hj=>⟨_,_,rfl,fun i c hi=>?_⟩⟩
  match j,hj with
  | 0,hj=>
   simp at hj;subst hj;rw[Ra,Nat.zero_mul,Ra,hz.cell i];exact hi
  | j+1,hj=>simp at hj
 obtain⟨g,c,w',hr,ho,hE,hg,hgl⟩:=h1.app1 (by omega) rfl hz';rw[h2]at hr ho;have hc:l.length+1≤c:=by
  obtain⟨a,c',e,hc',-⟩:=ag.sl ay ho;injection e with e1 e2 e3
  subst e3
  simpa[h2] using hc'
 have hgR:∀k,R k→k≠g:=fun k q e=>by
  subst e;have:=hRl k q;have:=b1.size;rcases hg with z | z
  ·exact hRO k q z
  ·omega
 have hEW:Exc O W w':=(Exc.of (X:=O) b1).trans hE (fun _ _ q=>q);refine⟨g,c,w',hr,hc,hEW,hg.imp id (fun z=>PY b1.size z),hgl,fun i u hi=>?_,?_⟩
 ·have:=ho.slotA ay (j:=l.length) (s:=⟨0,0,0,aj,aj,aj,[],aj,false,false⟩) (by rw[P5 (by omega),h2];simp) (i:=i) (u:=u) hi
  exact this
 ·have kR:Kp R W (w'.setCells g (l.length*10) (af x)):=fun k q=>(aB (hgR k q) _ _ _).trans (hEW.block k (hRl k q) (hRO k q))
  have kR':Kp R W1 (w'.setCells g (l.length*10) (af x)):=fun k q=>(kR k q).trans (kR1 k q).symm
  have hp:=ho.putA ay (j:=l.length) (by simp[h2]) x;have e1:(L++ [(⟨0,0,0,aj,aj,aj,[],aj,false,false⟩:NV)]).set l.length x=L++ [x]:=by
   rw[Rx _ _ (by omega),h2];simp
  rw[e1]at hp;refine⟨L++ [x],.inl ⟨hp,fun k e=>(PT e).symm⟩,by simp[h2],fun i x' y' hx' hy'=>?_⟩
  by_cases hil:i<l.length
  ·rw[P7 (by omega)]at hx' hy'
   obtain⟨q1,q2⟩:=h3 i x' y' hx' hy';exact⟨q1.keep kR',q2.keep kR'⟩
  ·rw[P5 (by omega)]at hx' hy'
   rw[h2]at hx';obtain⟨rfl,rfl⟩:=EM hx' hy';exact⟨hx.keep kR,hk.keep kR⟩
end
section
variable {m:Bool}{X R:Nat→Prop}{w:World}{b:Nat}{t:Bt}
def Oz (m:Bool)(X R:Nat→Prop)(w:World)(b:Nat)(t t':Bt)(x:NV)(pb po:Nat)(ka:Option Addr)(kn kc:Nat):Prop:=
 X pb∧w.cell? ⟨pb,po,none⟩=some (.slice ka kn kc)∧ ∀W W1,Below w.heap.size w W→Below W.heap.size W W1→Blk W1 W.heap.size 58 zNd→
  ∃g c w',(Builtin.append_ #[36,36] 36 #[.slice ka kn kc,.slice (some ⟨W.heap.size,0,none⟩) 1 1]).run Tryz.prog W1=.ok (.slice (some ⟨g,0,none⟩) (kn+1) c) w'∧kn+1≤c∧kn≤400000∧
   (∀(i:Nat) u,zNd[i]? =some u→w'.cell? ⟨g,kn*10+i,none⟩=some u∧w'.frozen? ⟨g,kn*10+i,none⟩=false)∧
   (w'.setCells g (kn*10) (af x)).cell? ⟨pb,po,none⟩=some (.slice ka kn kc)∧(w'.setCells g (kn*10) (af x)).frozen? ⟨pb,po,none⟩=false∧
   w'.cell? ⟨pb,po,none⟩=some (.slice ka kn kc)∧w'.frozen? ⟨pb,po,none⟩=false∧g≠pb∧(∀k,w.heap.size≤k→k<W.heap.size→k≠g∧w'.heap[k]? =W.heap[k]?)∧
   ∃X',BM m X' R ((w'.setCells g (kn*10) (af x)).setCell ⟨pb,po,none⟩ (.slice (some ⟨g,0,none⟩) (kn+1) c)) b t'∧Exc X w ((w'.setCells g (kn*10) (af x)).setCell ⟨pb,po,none⟩ (.slice (some ⟨g,0,none⟩) (kn+1) c))∧ ∀k,X' k→X k∨w.heap.size≤k
theorem BM.lay0 (h:BM m X R w b t)(ho:t.opn=[])(hl:t.kids.length≤400000){x:NV}{y:Nd}(hx:df R w x y.hd)(hk:NsS R w (pv x.kids) y.kids):∃ka kn kc,Oz m X R w b t (jh t y) x b 4 ka kn kc:=by
 rw[jb y ho];obtain⟨kv,ov,pa,LO,lab,h1,h2⟩:=h;obtain⟨ka,kc,ek,-⟩:=h1.kids.len;have ek':=ek;unfold pv at ek';refine⟨ka,t.kids.length,kc,(h2 b).2 (by rw[h1.lb];decide),?_,fun W W1 hb hb1 hz=>?_⟩
 ·rw[h1.box.cell 4,←ek]
  rfl
 have hblt:=h1.box.lt;have hks:∀k,R k∨lab k=2→k<w.heap.size:=fun k q=>q.elim (h1.rl k) (fun q=>h1.ll k (by omega))
 have kbR:Kp R w W:=Kp.below hb h1.rl;have kbO:Kp (fun k=>lab k=2) w W:=Kp.below hb (fun k q=>hks k (.inr q));obtain⟨g,c,w',hr,hc,hE,hg,hgl,hcell,hrow⟩:=(h1.kids.keep kbR kbO).push (fun k q=>PH (hks k q) hb.size) (fun k q z=>by have:=h1.sep k q;omega) (hx.keep kbR) (hk.keep kbR) hl hb1 hz;rw[ek]at hr;have hgb:b≠g:=fun e=>by
  subst e;rcases hg with z | z
  ·have:=h1.lb;omega
  ·have:=hb.size;omega
 have hg':lab g=2∨w.heap.size≤g:=hg.imp id (fun z=>PY hb.size z);have hEw:Exc (fun k=>lab k=2) w w':=(Exc.of (X:=fun k=>lab k=2) hb).trans hE (fun _ _ q=>q);have box':Blk w' b 116 (bP t.nm kv ov pa):=hEw.blk h1.box (by rw[h1.lb];decide);have box2:Blk (w'.setCells g (t.kids.length*10) (af x)) b 116 (bP t.nm kv ov pa):=(aB hgb _ _ _).trans box';have box3:=box2.set 4 (.slice (some ⟨g,0,none⟩) (t.kids.length+1) c);obtain⟨F,hF⟩:∃F,(w'.setCells g (t.kids.length*10) (af x)).setCell ⟨b,4,none⟩ (.slice (some ⟨g,0,none⟩) (t.kids.length+1) c)=F:=⟨_,rfl⟩;have hFh:∀k,k≠b→F.heap[k]? =(w'.setCells g (t.kids.length*10) (af x)).heap[k]? :=fun k hk=>by rw[←hF];exact PN _ ⟨b,4,none⟩ _ k hk
 have hFs:F.heap.size=w'.heap.size:=by rw[←hF,gH,mU]
 have kS:∀k,k<w.heap.size→lab k≠2→lab k≠1→F.heap[k]? =w.heap[k]? :=fun k q1 q2 q3=>by
  rw[hFh k (fun e=>q3 (by rw[e];exact h1.lb)),aB (fun e=>by subst e;rcases hg' with z | z<;>omega)];exact hEw.block k q1 q2
 have kR:Kp R w F:=fun k q=>kS k (h1.rl k q) (by rw[h1.sep k q];decide) (by rw[h1.sep k q];decide)
 have kz:∀z,z≠0→z≠1→z≠2→Kp (fun k=>lab k=z) w F:=fun z a0 a1 a2 k q=>kS k (h1.ll k (by rw[show lab k=z from q];exact a0)) (by rw[show lab k=z from q];exact a2) (by rw[show lab k=z from q];exact a1)
 have hsz:w.heap.size≤F.heap.size:=by rw[hFs];exact hEw.size
 have hlab:∀k,lab k≠2→lab k≠0→k≠g:=fun k q1 q2 e=>by
  subst e;rcases hg' with z | z
  ·exact q1 z
  ·have:=h1.ll k q2;omega
 have e4:(t.kids++ [y]).length=t.kids.length+1:=by simp
 rw[hF]at box3;refine⟨g,c,w',hr,hc,hl,hcell,by rw[box2.cell 4,←ek];rfl,box2.frozen (by simp[bP]),by rw[box'.cell 4,←ek];rfl,box'.frozen (by simp[bP]),fun e=>hgb e.symm,fun k q1 q2=>⟨fun e=>hg.elim (fun z=>by have:=hks g (.inr z);omega) (fun z=>by omega),hE.block k q2 (fun z=>by have:=hks k (.inr z);omega)⟩,fun k=>lab k≠0∨k=g,?_,?_,fun k q=>?_⟩
 ·rw[hF]
  refine⟨(some ⟨g,0,none⟩,t.kids.length+1,c),ov,pa,LO,fun k=>if k=g then 2 else lab k,⟨fun k q=>?_,fun k q=>PH (h1.rl k q) hsz,fun k q=>?_,?_,box3,?_,?_,fun k e=>?_,h1.ol,fun i x' y' p q=>?_,?_⟩,fun k=>?_⟩
  ·by_cases e:k=g
   ·rw[e,hFs];exact hgl
   ·simp only[PO e]at q
    exact PH (h1.ll k q) hsz
  ·have q0:=h1.sep k q
   have:k≠g:=fun e=>by
    subst e;have:=h1.rl k q;rcases hg' with z | z<;>omega
   simp only[PO this,q0]
  ·simp only[PO hgb,h1.lb]
  ·have hrow':RwN R (fun k=>k=g) F (.slice (some ⟨g,0,none⟩) (t.kids.length+1) c) (t.kids++ [y]):=hrow.keep (fun k q=>hFh k (fun e=>by have:=h1.sep k q;rw[e,h1.lb]at this;omega)) (fun k q=>hFh k (fun e=>hgb (by rw[←e];exact q)))
   exact hrow'.mono (fun _ q=>q) (fun k q=>by simp[show k=g from q])
  ·exact h1.opn.kp (fun k e=>kz 3 (by decide) (by decide) (by decide) k (h1.opb k e))
  ·have:=h1.opb k e
   have hne:=hlab k (by omega) (by omega);simp only[PO hne,this]
  ·obtain⟨q1,q2⟩:=h1.on i x' y' p q
   exact⟨q1.keep kR,(q2.keep kR (kz _ (by omega) (by omega) (by omega))).mono (fun _ z=>z) (fun k z=>by
    have hne:=hlab k (by omega) (by omega);simp only[PO hne];exact z)⟩
  ·have:=lN.keep h1.para kR (fun k q=>q.elim (kz 4 (by decide) (by decide) (by decide) k) (kz 5 (by decide) (by decide) (by decide) k))
   exact lN.relab this (fun _ q=>q) (fun k q=>by
    have hne:=hlab k (by omega) (by omega);simp only[PO hne];exact q) (fun k q=>by
    have hne:=hlab k (by omega) (by omega);simp only[PO hne];exact q)
  ·by_cases e:k=g
   ·simp[e]
   ·simp[e]
 ·rw[hF]
  refine⟨?_,?_,?_,hsz,fun k q1 q2=>?_⟩
  ·rw[←hF];exact((jf (X:=fun _=>True) (a:=w) (g:=g) (fun _=>trivial) (af x) _ w' (hEw.mono (fun _ _ _=>trivial))).set 4 _ (fun _=>trivial)).os
  ·rw[←hF];exact((jf (X:=fun _=>True) (a:=w) (g:=g) (fun _=>trivial) (af x) _ w' (hEw.mono (fun _ _ _=>trivial))).set 4 _ (fun _=>trivial)).tape
  ·rw[←hF];exact((jf (X:=fun _=>True) (a:=w) (g:=g) (fun _=>trivial) (af x) _ w' (hEw.mono (fun _ _ _=>trivial))).set 4 _ (fun _=>trivial)).output
  ·rw[h2 k]at q2
   exact kS k q1 (by omega) (by omega)
 ·rcases q with q | q
  ·exact .inl ((h2 k).2 q)
  ·subst q
   rcases hg' with z | z
   ·exact .inl ((h2 k).2 (by omega))
   ·exact .inr z
end
def NV.wkids (x:NV)(s:PV):NV:=⟨x.kind,x.line,x.n,x.text,s,x.rows,x.cols,x.trows,x.box,x.all⟩
theorem df.wkids {S:Nat→Prop}{w:World}{x:NV}{h:Hd}(k:df S w x h)(s:PV):df S w (x.wkids s) h:=⟨k.kind,k.line,k.n,k.text,k.rows,k.cols,k.trows,k.box,k.all⟩
theorem Fj (X:Nat→Prop){a w':World}(h:Exc X a w')(g o b p:Nat)(vs:List Value)(v:Value):((w'.setCells g o vs).setCell ⟨b,p,none⟩ v).os=a.os∧((w'.setCells g o vs).setCell ⟨b,p,none⟩ v).tape=a.tape∧((w'.setCells g o vs).setCell ⟨b,p,none⟩ v).output=a.output:=by
 have k:=((jf (X:=fun _=>True) (a:=a) (g:=g) (fun _=>trivial) vs o w' (h.mono (fun _ _ _=>trivial))).set (g:=b) p v (fun _=>trivial));exact⟨k.os,k.tape,k.output⟩
section
variable {m:Bool}{X R:Nat→Prop}{w:World}{b:Nat}{t:Bt}
theorem BM.lay1 (h:BM m X R w b t){l:List Nd}{y0:Nd}(ho:t.opn=l++ [y0])(hl:y0.kids.length≤400000){x:NV}{y:Nd}(hx:df R w x y.hd)(hk:NsS R w (pv x.kids) y.kids):
  ∃og oc ka kn kc,w.cell? ⟨b,5,none⟩=some (.slice (some ⟨og,0,none⟩) (l.length+1) oc)∧Oz m X R w b t (jh t y) x og (l.length*10+4) ka kn kc:=by
 rw[ja y ho];obtain⟨kv,ov,pa,LO,lab,h1,h2⟩:=h;have hy0:t.opn[l.length]? =some y0:=by rw[ho];simp
 obtain⟨og,oc,x0,eo,hoc,hog,hx0,hcel,hH0,hK0⟩:=h1.at hy0;have htl:t.opn.length=l.length+1:=by rw[ho];simp
 obtain⟨ka,kc,ek,-⟩:=hK0.len;have c4:=(hcel 4 _ rfl).1;rw[ek]at c4;rw[htl]at eo;refine⟨og,oc,ka,y0.kids.length,kc,?_,(h2 og).2 (by rw[hog];decide),c4,fun W W1 hb hb1 hz=>?_⟩
 ·rw[h1.box.cell 5,←eo]
  rfl
 have hollt:=h1.ll og (by omega);have hks:∀k,R k∨lab k=6+l.length→k<w.heap.size:=fun k q=>q.elim (h1.rl k) (fun q=>h1.ll k (by omega))
 have kbR:Kp R w W:=Kp.below hb h1.rl;have kbO:Kp (fun k=>lab k=6+l.length) w W:=Kp.below hb (fun k q=>hks k (.inr q));obtain⟨g,c,w',hr,hc,hE,hg,hgl,hcell,hrow⟩:=(hK0.keep kbR kbO).push (fun k q=>PH (hks k q) hb.size) (fun k q z=>by have:=h1.sep k q;omega) (hx.keep kbR) (hk.keep kbR) hl hb1 hz;rw[ek]at hr;have hgb:og≠g:=fun e=>by
  subst e;rcases hg with z | z
  ·omega
  ·have:=hb.size;omega
 have hg':lab g=6+l.length∨w.heap.size≤g:=hg.imp id (fun z=>PY hb.size z);have hEw:Exc (fun k=>lab k=6+l.length) w w':=(Exc.of (X:=fun k=>lab k=6+l.length) hb).trans hE (fun _ _ q=>q);have hogN:¬lab og=6+l.length:=by omega
 have ho1:=h1.opn;rw[eo]at ho1;have ho2:ag 58 10 af 0 w' (.slice (some ⟨og,0,none⟩) (l.length+1) oc) LO:=ho1.kp (fun k e=>by
  obtain rfl:=PT e;exact hEw.block og hollt hogN)
 have ho3:ag 58 10 af 0 (w'.setCells g (y0.kids.length*10) (af x)) (.slice (some ⟨og,0,none⟩) (l.length+1) oc) LO:=ho2.kp (fun k e=>by
  obtain rfl:=PT e;exact aB hgb _ _ _)
 have ho4:=ho3.set1 ay (s':=x0.wkids (some ⟨g,0,none⟩,y0.kids.length+1,c)) hx0 (i:=4) (u:= .slice (some ⟨g,0,none⟩) (y0.kids.length+1) c) (by decide) rfl;obtain⟨d2,f2⟩:=ho2.slotA ay hx0 (i:=4) (u:=pv x0.kids) rfl;obtain⟨d3,f3⟩:=ho3.slotA ay hx0 (i:=4) (u:=pv x0.kids) rfl;rw[ek]at d2 d3;obtain⟨F,hF⟩:∃F,(w'.setCells g (y0.kids.length*10) (af x)).setCell ⟨og,l.length*10+4,none⟩ (.slice (some ⟨g,0,none⟩) (y0.kids.length+1) c)=F:=⟨_,rfl⟩;have hFh:∀k,k≠og→F.heap[k]? =(w'.setCells g (y0.kids.length*10) (af x)).heap[k]? :=fun k hk=>by rw[←hF];exact PN _ ⟨og,_,none⟩ _ k hk
 have hFs:F.heap.size=w'.heap.size:=by rw[←hF,gH,mU]
 have kS:∀k,k<w.heap.size→lab k≠6+l.length→lab k≠3→F.heap[k]? =w.heap[k]? :=fun k q1 q2 q3=>by
  rw[hFh k (fun e=>q3 (by rw[e];exact hog)),aB (fun e=>by subst e;rcases hg' with z | z<;>omega)];exact hEw.block k q1 q2
 have kR:Kp R w F:=fun k q=>kS k (h1.rl k q) (by rw[h1.sep k q];omega) (by rw[h1.sep k q];decide)
 have kz:∀z,z≠0→z≠3→z≠6+l.length→Kp (fun k=>lab k=z) w F:=fun z a0 a1 a2 k q=>kS k (h1.ll k (by rw[show lab k=z from q];exact a0)) (by rw[show lab k=z from q];exact a2) (by rw[show lab k=z from q];exact a1)
 have hsz:w.heap.size≤F.heap.size:=by rw[hFs];exact hEw.size
 have hlab:∀k,lab k≠6+l.length→lab k≠0→k≠g:=fun k q1 q2 e=>by
  subst e;rcases hg' with z | z
  ·exact q1 z
  ·have:=h1.ll k q2;omega
 rw[hF]at ho4;refine⟨g,c,w',hr,hc,hl,hcell,d3,f3,d2,f2,fun e=>hgb e.symm,fun k q1 q2=>⟨fun e=>hg.elim (fun z=>by have:=hks g (.inr z);omega) (fun z=>by omega),hE.block k q2 (fun z=>by have:=hks k (.inr z);omega)⟩,fun k=>lab k≠0∨k=g,?_,?_,fun k q=>?_⟩
 ·rw[hF]
  refine⟨kv,ov,pa,LO.set l.length (x0.wkids (some ⟨g,0,none⟩,y0.kids.length+1,c)),fun k=>if k=g then 6+l.length else lab k,⟨fun k q=>?_,fun k q=>PH (h1.rl k q) hsz,fun k q=>?_,?_,?_,?_,?_,fun k e=>?_,?_,fun i x' y' p q=>?_,?_⟩,fun k=>?_⟩
  ·by_cases e:k=g
   ·rw[e,hFs];exact hgl
   ·simp only[PO e]at q
    exact PH (h1.ll k q) hsz
  ·have q0:=h1.sep k q
   have:k≠g:=fun e=>by
    subst e;have:=h1.rl k q;rcases hg' with z | z<;>omega
   simp only[PO this,q0]
  ·have:=hlab b (by rw[h1.lb];omega) (by rw[h1.lb];decide)
   simp only[PO this,h1.lb]
  ·exact(kz 1 (by decide) (by decide) (by omega) b h1.lb).trans h1.box
  ·exact(h1.kids.keep kR (kz 2 (by decide) (by decide) (by omega))).mono (fun _ q=>q) (fun k q=>by
    have hne:=hlab k (by omega) (by omega);simp only[PO hne];exact q)
  ·rw[eo];exact ho4
  ·have:=h1.opb k e
   have hne:=hlab k (by omega) (by omega);simp only[PO hne,this]
  ·rw[Ru,h1.ol,htl];simp
  ·have hil:i<l.length+1:=by
    have:=(Pw.1 q).1
    simpa using this
   by_cases e:i=l.length
   ·subst e
    have hlo:l.length<LO.length:=(Pw.1 hx0).1;rw[RQ hlo]at p;obtain rfl:=PT p;have e2:(l++ [kH y0 y])[l.length]? =some (kH y0 y):=by simp
    rw[e2]at q;obtain rfl:=PT q;refine⟨(hH0.keep kR).wkids _,?_⟩;have hrow':RwN R (fun k=>k=g) F (.slice (some ⟨g,0,none⟩) (y0.kids.length+1) c) (y0.kids++ [y]):=hrow.keep (fun k q=>hFh k (fun e=>by have:=h1.sep k q;rw[e,hog]at this;omega)) (fun k q=>hFh k (fun e=>hgb (by rw[←e];exact q)));exact hrow'.mono (fun _ q=>q) (fun k q=>by simp[show k=g from q])
   ·rw[QY (fun z=>e z.symm)]at p
    have q':t.opn[i]? =some y':=by
     rw[ho];rw[P7 (by omega)]at q⊢;exact q
    obtain⟨q1,q2⟩:=h1.on i x' y' p q';exact⟨q1.keep kR,(q2.keep kR (kz _ (by omega) (by omega) (by omega))).mono (fun _ z=>z) (fun k z=>by
     have hne:=hlab k (by omega) (by omega);simp only[PO hne];exact z)⟩
  ·have:=lN.keep h1.para kR (fun k q=>q.elim (kz 4 (by decide) (by decide) (by omega) k) (kz 5 (by decide) (by decide) (by omega) k))
   exact lN.relab this (fun _ q=>q) (fun k q=>by
    have hne:=hlab k (by omega) (by omega);simp only[PO hne];exact q) (fun k q=>by
    have hne:=hlab k (by omega) (by omega);simp only[PO hne];exact q)
  ·by_cases e:k=g
   ·simp[e]
   ·simp[e]
 ·rw[hF]
  obtain⟨e1,e2,e3⟩:=Fj _ hEw g (y0.kids.length*10) og (l.length*10+4) (af x) (.slice (some ⟨g,0,none⟩) (y0.kids.length+1) c);rw[hF]at e1 e2 e3;refine⟨e1,e2,e3,hsz,fun k q1 q2=>?_⟩;rw[h2 k]at q2;exact kS k q1 (by omega) (by omega)
 ·rcases q with q | q
  ·exact .inl ((h2 k).2 q)
  ·subst q
   rcases hg' with z | z
   ·exact .inl ((h2 k).2 (by omega))
   ·exact .inr z
end
end Go.Proofs.YtebabjnngdjceaaGreatDoor

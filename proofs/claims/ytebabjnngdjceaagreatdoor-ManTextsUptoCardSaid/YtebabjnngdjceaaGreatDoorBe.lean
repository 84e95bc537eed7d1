/- The document's answer for layer 8: has, add, Inside. The document's answer for layer 8: name, Step. The laws' done: what is told goes to the builder's own functions, whatever these keep (P). What the laws of layer 8 ask of a builder, whatever it keeps (BI); TB: what the tables say. Rows of Bools. Ro -/
import Derived.Test.YtebabjnngdjceaaGreatDoorBs
import Derived.Deep.RegionHeld3
import Derived.Deep.DeepCutAuto
import Derived.StillTailTactics
import Derived.Test.YtebabjnngdjceaaGreatDoorZ0
import Derived.ArgAppend
import Derived.Test.YtebabjnngdjceaaGreatDoorDa
set_option linter.unusedVariables false
set_option linter.unusedSimpArgs false
set_option maxRecDepth 100000
set_option maxHeartbeats 8000000
namespace Go.Proofs.YtebabjnngdjceaaGreatDoor
open Go.RowKit
section
def qo (S:Nat→Prop) (w:World) (x:NV) (y:Nd):Prop:=bV S w x y.hd∧NsS S w (pv x.kids) y.kids
theorem qo.keep {S:Nat→Prop} {w w':World} {x:NV} {y:Nd} (h:qo S w x y) (k:Kp S w w'):qo S w' x y:=⟨h.1.keep k,h.2.keep k⟩
attribute [local go_sem ↓ high] eH
end
def oq (b:List UInt8):List Value:=[.string ⟨b.toArray⟩]
theorem dh (b:List UInt8):(oq b).length=1:=rfl
def nameAt (l:List (List UInt8)) (k:Nat):List UInt8:=l.getD k []
structure Dd where
 kind:Int
 s:List (List UInt8)
 x:Nd
 n:Int
 l:List Int
 g:List Gly
structure DV where
 kind:Int
 s:PV
 x:NV
 n:Int
 l:PV
 g:PV
def qQ (t:Bt) (d:Dd):Bt×Bool:=
 if d.kind=1 then({t with nm:=⟨nameAt d.s 0,nameAt d.s 1,nameAt d.s 2,nameAt d.s 3⟩ },false)
 else if d.kind=2 then(pK t d.x,false)
 else if d.kind=3 then dB t d.n
 else if d.kind=4 then(aP t d.l,false)
 else if d.kind=5 then(gP t d.g d.n,false)
 else if d.kind=6 then(bH t,false)
 else(vH t d.x,false)
structure Told (P:Bt→World→Prop) (bp:Value) (t:Bt) (dv:DV) (d:Dd) (w:World):Prop where
 title:d.kind=1→ ∀W,Below w.heap.size w W→Calls Tryz.prog 82 #[bp,.string ⟨(nameAt d.s 0).toArray⟩,.string ⟨(nameAt d.s 1).toArray⟩,.string ⟨(nameAt d.s 2).toArray⟩,.string ⟨(nameAt d.s 3).toArray⟩] W fun e w'=>e= .returned (.tuple #[])∧P (qQ t d).1 w'∧ ∀k,w.heap.size≤k→k<W.heap.size→w'.heap[k]? =W.heap[k]?
 opn:d.kind=2→ ∀W,Below w.heap.size w W→Calls Tryz.prog 123 #[bp,.agg (ae dv.x).toArray] W fun e w'=>e= .returned (.tuple #[])∧P (qQ t d).1 w'
 close:d.kind=3→ ∀W,Below w.heap.size w W→Calls Tryz.prog 88 #[bp,.int .i64 d.n] W fun e w'=>e= .returned (.bool (qQ t d).2)∧P (qQ t d).1 w'
 shut:d.kind=4→ ∀W,Below w.heap.size w W→Calls Tryz.prog 84 #[bp,pv dv.l] W fun e w'=>e= .returned (.tuple #[])∧P (qQ t d).1 w'
 text:d.kind=5→ ∀W,Below w.heap.size w W→Calls Tryz.prog 92 #[bp,pv dv.g,.int .i64 d.n] W fun e w'=>e= .returned (.tuple #[])∧P (qQ t d).1 w'
 nd:d.kind=6→ ∀W,Below w.heap.size w W→Calls Tryz.prog 63 #[bp] W fun e w'=>e= .returned (.tuple #[])∧P (qQ t d).1 w'
 add: ¬d.kind=1→ ¬d.kind=2→ ¬d.kind=3→ ¬d.kind=4→ ¬d.kind=5→ ¬d.kind=6→ ∀W,Below w.heap.size w W→Calls Tryz.prog 94 #[bp,.agg (ae dv.x).toArray] W fun e w'=>e= .returned (.tuple #[])∧P (qQ t d).1 w'
structure Exq (X:Nat→Prop) (w w':World):Prop where
 os:w'.os=w.os
 tape:w'.tape=w.tape
 output:w'.output=w.output
 size:w.heap.size≤w'.heap.size
 block: ∀k,k<w.heap.size→ ¬X k→w'.heap[k]? =w.heap[k]?
def bt0:Bt:=⟨⟨[],[],[],[]⟩,[],[],[],0,false⟩
abbrev BIT:=(Nat→Prop)→(Nat→Prop)→World→Nat→Bt→Prop
def Aft (BI:BIT) (X R S:Nat→Prop) (w:World) (b:Nat) (t':Bt) (w':World):Prop:=
 ∃X' R',BI X' R' w' b t'∧Exq X w w'∧(∀k,X' k→X k∨w.heap.size≤k)∧(∀k,R' k→R k∨S k∨X k∨w.heap.size≤k)
abbrev ax (b:Nat):Value:= .pointer (some ⟨b,0,none⟩)
structure bI (BI:BIT) (TB:World→Prop):Prop where
 lt: ∀{X R w b t},BI X R w b t→ ∀k,X k∨R k→k<w.heap.size
 keep: ∀{X R w w' b t},BI X R w b t→Kp X w w'→Kp R w w'→w.heap.size≤w'.heap.size→BI X R w' b t
 sep: ∀{X R w b t},BI X R w b t→ ∀k,R k→ ¬X k
 more: ∀{X R R' w b t},BI X R w b t→(∀k,R k→R' k)→(∀k,R' k→R k∨(k<w.heap.size∧ ¬X k))→BI X R' w b t
 new: ∀w,Calls Tryz.prog 24 #[] w fun e w'=> ∃b X,e= .returned (ax b)∧BI X (fun _=>False) w' b bt0∧Below w.heap.size w w'∧ ∀k,X k→w.heap.size≤k
 title: ∀{X R w b t} (n0 n1 n2 n3:List UInt8),BI X R w b t→TB w→Calls Tryz.prog 82 #[ax b,.string ⟨n0.toArray⟩,.string ⟨n1.toArray⟩,.string ⟨n2.toArray⟩,.string ⟨n3.toArray⟩] w fun e w'=>e= .returned (.tuple #[])∧Aft BI X R (fun _=>False) w b {t with nm:=⟨n0,n1,n2,n3⟩ } w'
 opn: ∀{X R S w b t nv y},BI X R w b t→TB w→qo S w nv y→(∀k,S k→k<w.heap.size∧ ¬X k)→btl t+nlN y≤30000→Calls Tryz.prog 123 #[ax b,.agg (ae nv).toArray] w fun e w'=>e= .returned (.tuple #[])∧Aft BI X R S w b (pK t y) w'
 add: ∀{X R S w b t nv y},BI X R w b t→TB w→qo S w nv y→(∀k,S k→k<w.heap.size∧ ¬X k)→btl t+nlN y≤30000→Calls Tryz.prog 94 #[ax b,.agg (ae nv).toArray] w fun e w'=>e= .returned (.tuple #[])∧Aft BI X R S w b (vH t y) w'
 close: ∀{X R w b t} (k:Int),BI X R w b t→TB w→btl t≤30000→Calls Tryz.prog 88 #[ax b,.int .i64 k] w fun e w'=>e= .returned (.bool (dB t k).2)∧Aft BI X R (fun _=>False) w b (dB t k).1 w'
 shut: ∀{X R S w b t v} (K:List Int),BI X R w b t→TB w→FsS S 1 gJ w v K→(∀k,S k→k<w.heap.size∧ ¬X k)→K.length≤30000→btl t≤30000→Calls Tryz.prog 84 #[ax b,v] w fun e w'=>e= .returned (.tuple #[])∧Aft BI X R S w b (aP t K) w'
 text: ∀{X R S w b t v} (g:List Gly) (i:Int),BI X R w b t→TB w→FsS S 2 aX w v g→(∀k,S k→k<w.heap.size∧ ¬X k)→btl t+g.length≤30000→Calls Tryz.prog 92 #[ax b,v,.int .i64 i] w fun e w'=>e= .returned (.tuple #[])∧Aft BI X R S w b (gP t g i) w'
 nd: ∀{X R w b t},BI X R w b t→TB w→btl t≤30000→Calls Tryz.prog 63 #[ax b] w fun e w'=>e= .returned (.tuple #[])∧Aft BI X R (fun _=>False) w b (bH t) w'
 depth: ∀{X R w b t},BI X R w b t→TB w→Calls Tryz.prog 96 #[ax b] w fun e w'=>e= .returned (.int .i64 (t.opn.length:Int))∧Below w.heap.size w w'
 doc: ∀{X R w b t},BI X R w b t→TB w→btl t≤30000→Calls Tryz.prog 31 #[ax b] w fun e w'=> ∃s:PV,e= .returned (uC t.nm (pv s))∧NsS (fun k=>w.heap.size≤k∧k<w'.heap.size) w' (pv s) (nu t)∧Below w.heap.size w w'
 tb: ∀{w w'},TB w→Below w.heap.size w w'→TB w'
def uN (b:Bool):List Value:=[.bool b]
theorem Df (b:Bool):(uN b).length=1:=rfl
section
variable {α:Type} {e n:Nat} {f:α→List Value} {base:Nat} {W W':World} {x:Value} {l:List α}
theorem ag.kp (h:ag e n f base W x l) (k: ∀b,x.ownBlock=some b→W'.heap[b]? =W.heap[b]?):ag e n f base W' x l:=by
 refine⟨h.1,?_⟩;rcases h.2 with h0 | ⟨g,cap,cur,rfl,hg,hh,r⟩
 ·exact .inl h0
 ·exact .inr ⟨g,cap,cur,rfl,hg,(k g rfl).trans hh,r⟩
theorem ag.z (h:ag e n f base W x l):ag e n f 0 W x l:=h.mono (Qr _)
theorem oK (hf: ∀x,(f x).length=n) (h:ag e n f base W x l):FsS (fun b=>x.ownBlock=some b) n f W x l:=by
 refine⟨ag.sl hf h,fun a k c e1 hk=>?_⟩;subst e1;rcases h.2 with⟨hn,-⟩| ⟨g,cap,cur,hx,hb,hgg,-⟩
 ·injection hn with e1 e2 e3
  cases e1
 ·injection hx with e1 e2 e3
  injection e1 with e1
  subst e1;exact⟨rfl,fun _ i _=>by simp[World.frozen?,hgg]⟩
theorem ag.ltb (h:ag e n f base W x l) {g:Nat} (hg:x.ownBlock=some g):g<W.heap.size:=by
 obtain⟨-,cur,hc⟩:=h.ty hg;exact(O5.1 hc).1
theorem ag.place (hf: ∀x,(f x).length=n) (h:ag e n f base W x l) (hl:0<l.length): ∃g c,x= .slice (some ⟨g,0,none⟩) l.length c∧l.length≤c∧base≤g∧ ∃cur,W.heap[g]? =some (.cells cur e (0,0))∧cur.size=c*n:=by
 rcases h.2 with⟨-,h0⟩| ⟨g,cap,cur,rfl,hb,hh,h1,-,hs,-⟩
 ·omega
 ·exact⟨g,cap,rfl,h1,hb,cur,hh,hs⟩
theorem ag.slotA (hf: ∀x,(f x).length=n) {g c N:Nat} (h:ag e n f base W (.slice (some ⟨g,0,none⟩) N c) l) {j:Nat} {s:α} (hs:l[j]? =some s) {i:Nat} {u:Value} (hu:(f s)[i]? =some u):
  W.cell? ⟨g,j*n+i,none⟩=some u∧W.frozen? ⟨g,j*n+i,none⟩=false:=by
 have hx:=pq hf l j i s u hs hu;obtain⟨a,c',e2⟩:=(ag.sl hf h).len;injection e2 with e3 e4 e5
 have h':W.ownsRow base e n (.slice (some ⟨g,0,none⟩) N c) l.length (aA f l):=h;rw[e4]at h';refine⟨?_,h'.frozenAt _⟩;have:=World.ownsRow.cells (g:=g) h' rfl (j*n+i) u hx;rw[Qo]at this;rw[Qu]at this;exact this
def Hw:List Value→Nat→List Value→List Value
 | xs,_,[]=>xs
 | xs,o,v::r=>Hw (xs.set o v) (o+1) r
theorem zn: ∀(vs u A B:List Value),u.length=vs.length→Hw (A++u++B) A.length vs=A++vs++B
 | [],u,A,B,h=>by
  obtain rfl:u=[]:=PH h;rfl
 | v::vs,[],A,B,h=>by simp at h
 | v::vs,c::u,A,B,h=>by
  have ih:=zn vs u (A++ [v]) B (by simpa using h);have e1:(A++c::u++B).set A.length v=(A++ [v])++u++B:=by simp
  show Hw ((A++c::u++B).set A.length v) (A.length+1) vs=_;rw[e1];have e2:(A++ [v]).length=A.length+1:=by simp
  rw[e2]at ih;rw[ih];simp
theorem oJ {g N c:Nat}: ∀(vs:List Value) (o:Nat) (xs:List Value) (W:World),W.ownsRow base e n (.slice (some ⟨g,0,none⟩) N c) N xs→(W.setCells g o vs).ownsRow base e n (.slice (some ⟨g,0,none⟩) N c) N (Hw xs o vs)
 | [],_,_,_,h=>h
 | v::vs,o,xs,W,h=>oJ vs (o+1) (xs.set o v) _ (h.stored o v).1
theorem zh {l:List α} {j:Nat} {s:α} (hs:l[j]? =some s):l=l.take j++ [s]++l.drop (j+1):=by
 obtain⟨hj,rfl⟩:=OV.1 hs;simp
theorem ag.putA (hf: ∀x,(f x).length=n) {g c N:Nat} (h:ag e n f base W (.slice (some ⟨g,0,none⟩) N c) l) {j:Nat} (hj:j<l.length) (s:α):
  ag e n f base (W.setCells g (j*n) (f s)) (.slice (some ⟨g,0,none⟩) N c) (l.set j s):=by
 obtain⟨a,c',e2⟩:=(ag.sl hf h).len;injection e2 with e3 e4 e5
 have h':W.ownsRow base e n (.slice (some ⟨g,0,none⟩) N c) l.length (aA f l):=h;rw[←e4]at h';have k:=oJ (f s) (j*n) (aA f l) W h';obtain⟨y,hy⟩: ∃y,l[j]? =some y:=⟨l[j],OU hj⟩;have e6:=zh hy;have e7:l.set j s=l.take j++ [s]++l.drop (j+1):=by
  rw[List.set_eq_take_append_cons_drop];simp[hj]
 have e8:(aA f (l.take j)).length=j*n:=by rw[bP hf,Pg,Rc (Nat.le_of_lt hj)]
 have e9:Hw (aA f l) (j*n) (f s)=aA f (l.set j s):=by
  rw[e7,di,di,dS]
  conv=>lhs;rw[e6,di,di,dS,←e8]
  exact zn (f s) (f y) _ _ (by rw[hf,hf])
 unfold ag;rw[Q0,e4,←e9]at*;exact k
theorem ag.cut (hf: ∀x,(f x).length=n) {a:Option Addr} {N c:Nat} (h:ag e n f base W (.slice a N c) l) {k:Nat} (hk:k≤l.length):ag e n f base W (.slice a k c) (l.take k):=by
 have hl:(l.take k).length=k:=by rw[Pg];omega
 refine⟨bP hf _,?_⟩;rcases h.2 with⟨h1,h0⟩| ⟨g,cap,cur,h1,hg,hh,hn,hm,hs,ht⟩
 ·injection h1 with e1 e2 e3
  subst e1 e3;have:k=0:=by omega
  subst this;exact .inl ⟨rfl,by simp⟩
 ·injection h1 with e1 e2 e3
  subst e1 e3;refine .inr ⟨g,c,cur,by rw[hl],hg,hh,by omega,hm,hs,?_⟩;rw[hl];have e4:aA f (l.take k)=(aA f l).take (k*n):=by
   have h2:aA f l=aA f (l.take k)++aA f (l.drop k):=by rw[←di,Qv]
   have h3:(aA f (l.take k)).length=k*n:=by rw[bP hf,hl]
   rw[h2,←h3,List.take_left]
  rw[e4,←ht,List.take_take,Rc (Nat.mul_le_mul_right _ hk)]
theorem ag.behind (hf: ∀x,(f x).length=n) {g c k:Nat} {v:Value} (h:ag e n f base W (.slice (some ⟨g,0,none⟩) k c) l) {q:Nat} (hq:l.length*n≤q):ag e n f base (W.setCell ⟨g,q,none⟩ v) (.slice (some ⟨g,0,none⟩) k c) l:=by
 obtain⟨a,c',e2⟩:=(ag.sl hf h).len;injection e2 with e3 e4 e5
 have h':W.ownsRow base e n (.slice (some ⟨g,0,none⟩) k c) l.length (aA f l):=h;rw[←e4]at h';have k1:=(h'.stored q v).1;rw[List.set_eq_of_length_le (by rw[bP hf];exact hq)]at k1;unfold ag;rw[←e4];exact k1
end
theorem uO {B:Nat} {a:World} {b:Nat} (hb:B≤b): ∀(vs:List Value) (o:Nat) (w:World),Below B a w→Below B a (w.setCells b o vs)
 | [],_,_,h=>h
 | v::r,o,w,h=>uO hb r (o+1) _ (h.setCell hb _)
theorem iT {X:Nat→Prop} {a:World} {g:Nat} (hg:g<a.heap.size→X g): ∀(vs:List Value) (o:Nat) (w:World),Exc X a w→Exc X a (w.setCells g o vs)
 | [],_,_,h=>h
 | v::r,o,w,h=>iT hg r (o+1) _ (h.set o v hg)
theorem mq {g:Nat}: ∀(vs:List Value) (o:Nat) (w:World),(w.setCells g o vs).heap.size=w.heap.size
 | [],_,_=>rfl
 | v::r,o,w=>(mq r (o+1) _).trans (fF _ _ _)
theorem aC {g k:Nat} (hk:k≠g): ∀(vs:List Value) (o:Nat) (w:World),(w.setCells g o vs).heap[k]? =w.heap[k]?
 | [],_,_=>rfl
 | v::r,o,w=>(aC hk r (o+1) _).trans (O8 w ⟨g,o,none⟩ v k hk)
def RwV (R O:Nat→Prop) (w:World) (v:Value) (L:List NV):Prop:=
 (ag 58 10 ae 0 w v L∧ ∀k,v.ownBlock=some k→O k)∨(FsS R 10 ae w v L∧ ∃a,v= .slice a L.length L.length)
def RwN (R O:Nat→Prop) (w:World) (v:Value) (l:List Nd):Prop:=
 ∃L:List NV,RwV R O w v L∧L.length=l.length∧ ∀(i:Nat) x y,L[i]? =some x→l[i]? =some y→bV R w x y.hd∧NsS R w (pv x.kids) y.kids
section
variable {R R' O O':Nat→Prop} {w w':World} {v:Value} {L:List NV} {l:List Nd}
theorem RwV.keep (h:RwV R O w v L) (hR:Kp R w w') (hO:Kp O w w'):RwV R O w' v L:=
 h.imp (fun q=>⟨q.1.kp (fun b e=>hO b (q.2 b e)),q.2⟩) (fun q=>⟨q.1.keep hR,q.2⟩)
theorem RwV.mono (h:RwV R O w v L) (hR: ∀k,R k→R' k) (hO: ∀k,O k→O' k):RwV R' O' w v L:=
 h.imp (fun q=>⟨q.1,fun k e=>hO k (q.2 k e)⟩) (fun q=>⟨q.1.mono hR,q.2⟩)
theorem RwV.fs (h:RwV R O w v L):FsS (fun k=>R k∨O k) 10 ae w v L:=
 h.elim (fun q=>(oK ay q.1).mono (fun k e=> .inr (q.2 k e))) (fun q=>q.1.mono (fun k=> .inl))
theorem RwV.len (h:RwV R O w v L): ∃a c,v= .slice a L.length c∧L.length≤c:=by
 obtain⟨⟨a,c,e,hc,-⟩,-⟩:=h.fs;exact⟨a,c,e,hc⟩
theorem RwN.keep (h:RwN R O w v l) (hR:Kp R w w') (hO:Kp O w w'):RwN R O w' v l:=by
 obtain⟨L,h1,h2,h3⟩:=h;exact⟨L,h1.keep hR hO,h2,fun i x y a b=>⟨(h3 i x y a b).1.keep hR,(h3 i x y a b).2.keep hR⟩⟩
theorem RwN.mono (h:RwN R O w v l) (hR: ∀k,R k→R' k) (hO: ∀k,O k→O' k):RwN R' O' w v l:=by
 obtain⟨L,h1,h2,h3⟩:=h;exact⟨L,h1.mono hR hO,h2,fun i x y a b=>⟨(h3 i x y a b).1.mono hR,(h3 i x y a b).2.mono hR⟩⟩
theorem RwN.nil (R O:Nat→Prop) (w:World):RwN R O w (.slice none 0 0) []:=⟨[],.inl ⟨ag.nil _ _,fun k e=>by cases e⟩,rfl,fun i x y h=>by simp at h⟩
theorem RwN.len (h:RwN R O w v l): ∃a c,v= .slice a l.length c∧l.length≤c:=by
 obtain⟨L,h1,h2,-⟩:=h;obtain⟨a,c,e,hc⟩:=h1.len;exact⟨a,c,h2▸e,h2▸hc⟩
theorem RwN.nss (h:RwN R O w v l):NsS (fun k=>R k∨O k) w v l:=by
 obtain⟨L,h1,h2,h3⟩:=h;exact .mk _ _ L h2 h1.fs (fun i x y a b=>(h3 i x y a b).1.mono (fun k=> .inl)) (fun i x y a b=>(h3 i x y a b).2.mono (fun k=> .inl))
theorem dL.rwn {base:Nat} (h:dL (fun _=>False) base w v l) (hO: ∀k,v.ownBlock=some k→O k) (hR: ∀k,base≤k→k<w.heap.size→v.ownBlock≠some k→R k):RwN R O w v l:=by
 obtain⟨L,S,h1,h2,h3,h4⟩:=h.own;have m: ∀b,S b→R b:=fun b q=>(h3 b q).elim (fun z=>z.elim) (fun z=>hR b z.1 z.2.1 z.2.2)
 exact⟨L,.inl ⟨h1.z,hO⟩,h2,fun i x y a b=>⟨(h4 i x y a b).1.mono m,(h4 i x y a b).2.mono m⟩⟩
theorem RwN.clip (h:RwN R O w v l): ∃a c,v= .slice a l.length c∧RwN (fun k=>R k∨O k) O' w (.slice a l.length l.length) l:=by
 obtain⟨L,h1,h2,h3⟩:=h;have hf:=h1.fs;obtain⟨a,c,rfl,hc⟩:=h1.len;refine⟨a,c,by rw[h2],L,.inr ⟨⟨?_,fun a' k c' e hk=>?_⟩,a,by rw[h2]⟩,h2,fun i x y p q=>⟨(h3 i x y p q).1.mono (fun k=> .inl),(h3 i x y p q).2.mono (fun k=> .inl)⟩⟩
 ·obtain⟨⟨a2,c2,e2,hc2,hr⟩,-⟩:=hf
  injection e2 with e3 e4 e5
  subst e3;exact⟨a,_,by rw[h2],Q7 h2,hr⟩
 ·injection e with e1 e2 e3
  subst e1 e2;exact hf.2 a' _ c (by rw[h2]) hk
theorem RwV.app1 (h:RwV R O w v L) (hl:L.length≤400000) {u:Value} {z:NV} {c0:Nat} {ad:Addr} (hu:u= .slice (some ad) 1 c0) (hf:Fs 10 ae w u [z]):
  ∃g c w',(Builtin.append_ #[36,36] 36 #[v,u]).run Tryz.prog w= .ok (.slice (some ⟨g,0,none⟩) (L.length+1) c) w'∧ag 58 10 ae 0 w' (.slice (some ⟨g,0,none⟩) (L.length+1) c) (L++ [z])∧Exc O w w'∧(O g∨w.heap.size≤g)∧g<w'.heap.size:=by
 obtain⟨i0,hi,hz0,hz1,hz2⟩:=PU kJ;have fin: ∀x' w',(Builtin.append_ #[36,36] 36 #[v,u]).run Tryz.prog w= .ok x' w'→ag 58 10 ae 0 w' x' (L++ [z])→Exc O w w'→(∀k,x'.ownBlock=some k→O k∨w.heap.size≤k)→
   ∃g c w',(Builtin.append_ #[36,36] 36 #[v,u]).run Tryz.prog w= .ok (.slice (some ⟨g,0,none⟩) (L.length+1) c) w'∧ag 58 10 ae 0 w' (.slice (some ⟨g,0,none⟩) (L.length+1) c) (L++ [z])∧Exc O w w'∧(O g∨w.heap.size≤g)∧g<w'.heap.size:=fun x' w' hr ho hE hg=>by
  obtain⟨g,c,e,-,-,cur,hcur,-⟩:=ho.place ay (by simp);have e2:(L++ [z]).length=L.length+1:=by simp
  rw[e2]at e;subst e;exact⟨g,c,w',hr,ho,hE,hg g rfl,(O5.1 hcur).1⟩
 rcases h with⟨ho,hO⟩| ⟨hF,a,hv⟩
 ·obtain⟨x',w',hr,ho',hg,hq⟩:=lX (P:=Tryz.prog) (t:=36) ay jF (by decide) Tryz.underlying36 hi hz0 hz1 hz2 rfl (by decide) ho hf (Qr _) (by simp;omega)
  refine fin x' w' hr ho' ⟨hg.os,hg.tape,hg.output,hg.size,fun k hk hx=>hg.block k hk (fun e=>hx (hO k e.symm))⟩ (fun k hk=>?_);rcases hq with e | e
  ·exact .inl (hO k (e▸hk))
  ·rw[e]at hk
   exact .inr (Q7 (Ph hk))
 ·subst hv hu
  rcases a with _ | b
  ·obtain⟨⟨a2,c2,e2,-,hr2⟩,-⟩:=hF
   injection e2 with e3 e4 e5
   subst e3;have hL:L=[]:=by
    cases L with
    | nil=>rfl
    | cons x r=>
     obtain⟨g,off,h0,-⟩:=hr2 0 x rfl
     cases h0
   subst hL;obtain⟨x',w',hr,ho',hg,hq⟩:=lX (P:=Tryz.prog) (t:=36) ay jF (by decide) Tryz.underlying36 hi hz0 hz1 hz2 rfl (by decide) (ag.nil (e:=58) (n:=10) (f:=ae) 0 w) hf (Qr _) (by simp);refine fin x' w' hr ho' ⟨hg.os,hg.tape,hg.output,hg.size,fun k hk hx=>hg.block k hk (fun e=>by cases e)⟩ (fun k hk=>?_);rcases hq with e | e
   ·rw[e]at hk;cases hk
   ·rw[e]at hk
    exact .inr (Q7 (Ph hk))
  ·obtain⟨⟨a2,c2,e2,-,hr2⟩,-⟩:=hF
   injection e2 with e3 e4 e5
   subst e3;obtain⟨a3,c3,e6,-,hr3⟩:=hf;injection e6 with e7 e8 e9
   subst e7;have hold: ∀j u,(aA ae L)[j]? =some u→w.cell? (b.add j)=some u:=fun j u hj=>by
    obtain⟨q,i,y,rfl,hq,hi'⟩:=jM ay L j u hj;obtain⟨g,off,hg,h0⟩:=hr2 q y hq;obtain rfl:=Ph hg;rw[Qo];exact h0 i u hi'
   have hnew: ∀j u,(aA ae [z])[j]? =some u→w.cell? (ad.add j)=some u:=fun j u hj=>by
    obtain⟨q,i,y,rfl,hq,hi'⟩:=jM ay [z] j u hj;obtain⟨g,off,hg,h0⟩:=hr3 q y hq;obtain rfl:=Ph hg;rw[Qo];exact h0 i u hi'
   obtain⟨x',w',hr,ho',hg⟩:=run_append_arg_grows (P:=Tryz.prog) w 36 36 58 i0 _ 10 144 Tryz.underlying36 hi hz0 hz1 hz2 rfl (by decide) b L.length L.length (aA ae L) (bP ay L) hold ad 1 c0 (aA ae [z]) (bP ay [z]) hnew (by omega) (by unfold maxLen;omega) (by omega);have ho2:ag 58 10 ae w.heap.size w' x' (L++ [z]):=by
    unfold ag;rw[di,Pb];exact ho'
   refine fin x' w' hr ho2.z ⟨hg.os,hg.tape,hg.output,hg.size,fun k hk hx=>hg.block k hk (by simp)⟩ (fun k hk=>?_);obtain⟨g,c,e,-,hgb,cur,hcur,-⟩:=ho2.place ay (by simp);subst e;simp only[Value.ownBlock,Qi]at hk;exact .inr (by omega)
end
def bM (n:Nm) (kv ov:PV) (pa:Value):List Value:=[.string ⟨n.a.toArray⟩,.string ⟨n.b.toArray⟩,.string ⟨n.c.toArray⟩,.string ⟨n.d.toArray⟩,pv kv,pv ov,pa]
def iN (line:Int) (tv:PV):NV:=⟨3,line,0,tv,aj,aj,[],aj,false,false⟩
def lG (m:Bool) (lab:Nat→Nat) (R:Nat→Prop) (w:World) (pa:Value) (t:Bt):Prop:=
 (t.has=false∧pa= .pointer none∧t.text=[]∧t.line=0)∨
 (t.has=true∧ ∃g tv,pa= .pointer (some ⟨g,0,none⟩)∧Blk w g 58 (ae (iN t.line tv))∧
  ((m=true∧lab g=4∧ag 35 2 aX 0 w (pv tv) t.text∧ ∀k,(pv tv).ownBlock=some k→lab k=5)∨(m=false∧R g∧FsS R 2 aX w (pv tv) t.text)))
structure BC (m:Bool) (R:Nat→Prop) (w:World) (b:Nat) (t:Bt) (kv ov:PV) (pa:Value) (LO:List NV) (lab:Nat→Nat):Prop where
 ll: ∀k,lab k≠0→k<w.heap.size
 rl: ∀k,R k→k<w.heap.size
 sep: ∀k,R k→lab k=0
 lb:lab b=1
 box:Blk w b 116 (bM t.nm kv ov pa)
 kids:RwN R (fun k=>lab k=2) w (pv kv) t.kids
 opn:ag 58 10 ae 0 w (pv ov) LO
 opb: ∀k,(pv ov).ownBlock=some k→lab k=3
 ol:LO.length=t.opn.length
 on: ∀(i:Nat) x y,LO[i]? =some x→t.opn[i]? =some y→bV R w x y.hd∧RwN R (fun k=>lab k=6+i) w (pv x.kids) y.kids
 para:lG m lab R w pa t
def BM (m:Bool) (X R:Nat→Prop) (w:World) (b:Nat) (t:Bt):Prop:= ∃kv ov pa LO lab,BC m R w b t kv ov pa LO lab∧ ∀k,X k↔lab k≠0
section
variable {m:Bool} {X R R':Nat→Prop} {w w':World} {b:Nat} {t:Bt} {kv ov:PV} {pa:Value} {LO:List NV} {lab lab':Nat→Nat}
theorem lG.keep (h:lG m lab R w pa t) (hR:Kp R w w') (hX:Kp (fun k=>lab k=4∨lab k=5) w w'):lG m lab R w' pa t:=by
 rcases h with h | ⟨h1,g,tv,h2,h3,h4⟩
 ·exact .inl h
 ·refine .inr ⟨h1,g,tv,h2,?_,?_⟩
  ·rcases h4 with⟨-,q,-⟩| ⟨-,q,-⟩
   ·exact(hX g (.inl q)).trans h3
   ·exact(hR g q).trans h3
  ·exact h4.imp (fun⟨q1,q2,q3,q4⟩=>⟨q1,q2,q3.kp (fun k e=>hX k (.inr (q4 k e))),q4⟩) (fun⟨q1,q2,q3⟩=>⟨q1,q2,q3.keep hR⟩)
theorem lG.relab (h:lG m lab R w pa t) (hR: ∀k,R k→R' k) (h4: ∀k,lab k=4→lab' k=4) (h5: ∀k,lab k=5→lab' k=5):lG m lab' R' w pa t:=by
 rcases h with h | ⟨q1,g,tv,q2,q3,q4⟩
 ·exact .inl h
 ·exact .inr ⟨q1,g,tv,q2,q3,q4.imp (fun⟨z1,z2,z3,z4⟩=>⟨z1,h4 _ z2,z3,fun k e=>h5 _ (z4 k e)⟩) (fun⟨z1,z2,z3⟩=>⟨z1,hR _ z2,z3.mono hR⟩)⟩
theorem BC.keep (h:BC m R w b t kv ov pa LO lab) (hX:Kp (fun k=>lab k≠0) w w') (hR:Kp R w w') (hs:w.heap.size≤w'.heap.size):BC m R w' b t kv ov pa LO lab:=
 have kz: ∀z,z≠0→Kp (fun k=>lab k=z) w w':=fun z hz k e=>hX k (show lab k≠0 by rw[show lab k=z from e];exact hz)
 ⟨fun k q=>O0 (h.ll k q) hs,fun k q=>O0 (h.rl k q) hs,h.sep,h.lb,(hX b (show lab b≠0 by rw[h.lb];decide)).trans h.box,h.kids.keep hR (kz 2 (by decide)),
  h.opn.kp (fun k e=>hX k (show lab k≠0 by rw[h.opb k e];decide)),h.opb,h.ol,fun i x y a c=>⟨(h.on i x y a c).1.keep hR,(h.on i x y a c).2.keep hR (kz _ (by omega))⟩,lG.keep h.para hR (fun k q=>hX k (show lab k≠0 by rcases q with q | q<;>omega))⟩
theorem BM.keep (h:BM m X R w b t) (hX:Kp X w w') (hR:Kp R w w') (hs:w.heap.size≤w'.heap.size):BM m X R w' b t:=by
 obtain⟨kv,ov,pa,LO,lab,h1,h2⟩:=h;exact⟨kv,ov,pa,LO,lab,h1.keep (fun k q=>hX k ((h2 k).2 q)) hR hs,h2⟩
theorem BM.lt (h:BM m X R w b t): ∀k,X k∨R k→k<w.heap.size:=by
 obtain⟨kv,ov,pa,LO,lab,h1,h2⟩:=h;exact fun k q=>q.elim (fun q=>h1.ll k ((h2 k).1 q)) (h1.rl k)
theorem BM.sep (h:BM m X R w b t): ∀k,R k→ ¬X k:=by
 obtain⟨kv,ov,pa,LO,lab,h1,h2⟩:=h;exact fun k q z=>(h2 k).1 z (h1.sep k q)
theorem BM.self (h:BM m X R w b t):X b:=by
 obtain⟨kv,ov,pa,LO,lab,h1,h2⟩:=h;exact(h2 b).2 (by rw[h1.lb];decide)
theorem BC.more (h:BC m R w b t kv ov pa LO lab) (hR: ∀k,R k→R' k) (hn: ∀k,R' k→R k∨(k<w.heap.size∧lab k=0)):BC m R' w b t kv ov pa LO lab:=
 ⟨h.ll,fun k q=>(hn k q).elim (h.rl k) (fun z=>z.1),fun k q=>(hn k q).elim (h.sep k) (fun z=>z.2),h.lb,h.box,h.kids.mono hR (fun _ q=>q),h.opn,h.opb,h.ol,
  fun i x y a c=>⟨(h.on i x y a c).1.mono hR,(h.on i x y a c).2.mono hR (fun _ q=>q)⟩,lG.relab h.para hR (fun _ q=>q) (fun _ q=>q)⟩
theorem BM.more (h:BM m X R w b t) (hR: ∀k,R k→R' k) (hn: ∀k,R' k→R k∨(k<w.heap.size∧ ¬X k)):BM m X R' w b t:=by
 obtain⟨kv,ov,pa,LO,lab,h1,h2⟩:=h;refine⟨kv,ov,pa,LO,lab,h1.more hR (fun k q=>(hn k q).imp id (fun z=>⟨z.1,?_⟩)),h2⟩;have:=z.2;rw[h2 k]at this;omega
theorem BC.at (h:BC m R w b t kv ov pa LO lab) {i:Nat} {y:Nd} (hy:t.opn[i]? =some y): ∃g c x,pv ov= .slice (some ⟨g,0,none⟩) t.opn.length c∧t.opn.length≤c∧lab g=3∧LO[i]? =some x∧(∀(j:Nat) u,(ae x)[j]? =some u→w.cell? ⟨g,i*10+j,none⟩=some u∧w.frozen? ⟨g,i*10+j,none⟩=false)∧bV R w x y.hd∧RwN R (fun k=>lab k=6+i) w (pv x.kids) y.kids:=by
 have hi:=(OV.1 hy).1;have hl:=h.ol;obtain⟨x,hx⟩: ∃x,LO[i]? =some x:=⟨LO[i]'(by omega),OU _⟩;obtain⟨g,c,e,hc,-,-⟩:=h.opn.place ay (by omega);have ho:=h.opn;rw[e]at ho;refine⟨g,c,x,by rw[e,hl],by omega,h.opb g (by rw[e];rfl),hx,fun j u hu=>ho.slotA ay hx hu,h.on i x y hx hy⟩
theorem BC.olen (h:BC m R w b t kv ov pa LO lab): ∃a c,pv ov= .slice a t.opn.length c∧t.opn.length≤c:=by
 obtain⟨a,c,e,hc,-⟩:=ag.sl ay h.opn;exact⟨a,c,h.ol▸e,h.ol▸hc⟩
end
section
variable {R O:Nat→Prop} {W:World} {v:Value} {l:List Nd}
theorem Gb {α:Type} {n:Nat} {f:α→List Value} (hf: ∀x,(f x).length=n) {l:List α} {j:Nat} {s s':α} (hs:l[j]? =some s) {i:Nat} {u:Value} (hi:i<n) (hu:f s'=(f s).set i u):aA f (l.set j s')=(aA f l).set (j*n+i) u:=by
 have hj:=(OV.1 hs).1;have e6:=zh hs;have e7:l.set j s'=l.take j++ [s']++l.drop (j+1):=by
  rw[List.set_eq_take_append_cons_drop];simp[hj]
 have e8:(aA f (l.take j)).length=j*n:=by rw[bP hf,Pg,Rc (Nat.le_of_lt hj)]
 rw[e7,di,di,dS,hu]
 conv=>rhs;rw[e6,di,di,dS,←e8]
 rw[Pw,Pw,Q9 _ _ (by omega),show(aA f (l.take j)).length+i-(aA f (l.take j)).length=i by omega,List.set_append_left _ _ (by rw[hf];exact hi)]
theorem DL {α β:Type} {x x':α} {y y':β} {i:Nat} (h:[x][i]? =some x') (k:[y][i]? =some y'):x=x'∧y=y':=by
 match i,h,k with
 | 0,h,k=>exact⟨by simpa using h,by simpa using k⟩
 | i+1,h,k=>simp at h
theorem ag.set1 {α:Type} {e n base:Nat} {f:α→List Value} (hf: ∀x,(f x).length=n) {l:List α} {g c N:Nat} (h:ag e n f base W (.slice (some ⟨g,0,none⟩) N c) l) {j:Nat} {s s':α} (hs:l[j]? =some s) {i:Nat} {u:Value} (hi:i<n) (hu:f s'=(f s).set i u):
  ag e n f base (W.setCell ⟨g,j*n+i,none⟩ u) (.slice (some ⟨g,0,none⟩) N c) (l.set j s'):=by
 obtain⟨a,c',e2⟩:=(ag.sl hf h).len;injection e2 with e3 e4 e5
 have h':W.ownsRow base e n (.slice (some ⟨g,0,none⟩) N c) l.length (aA f l):=h;rw[←e4]at h';have k:=(h'.stored (j*n+i) u).1;rw[←Gb hf hs hi hu]at k;unfold ag;rw[Q0,←e4];exact k
theorem RwN.push (h:RwN R O W v l) (hlt: ∀k,R k∨O k→k<W.heap.size) (hRO: ∀k,R k→ ¬O k) {x:NV} {y:Nd} (hx:bV R W x y.hd) (hk:NsS R W (pv x.kids) y.kids) (hl:l.length≤400000) {W1:World} (b1:Below W.heap.size W W1) (hz:Blk W1 W.heap.size 58 zNd):
  ∃g c w',(Builtin.append_ #[36,36] 36 #[v,.slice (some ⟨W.heap.size,0,none⟩) 1 1]).run Tryz.prog W1= .ok (.slice (some ⟨g,0,none⟩) (l.length+1) c) w'∧l.length+1≤c∧Exc O W w'∧(O g∨W.heap.size≤g)∧g<w'.heap.size∧
   (∀(i:Nat) u,zNd[i]? =some u→w'.cell? ⟨g,l.length*10+i,none⟩=some u∧w'.frozen? ⟨g,l.length*10+i,none⟩=false)∧RwN R (fun k=>k=g) (w'.setCells g (l.length*10) (ae x)) (.slice (some ⟨g,0,none⟩) (l.length+1) c) (l++ [y]):=by
 have hRl: ∀k,R k→k<W.heap.size:=fun k q=>hlt k (.inl q)
 have kR1:Kp R W W1:=Kp.below b1 hRl;have kO1:Kp O W W1:=Kp.below b1 (fun k q=>hlt k (.inr q));obtain⟨L,h1,h2,h3⟩:=h.keep kR1 kO1;have hz':Fs 10 ae W1 (.slice (some ⟨W.heap.size,0,none⟩) 1 1) [(⟨0,0,0,aj,aj,aj,[],aj,false,false⟩:NV)]:=by
  refine⟨_,_,rfl,OW _,fun j x hj=>⟨_,_,rfl,fun i c hi=>?_⟩⟩
  match j,hj with
  | 0,hj=>
   simp at hj;subst hj;rw[Qu,Nat.zero_mul,Qu,hz.cell i];exact hi
  | j+1,hj=>simp at hj
 obtain⟨g,c,w',hr,ho,hE,hg,hgl⟩:=h1.app1 (by omega) rfl hz';rw[h2]at hr ho;have hc:l.length+1≤c:=by
  obtain⟨a,c',e,hc',-⟩:=ag.sl ay ho;injection e with e1 e2 e3
  subst e3
  simpa[h2] using hc'
 have hgR: ∀k,R k→k≠g:=fun k q e=>by
  subst e;have:=hRl k q;have:=b1.size;rcases hg with z | z
  ·exact hRO k q z
  ·omega
 have hEW:Exc O W w':=(Exc.of (X:=O) b1).trans hE (fun _ _ q=>q);refine⟨g,c,w',hr,hc,hEW,hg.imp id (fun z=>Pp b1.size z),hgl,fun i u hi=>?_,?_⟩
 ·have:=ho.slotA ay (j:=l.length) (s:=⟨0,0,0,aj,aj,aj,[],aj,false,false⟩) (by rw[Ps (by omega),h2];simp) (i:=i) (u:=u) hi
  exact this
 ·have kR:Kp R W (w'.setCells g (l.length*10) (ae x)):=fun k q=>(aC (hgR k q) _ _ _).trans (hEW.block k (hRl k q) (hRO k q))
  have kR':Kp R W1 (w'.setCells g (l.length*10) (ae x)):=fun k q=>(kR k q).trans (kR1 k q).symm
  have hp:=ho.putA ay (j:=l.length) (by simp[h2]) x;have e1:(L++ [(⟨0,0,0,aj,aj,aj,[],aj,false,false⟩:NV)]).set l.length x=L++ [x]:=by
   rw[Q9 _ _ (by omega),h2];simp
  rw[e1]at hp;refine⟨L++ [x],.inl ⟨hp,fun k e=>(Ph e).symm⟩,by simp[h2],fun i x' y' hx' hy'=>?_⟩
  by_cases hil:i<l.length
  ·rw[PE (by omega)]at hx' hy'
   obtain⟨q1,q2⟩:=h3 i x' y' hx' hy';exact⟨q1.keep kR',q2.keep kR'⟩
  ·rw[Ps (by omega)]at hx' hy'
   rw[h2]at hx';obtain⟨rfl,rfl⟩:=DL hx' hy';exact⟨hx.keep kR,hk.keep kR⟩
end
section
variable {m:Bool} {X R:Nat→Prop} {w:World} {b:Nat} {t:Bt}
def ND (m:Bool) (X R:Nat→Prop) (w:World) (b:Nat) (t t':Bt) (x:NV) (pb po:Nat) (ka:Option Addr) (kn kc:Nat):Prop:=
 X pb∧w.cell? ⟨pb,po,none⟩=some (.slice ka kn kc)∧ ∀W W1,Below w.heap.size w W→Below W.heap.size W W1→Blk W1 W.heap.size 58 zNd→
  ∃g c w',(Builtin.append_ #[36,36] 36 #[.slice ka kn kc,.slice (some ⟨W.heap.size,0,none⟩) 1 1]).run Tryz.prog W1= .ok (.slice (some ⟨g,0,none⟩) (kn+1) c) w'∧kn+1≤c∧kn≤400000∧
   (∀(i:Nat) u,zNd[i]? =some u→w'.cell? ⟨g,kn*10+i,none⟩=some u∧w'.frozen? ⟨g,kn*10+i,none⟩=false)∧
   (w'.setCells g (kn*10) (ae x)).cell? ⟨pb,po,none⟩=some (.slice ka kn kc)∧(w'.setCells g (kn*10) (ae x)).frozen? ⟨pb,po,none⟩=false∧
   w'.cell? ⟨pb,po,none⟩=some (.slice ka kn kc)∧w'.frozen? ⟨pb,po,none⟩=false∧g≠pb∧(∀k,w.heap.size≤k→k<W.heap.size→k≠g∧w'.heap[k]? =W.heap[k]?)∧
   ∃X',BM m X' R ((w'.setCells g (kn*10) (ae x)).setCell ⟨pb,po,none⟩ (.slice (some ⟨g,0,none⟩) (kn+1) c)) b t'∧Exc X w ((w'.setCells g (kn*10) (ae x)).setCell ⟨pb,po,none⟩ (.slice (some ⟨g,0,none⟩) (kn+1) c))∧ ∀k,X' k→X k∨w.heap.size≤k
theorem BM.lay0 (h:BM m X R w b t) (ho:t.opn=[]) (hl:t.kids.length≤400000) {x:NV} {y:Nd} (hx:bV R w x y.hd) (hk:NsS R w (pv x.kids) y.kids): ∃ka kn kc,ND m X R w b t (jS t y) x b 4 ka kn kc:=by
 rw[fJ y ho];obtain⟨kv,ov,pa,LO,lab,h1,h2⟩:=h;obtain⟨ka,kc,ek,-⟩:=h1.kids.len;have ek':=ek;unfold pv at ek';refine⟨ka,t.kids.length,kc,(h2 b).2 (by rw[h1.lb];decide),?_,fun W W1 hb hb1 hz=>?_⟩
 ·rw[h1.box.cell 4,←ek]
  rfl
 have hblt:=h1.box.lt;have hks: ∀k,R k∨lab k=2→k<w.heap.size:=fun k q=>q.elim (h1.rl k) (fun q=>h1.ll k (by omega))
 have kbR:Kp R w W:=Kp.below hb h1.rl;have kbO:Kp (fun k=>lab k=2) w W:=Kp.below hb (fun k q=>hks k (.inr q));obtain⟨g,c,w',hr,hc,hE,hg,hgl,hcell,hrow⟩:=(h1.kids.keep kbR kbO).push (fun k q=>O0 (hks k q) hb.size) (fun k q z=>by have:=h1.sep k q;omega) (hx.keep kbR) (hk.keep kbR) hl hb1 hz;rw[ek]at hr;have hgb:b≠g:=fun e=>by
  subst e;rcases hg with z | z
  ·have:=h1.lb;omega
  ·have:=hb.size;omega
 have hg':lab g=2∨w.heap.size≤g:=hg.imp id (fun z=>Pp hb.size z);have hEw:Exc (fun k=>lab k=2) w w':=(Exc.of (X:=fun k=>lab k=2) hb).trans hE (fun _ _ q=>q);have box':Blk w' b 116 (bM t.nm kv ov pa):=hEw.blk h1.box (by rw[h1.lb];decide);have box2:Blk (w'.setCells g (t.kids.length*10) (ae x)) b 116 (bM t.nm kv ov pa):=(aC hgb _ _ _).trans box';have box3:=box2.set 4 (.slice (some ⟨g,0,none⟩) (t.kids.length+1) c);obtain⟨F,hF⟩: ∃F,(w'.setCells g (t.kids.length*10) (ae x)).setCell ⟨b,4,none⟩ (.slice (some ⟨g,0,none⟩) (t.kids.length+1) c)=F:=⟨_,rfl⟩;have hFh: ∀k,k≠b→F.heap[k]? =(w'.setCells g (t.kids.length*10) (ae x)).heap[k]? :=fun k hk=>by rw[←hF];exact O8 _ ⟨b,4,none⟩ _ k hk
 have hFs:F.heap.size=w'.heap.size:=by rw[←hF,fF,mq]
 have kS: ∀k,k<w.heap.size→lab k≠2→lab k≠1→F.heap[k]? =w.heap[k]? :=fun k q1 q2 q3=>by
  rw[hFh k (fun e=>q3 (by rw[e];exact h1.lb)),aC (fun e=>by subst e;rcases hg' with z | z<;>omega)];exact hEw.block k q1 q2
 have kR:Kp R w F:=fun k q=>kS k (h1.rl k q) (by rw[h1.sep k q];decide) (by rw[h1.sep k q];decide)
 have kz: ∀z,z≠0→z≠1→z≠2→Kp (fun k=>lab k=z) w F:=fun z a0 a1 a2 k q=>kS k (h1.ll k (by rw[show lab k=z from q];exact a0)) (by rw[show lab k=z from q];exact a2) (by rw[show lab k=z from q];exact a1)
 have hsz:w.heap.size≤F.heap.size:=by rw[hFs];exact hEw.size
 have hlab: ∀k,lab k≠2→lab k≠0→k≠g:=fun k q1 q2 e=>by
  subst e;rcases hg' with z | z
  ·exact q1 z
  ·have:=h1.ll k q2;omega
 have e4:(t.kids++ [y]).length=t.kids.length+1:=by simp
 rw[hF]at box3;refine⟨g,c,w',hr,hc,hl,hcell,by rw[box2.cell 4,←ek];rfl,box2.frozen (by simp[bM]),by rw[box'.cell 4,←ek];rfl,box'.frozen (by simp[bM]),fun e=>hgb e.symm,fun k q1 q2=>⟨fun e=>hg.elim (fun z=>by have:=hks g (.inr z);omega) (fun z=>by omega),hE.block k q2 (fun z=>by have:=hks k (.inr z);omega)⟩,fun k=>lab k≠0∨k=g,?_,?_,fun k q=>?_⟩
 ·rw[hF]
  refine⟨(some ⟨g,0,none⟩,t.kids.length+1,c),ov,pa,LO,fun k=>if k=g then 2 else lab k,⟨fun k q=>?_,fun k q=>O0 (h1.rl k q) hsz,fun k q=>?_,?_,box3,?_,?_,fun k e=>?_,h1.ol,fun i x' y' p q=>?_,?_⟩,fun k=>?_⟩
  ·by_cases e:k=g
   ·rw[e,hFs];exact hgl
   ·simp only[Pd e]at q
    exact O0 (h1.ll k q) hsz
  ·have q0:=h1.sep k q
   have:k≠g:=fun e=>by
    subst e;have:=h1.rl k q;rcases hg' with z | z<;>omega
   simp only[Pd this,q0]
  ·simp only[Pd hgb,h1.lb]
  ·have hrow':RwN R (fun k=>k=g) F (.slice (some ⟨g,0,none⟩) (t.kids.length+1) c) (t.kids++ [y]):=hrow.keep (fun k q=>hFh k (fun e=>by have:=h1.sep k q;rw[e,h1.lb]at this;omega)) (fun k q=>hFh k (fun e=>hgb (by rw[←e];exact q)))
   exact hrow'.mono (fun _ q=>q) (fun k q=>by simp[show k=g from q])
  ·exact h1.opn.kp (fun k e=>kz 3 (by decide) (by decide) (by decide) k (h1.opb k e))
  ·have:=h1.opb k e
   have hne:=hlab k (by omega) (by omega);simp only[Pd hne,this]
  ·obtain⟨q1,q2⟩:=h1.on i x' y' p q
   exact⟨q1.keep kR,(q2.keep kR (kz _ (by omega) (by omega) (by omega))).mono (fun _ z=>z) (fun k z=>by
    have hne:=hlab k (by omega) (by omega);simp only[Pd hne];exact z)⟩
  ·have:=lG.keep h1.para kR (fun k q=>q.elim (kz 4 (by decide) (by decide) (by decide) k) (kz 5 (by decide) (by decide) (by decide) k))
   exact lG.relab this (fun _ q=>q) (fun k q=>by
    have hne:=hlab k (by omega) (by omega);simp only[Pd hne];exact q) (fun k q=>by
    have hne:=hlab k (by omega) (by omega);simp only[Pd hne];exact q)
  ·by_cases e:k=g
   ·simp[e]
   ·simp[e]
 ·rw[hF]
  refine⟨?_,?_,?_,hsz,fun k q1 q2=>?_⟩
  ·rw[←hF];exact((iT (X:=fun _=>True) (a:=w) (g:=g) (fun _=>trivial) (ae x) _ w' (hEw.mono (fun _ _ _=>trivial))).set 4 _ (fun _=>trivial)).os
  ·rw[←hF];exact((iT (X:=fun _=>True) (a:=w) (g:=g) (fun _=>trivial) (ae x) _ w' (hEw.mono (fun _ _ _=>trivial))).set 4 _ (fun _=>trivial)).tape
  ·rw[←hF];exact((iT (X:=fun _=>True) (a:=w) (g:=g) (fun _=>trivial) (ae x) _ w' (hEw.mono (fun _ _ _=>trivial))).set 4 _ (fun _=>trivial)).output
  ·rw[h2 k]at q2
   exact kS k q1 (by omega) (by omega)
 ·rcases q with q | q
  ·exact .inl ((h2 k).2 q)
  ·subst q
   rcases hg' with z | z
   ·exact .inl ((h2 k).2 (by omega))
   ·exact .inr z
end
def NV.wkids (x:NV) (s:PV):NV:=⟨x.kind,x.line,x.n,x.text,s,x.rows,x.cols,x.trows,x.box,x.all⟩
theorem bV.wkids {S:Nat→Prop} {w:World} {x:NV} {h:Hd} (k:bV S w x h) (s:PV):bV S w (x.wkids s) h:=⟨k.kind,k.line,k.n,k.text,k.rows,k.cols,k.trows,k.box,k.all⟩
theorem Eh (X:Nat→Prop) {a w':World} (h:Exc X a w') (g o b p:Nat) (vs:List Value) (v:Value):((w'.setCells g o vs).setCell ⟨b,p,none⟩ v).os=a.os∧((w'.setCells g o vs).setCell ⟨b,p,none⟩ v).tape=a.tape∧((w'.setCells g o vs).setCell ⟨b,p,none⟩ v).output=a.output:=by
 have k:=((iT (X:=fun _=>True) (a:=a) (g:=g) (fun _=>trivial) vs o w' (h.mono (fun _ _ _=>trivial))).set (g:=b) p v (fun _=>trivial));exact⟨k.os,k.tape,k.output⟩
section
variable {m:Bool} {X R:Nat→Prop} {w:World} {b:Nat} {t:Bt}
theorem BM.lay1 (h:BM m X R w b t) {l:List Nd} {y0:Nd} (ho:t.opn=l++ [y0]) (hl:y0.kids.length≤400000) {x:NV} {y:Nd} (hx:bV R w x y.hd) (hk:NsS R w (pv x.kids) y.kids):
  ∃og oc ka kn kc,w.cell? ⟨b,5,none⟩=some (.slice (some ⟨og,0,none⟩) (l.length+1) oc)∧ND m X R w b t (jS t y) x og (l.length*10+4) ka kn kc:=by
 rw[gI y ho];obtain⟨kv,ov,pa,LO,lab,h1,h2⟩:=h;have hy0:t.opn[l.length]? =some y0:=by rw[ho];simp
 obtain⟨og,oc,x0,eo,hoc,hog,hx0,hcel,hH0,hK0⟩:=h1.at hy0;have htl:t.opn.length=l.length+1:=by rw[ho];simp
 obtain⟨ka,kc,ek,-⟩:=hK0.len;have c4:=(hcel 4 _ rfl).1;rw[ek]at c4;rw[htl]at eo;refine⟨og,oc,ka,y0.kids.length,kc,?_,(h2 og).2 (by rw[hog];decide),c4,fun W W1 hb hb1 hz=>?_⟩
 ·rw[h1.box.cell 5,←eo]
  rfl
 have hollt:=h1.ll og (by omega);have hks: ∀k,R k∨lab k=6+l.length→k<w.heap.size:=fun k q=>q.elim (h1.rl k) (fun q=>h1.ll k (by omega))
 have kbR:Kp R w W:=Kp.below hb h1.rl;have kbO:Kp (fun k=>lab k=6+l.length) w W:=Kp.below hb (fun k q=>hks k (.inr q));obtain⟨g,c,w',hr,hc,hE,hg,hgl,hcell,hrow⟩:=(hK0.keep kbR kbO).push (fun k q=>O0 (hks k q) hb.size) (fun k q z=>by have:=h1.sep k q;omega) (hx.keep kbR) (hk.keep kbR) hl hb1 hz;rw[ek]at hr;have hgb:og≠g:=fun e=>by
  subst e;rcases hg with z | z
  ·omega
  ·have:=hb.size;omega
 have hg':lab g=6+l.length∨w.heap.size≤g:=hg.imp id (fun z=>Pp hb.size z);have hEw:Exc (fun k=>lab k=6+l.length) w w':=(Exc.of (X:=fun k=>lab k=6+l.length) hb).trans hE (fun _ _ q=>q);have hogN: ¬lab og=6+l.length:=by omega
 have ho1:=h1.opn;rw[eo]at ho1;have ho2:ag 58 10 ae 0 w' (.slice (some ⟨og,0,none⟩) (l.length+1) oc) LO:=ho1.kp (fun k e=>by
  obtain rfl:=Ph e;exact hEw.block og hollt hogN)
 have ho3:ag 58 10 ae 0 (w'.setCells g (y0.kids.length*10) (ae x)) (.slice (some ⟨og,0,none⟩) (l.length+1) oc) LO:=ho2.kp (fun k e=>by
  obtain rfl:=Ph e;exact aC hgb _ _ _)
 have ho4:=ho3.set1 ay (s':=x0.wkids (some ⟨g,0,none⟩,y0.kids.length+1,c)) hx0 (i:=4) (u:= .slice (some ⟨g,0,none⟩) (y0.kids.length+1) c) (by decide) rfl;obtain⟨d2,f2⟩:=ho2.slotA ay hx0 (i:=4) (u:=pv x0.kids) rfl;obtain⟨d3,f3⟩:=ho3.slotA ay hx0 (i:=4) (u:=pv x0.kids) rfl;rw[ek]at d2 d3;obtain⟨F,hF⟩: ∃F,(w'.setCells g (y0.kids.length*10) (ae x)).setCell ⟨og,l.length*10+4,none⟩ (.slice (some ⟨g,0,none⟩) (y0.kids.length+1) c)=F:=⟨_,rfl⟩;have hFh: ∀k,k≠og→F.heap[k]? =(w'.setCells g (y0.kids.length*10) (ae x)).heap[k]? :=fun k hk=>by rw[←hF];exact O8 _ ⟨og,_,none⟩ _ k hk
 have hFs:F.heap.size=w'.heap.size:=by rw[←hF,fF,mq]
 have kS: ∀k,k<w.heap.size→lab k≠6+l.length→lab k≠3→F.heap[k]? =w.heap[k]? :=fun k q1 q2 q3=>by
  rw[hFh k (fun e=>q3 (by rw[e];exact hog)),aC (fun e=>by subst e;rcases hg' with z | z<;>omega)];exact hEw.block k q1 q2
 have kR:Kp R w F:=fun k q=>kS k (h1.rl k q) (by rw[h1.sep k q];omega) (by rw[h1.sep k q];decide)
 have kz: ∀z,z≠0→z≠3→z≠6+l.length→Kp (fun k=>lab k=z) w F:=fun z a0 a1 a2 k q=>kS k (h1.ll k (by rw[show lab k=z from q];exact a0)) (by rw[show lab k=z from q];exact a2) (by rw[show lab k=z from q];exact a1)
 have hsz:w.heap.size≤F.heap.size:=by rw[hFs];exact hEw.size
 have hlab: ∀k,lab k≠6+l.length→lab k≠0→k≠g:=fun k q1 q2 e=>by
  subst e;rcases hg' with z | z
  ·exact q1 z
  ·have:=h1.ll k q2;omega
 rw[hF]at ho4;refine⟨g,c,w',hr,hc,hl,hcell,d3,f3,d2,f2,fun e=>hgb e.symm,fun k q1 q2=>⟨fun e=>hg.elim (fun z=>by have:=hks g (.inr z);omega) (fun z=>by omega),hE.block k q2 (fun z=>by have:=hks k (.inr z);omega)⟩,fun k=>lab k≠0∨k=g,?_,?_,fun k q=>?_⟩
 ·rw[hF]
  refine⟨kv,ov,pa,LO.set l.length (x0.wkids (some ⟨g,0,none⟩,y0.kids.length+1,c)),fun k=>if k=g then 6+l.length else lab k,⟨fun k q=>?_,fun k q=>O0 (h1.rl k q) hsz,fun k q=>?_,?_,?_,?_,?_,fun k e=>?_,?_,fun i x' y' p q=>?_,?_⟩,fun k=>?_⟩
  ·by_cases e:k=g
   ·rw[e,hFs];exact hgl
   ·simp only[Pd e]at q
    exact O0 (h1.ll k q) hsz
  ·have q0:=h1.sep k q
   have:k≠g:=fun e=>by
    subst e;have:=h1.rl k q;rcases hg' with z | z<;>omega
   simp only[Pd this,q0]
  ·have:=hlab b (by rw[h1.lb];omega) (by rw[h1.lb];decide)
   simp only[Pd this,h1.lb]
  ·exact(kz 1 (by decide) (by decide) (by omega) b h1.lb).trans h1.box
  ·exact(h1.kids.keep kR (kz 2 (by decide) (by decide) (by omega))).mono (fun _ q=>q) (fun k q=>by
    have hne:=hlab k (by omega) (by omega);simp only[Pd hne];exact q)
  ·rw[eo];exact ho4
  ·have:=h1.opb k e
   have hne:=hlab k (by omega) (by omega);simp only[Pd hne,this]
  ·rw[Q0,h1.ol,htl];simp
  ·have hil:i<l.length+1:=by
    have:=(OV.1 q).1
    simpa using this
   by_cases e:i=l.length
   ·subst e
    have hlo:l.length<LO.length:=(OV.1 hx0).1;rw[List.getElem?_set_self hlo]at p;obtain rfl:=Ph p;have e2:(l++ [kE y0 y])[l.length]? =some (kE y0 y):=by simp
    rw[e2]at q;obtain rfl:=Ph q;refine⟨(hH0.keep kR).wkids _,?_⟩;have hrow':RwN R (fun k=>k=g) F (.slice (some ⟨g,0,none⟩) (y0.kids.length+1) c) (y0.kids++ [y]):=hrow.keep (fun k q=>hFh k (fun e=>by have:=h1.sep k q;rw[e,hog]at this;omega)) (fun k q=>hFh k (fun e=>hgb (by rw[←e];exact q)));exact hrow'.mono (fun _ q=>q) (fun k q=>by simp[show k=g from q])
   ·rw[QH (fun z=>e z.symm)]at p
    have q':t.opn[i]? =some y':=by
     rw[ho];rw[PE (by omega)]at q ⊢;exact q
    obtain⟨q1,q2⟩:=h1.on i x' y' p q';exact⟨q1.keep kR,(q2.keep kR (kz _ (by omega) (by omega) (by omega))).mono (fun _ z=>z) (fun k z=>by
     have hne:=hlab k (by omega) (by omega);simp only[Pd hne];exact z)⟩
  ·have:=lG.keep h1.para kR (fun k q=>q.elim (kz 4 (by decide) (by decide) (by omega) k) (kz 5 (by decide) (by decide) (by omega) k))
   exact lG.relab this (fun _ q=>q) (fun k q=>by
    have hne:=hlab k (by omega) (by omega);simp only[Pd hne];exact q) (fun k q=>by
    have hne:=hlab k (by omega) (by omega);simp only[Pd hne];exact q)
  ·by_cases e:k=g
   ·simp[e]
   ·simp[e]
 ·rw[hF]
  obtain⟨e1,e2,e3⟩:=Eh _ hEw g (y0.kids.length*10) og (l.length*10+4) (ae x) (.slice (some ⟨g,0,none⟩) (y0.kids.length+1) c);rw[hF]at e1 e2 e3;refine⟨e1,e2,e3,hsz,fun k q1 q2=>?_⟩;rw[h2 k]at q2;exact kS k q1 (by omega) (by omega)
 ·rcases q with q | q
  ·exact .inl ((h2 k).2 q)
  ·subst q
   rcases hg' with z | z
   ·exact .inl ((h2 k).2 (by omega))
   ·exact .inr z
end
section
theorem wD {l:List (List Gly)} {p:Nat} {x:List Gly} (hx:l[p]? =some x):gp (l.take (p+1))=gp (l.take p)++ink x:=by
 rw[PD,hx];simp[gp]
theorem Bq {l:List dm} {p:Nat} {x:dm} (hx:l[p]? =some x):((l.take (p+1)).flatMap fun r=>gp r.2)=((l.take p).flatMap fun r=>gp r.2)++gp x.2:=by
 rw[PD,hx];simp
theorem FY {l:List Gly} {p:Nat} {x:Gly} (hx:l[p]? =some x):ink (l.take (p+1))=ink (l.take p)++ink [x]:=by
 rw[PD,hx];simp[ink]
theorem yw (l:List Gly):(ink l).length≤l.length:=List.length_filter_le _ _
theorem oZ (l:List (List Gly)):(gp l).length≤lens l:=by
 induction l with
 | nil=>simp[gp,lens]
 | cons x l ih=>
  have:=yw x;simp only[gp,List.flatMap_cons,Pb,lens,PL,QZ]at*;omega
theorem rX (l:List dm):(l.flatMap fun r=>gp r.2).length≤bX l:=by
 induction l with
 | nil=>simp[bX]
 | cons x l ih=>
  have:=oZ x.2;have e:trl x=1+x.2.length+lens x.2:=rfl;simp only[List.flatMap_cons,Pb,bX,PL,QZ]at*;omega
mutual
theorem M0: ∀x:Nd,(lvN x).length≤nlN x
 | .mk h ks=>by
  have h1:=yw h.text;have h2:=oZ h.rows;have h3:=rX h.grid.rows;have h4:=yg ks;simp only[lvN,jI,nlN,hdl,Pb];omega
theorem yg: ∀l:List Nd,(lvL l).length≤nlL l
 | []=>by simp[lvL,nlL]
 | x::l=>by
  have h1:=M0 x;have h2:=yg l;simp only[lvL,nlL,Pb];omega
end
def InQ (base:Nat) (l:List Gly) (w:World) (e:Ending) (w':World):Prop:= ∃u,e= .returned u∧aI base w' u l∧Below base w w'
attribute [local go_sem ↓ high] cO
theorem nH (base:Nat) (S:Nat→Prop) (acc l:List Gly) (v u:Value) (w:World) (hbw:base≤w.heap.size) (hO:aI base w v acc) (hu:FsS S 2 aX w u l) (hS: ∀b,S b→b<base) (hl:acc.length+l.length≤400000):
  Calls Tryz.prog 32 #[v,u] w (InQ base (acc++ink l) w):=by
 have HU:=zH hu;have HS:=zH hS;have HO0:=zH hO;obtain⟨ua,uc,rfl⟩:=hu.1.len;clear hu hS hO;go_enter Tryz.func32,Tryz.ntmps32
 go_wp2_with fail
 go_loopw [0,5] (fun s i wr=> ∃j:Nat,j≤l.length∧i= .int .i64 (j:Int)∧Hid (aI base wr s (acc++ink (l.take j)))∧Hid (Below base w wr)) (fun _ i _=>l.length-(intOf i).toNat)
 case atStart=>exact⟨0,by omega,rfl,zH (by simpa[ink] using HO0.out),zH (OX _ _)⟩
 case round=>
  obtain⟨j,hj,rfl,HO,BW⟩:=hrel;obtain⟨sa,sc,hs⟩:=(ag.sl ah HO.out).len;obtain⟨sn,hsn⟩: ∃n,(acc++ink (l.take j)).length=n:=⟨_,rfl⟩;have hsl:sn≤400000:=by
   have h1:=yw (l.take j);have h2:=List.length_take_le j l;rw[←hsn,Pb];omega
  rw[hsn]at hs;subst hs
  by_cases hlt:j<l.length
  ·obtain⟨z,hz⟩: ∃z,l[j]? =some z:=⟨l[j],OU hlt⟩
   have HN:=zH (FY hz);obtain⟨g,off,rfl,c0,c1,-⟩:=Gs.at (HU.out.keep (Kp.below BW.out HS.out)).1 hz;have hi0:(j:Int)<(l.length:Int):=by omega
   have hi1:(0:Int)≤(j:Int):=by omega
   obtain⟨z0,z1⟩:=z;simp only at c0 c1 HN;clear hz
   by_cases h32:z0=32
   ·subst h32
    have HN2:Hid (ink (l.take (j+1))=ink (l.take j)):=zH (by rw[HN.out];simp[ink]);clear HN;go_wp2_with fail
    go_roundw
    case rel=>exact⟨j+1,by omega,by go_num,by rw[HN2.out];exact HO,BW⟩
    case measure=>(simp[intOf];try omega)
   ·have hq:(z0 != 32)=true:=by simpa using h32
    have HN2:Hid (ink (l.take (j+1))=ink (l.take j)++ [(z0,z1)]):=zH (by rw[HN.out];simp[ink,hq]);obtain⟨a',c',W',hr,ho,hb⟩:=Oa HO.out (Pp hbw BW.out.size) (by rw[hsn];omega) z0 z1;rw[hsn]at hr ho;have H2:=zH ho;have B2:=zH (BW.out.trans hb);clear HN ho hb hsn;go_wp2_with fail
    go_roundw
    case rel=>exact⟨j+1,by omega,by go_num,by rw[HN2.out,←Pw];exact H2,B2⟩
    case measure=>(simp[intOf];try omega)
  ·obtain rfl:j=l.length:=by omega
   have hlt': ¬(l.length:Int)<(l.length:Int):=by omega
   rw[PG]at HO;go_wp2_with fail
   go_ret;exact⟨_,rfl,HO.out,BW.out⟩
theorem zx (S:Nat→Prop): ∀(n:Nat) (l:List Nd),aG l=n→ ∀(v:Value) (w:World),NsS S w v l→(∀b,S b→b<w.heap.size)→nlL l≤100000→
  Calls Tryz.prog 12 #[v] w (InQ w.heap.size (lvL l) w):=by
 intro n
 induction n using Nat.strongRecOn with
 | _ n IH=>
  intro l hn v w hv hS hl;subst hn;have HV:=zH hv;have HS:=zH hS;obtain⟨aa,ca,rfl⟩:=hv.len;have HI:Hid (∀(m:List Nd),aG m<aG l→ ∀(v:Value) (w:World),NsS S w v m→(∀b,S b→b<w.heap.size)→nlL m≤100000→Calls Tryz.prog 12 #[v] w (InQ w.heap.size (lvL m) w)):=zH (fun m hm=>IH (aG m) hm m rfl);have hll:=mW l;have hcl:=mV l;clear hv hS IH;go_enter Tryz.func12,Tryz.ntmps12
  go_wp2_with fail
  go_loopw [3,4] (fun s i wr=> ∃p:Nat,p≤l.length∧i= .int .i64 (p:Int)∧Hid (aI w.heap.size wr s (lvL (l.take p)))∧Hid (Below w.heap.size w wr)) (fun _ i _=>l.length-(intOf i).toNat)
  case atStart=>exact⟨0,by omega,rfl,zH (ag.nil _ _),zH (OX _ _)⟩
  case round=>
   obtain⟨p,hp,rfl,HO,BW⟩:=hrel
   by_cases hlt:p<l.length
   ·obtain⟨y,hy⟩: ∃y,l[p]? =some y:=⟨l[p],OU hlt⟩
    have HN:=zH (K8 hy);have hle:=uH hy;have hnl:=wu hy;have hv1:=yg (l.take p);have hdd:hdl y.hd=3+y.hd.text.length+y.hd.grid.cols.length+(y.hd.rows.length+lens y.hd.rows)+bX y.hd.grid.rows:=rfl;have hrr:=oZ y.hd.rows;have htt:=rX y.hd.grid.rows;have hik:=yw y.hd.text;have hlt':(p:Int)<(l.length:Int):=by omega
    have hp0:(0:Int)≤(p:Int):=by omega
    obtain⟨g,off,⟨t1,t2,t3⟩,⟨k1,k2,k3⟩,⟨r1,r2,r3⟩,⟨q1,q2,q3⟩,rfl,hA⟩:=HV.out.at hy;have HA:Hid (∀W,Below w.heap.size w W→NAt S W g (off+p*10) y (t1,t2,t3) (k1,k2,k3) (r1,r2,r3) (q1,q2,q3)):=zH (fun W hb=>hA.keep (Kp.below hb HS.out));obtain⟨tn,htn⟩: ∃n,y.hd.text.length=n:=⟨_,rfl⟩;obtain⟨rn,hrn⟩: ∃n,y.hd.rows.length=n:=⟨_,rfl⟩;obtain⟨qn,hqn⟩: ∃n,y.hd.grid.rows.length=n:=⟨_,rfl⟩;obtain⟨kn,hkn⟩: ∃n,y.kids.length=n:=⟨_,rfl⟩;have HTN:=zH htn;have HRN:=zH hrn;have HQN:=zH hqn;have HKN:=zH hkn;have hrb:rn≤100000:=by omega
    have hql:=jy y.hd.grid.rows;have hqb:qn≤100000:=by omega
    have N:=HA.out wr BW.out;have u3:wr.cell? ⟨g,off+p*10+3,none⟩=some (.slice t1 tn t3):=by rw[←htn];exact N.c3
    have HC:=zH (nH w.heap.size S (lvL (l.take p)) y.hd.text _ (.slice t1 tn t3) wr BW.out.size HO.out (by rw[←htn];exact N.text) HS.out (by omega));clear hy hA htn hrn hqn hkn N;go_wp2_with fail
    refine HC.out.mono ?_;rintro e w1 ⟨x1,rfl,ho,hb⟩;have HO1:=zH ho;have BW1:=zH (BW.out.trans hb);clear ho hb HC u3;go_wp2_with fail
    go_loopw [3,5] (fun s i wr=> ∃q:Nat,q≤rn∧i= .int .i64 (q:Int)∧Hid (aI w.heap.size wr s (lvL (l.take p)++ink y.hd.text++gp (y.hd.rows.take q)))∧Hid (Below w.heap.size w wr)) (fun _ i _=>rn-(intOf i).toNat)
    case atStart=>exact⟨0,by omega,rfl,zH (by simpa[gp] using HO1.out),BW1⟩
    case round=>
     obtain⟨q,hq,rfl,HOq,BWq⟩:=hrel;have N:=HA.out wr BWq.out;have u5:wr.cell? ⟨g,off+p*10+5,none⟩=some (.slice r1 rn r3):=by rw[←HRN.out];exact N.c5
     by_cases hqr:q<rn
     ·obtain⟨r,hr⟩: ∃r,y.hd.rows[q]? =some r:=⟨y.hd.rows[q]'(by rw[HRN.out];exact hqr),OU _⟩
      have hrl:=kH hr;have hil:=oZ (y.hd.rows.take q);obtain⟨gr,og,rb,rc,hr1,-,d0,hf⟩:=N.rows.at hr;simp only at hr1;subst hr1;obtain⟨rl,hrl2⟩: ∃n,r.length=n:=⟨_,rfl⟩;have hqr':(q:Int)<(rn:Int):=by omega
      have hq0:(0:Int)≤(q:Int):=by omega
      have HC:=zH (nH w.heap.size S _ r _ (.slice rb r.length rc) wr BWq.out.size HOq.out hf HS.out (by simp only[Pb];omega));rw[hrl2]at HC d0;have HNX:=zH (wD hr);clear hr hrl hil hf hrl2 N;go_wp2_with fail
      refine HC.out.mono ?_;rintro e w3 ⟨x3,rfl,ho,hb⟩;have HO3:=zH ho;have BW3:=zH (BWq.out.trans hb);clear ho hb HC u5 d0;go_wp2_with fail
      go_roundw
      case rel=>exact⟨q+1,by omega,by go_num,by rw[HNX.out,←Pw];exact HO3,BW3⟩
      case measure=>(simp[intOf];try omega)
     ·have hqr': ¬(q:Int)<(rn:Int):=by omega
      have HOr:Hid (aI w.heap.size wr _ (lvL (l.take p)++ink y.hd.text++gp y.hd.rows)):=zH (by have:=HOq.out;rwa [show y.hd.rows.take q=y.hd.rows from Pz (by rw[HRN.out];omega)]at this);clear N;go_wp2_with fail
      clear u5 hqr';go_loopw [3,6] (fun s i wr=> ∃z:Nat,z≤qn∧i= .int .i64 (z:Int)∧Hid (aI w.heap.size wr s (lvL (l.take p)++ink y.hd.text++gp y.hd.rows++((y.hd.grid.rows.take z).flatMap fun r=>gp r.2)))∧Hid (Below w.heap.size w wr)) (fun _ i _=>qn-(intOf i).toNat)
      case atStart=>exact⟨0,by omega,rfl,zH (by simpa using HOr.out),BWq⟩
      case round=>
       obtain⟨z,hz,rfl,HOz,BWz⟩:=hrel;have N:=HA.out wr BWz.out;have u7:wr.cell? ⟨g,off+p*10+7,none⟩=some (.slice q1 qn q3):=by rw[←HQN.out];exact N.c7
       by_cases hzq:z<qn
       ·obtain⟨r,hr⟩: ∃r,y.hd.grid.rows[z]? =some r:=⟨y.hd.grid.rows[z]'(by rw[HQN.out];exact hzq),OU _⟩
        have hrl:=nW hr;have htr:trl r=1+r.2.length+lens r.2:=rfl;have hil:=rX (y.hd.grid.rows.take z);obtain⟨gr,og,rb,rc,hr1,-,d0,d1,hf⟩:=N.trows.at hr;simp only at hr1;subst hr1;obtain⟨cn,hcn⟩: ∃n,r.2.length=n:=⟨_,rfl⟩;have HCN:=zH hcn;have hcb:cn≤100000:=by omega
        have hzq':(z:Int)<(qn:Int):=by omega
        have hz0:(0:Int)≤(z:Int):=by omega
        have HTX:=zH (Bq hr);obtain⟨Wz,hWz⟩: ∃W,W=wr:=⟨_,rfl⟩;have HGR:Hid (GrS S w (.slice rb cn rc) r.2):=zH (by
         have h0:=(HA.out w (OX _ _)).trows.at hr;obtain⟨g',o',b',c',e1,-,-,e3,e4⟩:=h0;simp only at e1;injection e1 with e1
         injection e1 with e5 e6
         subst e5 e6;have e7:=(BWz.out.cell (Po w _ e3)).trans e3;rw[d1]at e7;injection e7 with e7
         injection e7 with e8 e9 e10
         subst e8 e10;rw[←hcn];exact e4)
        rw[hcn]at d1;clear hr hf N hWz hcn;go_wp2_with fail
        clear u7 d0 d1 hzq' hz0;go_loopw [3,8] (fun s i wr=> ∃j:Nat,j≤cn∧i= .int .i64 (j:Int)∧Hid (aI w.heap.size wr s (lvL (l.take p)++ink y.hd.text++gp y.hd.rows++((y.hd.grid.rows.take z).flatMap fun r=>gp r.2)++gp (r.2.take j)))∧Hid (Below w.heap.size w wr)) (fun _ i _=>cn-(intOf i).toNat)
        case atStart=>exact⟨0,by omega,rfl,zH (by simpa[gp] using HOz.out),BWz⟩
        case round=>
         obtain⟨j,hj,rfl,HOj,BWj⟩:=hrel
         by_cases hjc:j<cn
         ·obtain⟨cc,hcc⟩: ∃c,r.2[j]? =some c:=⟨r.2[j]'(by rw[HCN.out];exact hjc),OU _⟩
          have hcl2:=kH hcc;have hcl3:=oZ (r.2.take j);obtain⟨gc,oc,cb,ccap,hc1,-,f0,hf⟩:=(HGR.out.keep (Kp.below BWj.out HS.out)).at hcc;subst hc1;obtain⟨ccl,hccl⟩: ∃n,cc.length=n:=⟨_,rfl⟩;have hjc':(j:Int)<(cn:Int):=by omega
          have hj0:(0:Int)≤(j:Int):=by omega
          have HC:=zH (nH w.heap.size S _ cc _ (.slice cb cc.length ccap) wr BWj.out.size HOj.out hf HS.out (by simp only[Pb];omega));rw[hccl]at HC f0;have HNX:=zH (wD hcc);clear hcc hf hccl;go_wp2_with fail
          refine HC.out.mono ?_;rintro e w3 ⟨x3,rfl,ho,hb⟩;have HO3:=zH ho;have BW3:=zH (BWj.out.trans hb);clear ho hb HC f0;go_wp2_with fail
          go_roundw
          case rel=>exact⟨j+1,by omega,by go_num,by rw[HNX.out,←Pw];exact HO3,BW3⟩
          case measure=>(simp[intOf];try omega)
         ·have hjc': ¬(j:Int)<(cn:Int):=by omega
          have HO4:Hid (aI w.heap.size wr _ (lvL (l.take p)++ink y.hd.text++gp y.hd.rows++((y.hd.grid.rows.take (z+1)).flatMap fun r=>gp r.2))):=zH (by
           have:=HOj.out;rw[show r.2.take j=r.2 from Pz (by rw[HCN.out];omega)]at this;rw[HTX.out,←Pw];exact this)
          go_wp2_with fail
          go_roundw
          case rel=>exact⟨z+1,by omega,by go_num,HO4,BWj⟩
          case measure=>(simp[intOf];try omega)
       ·have hzq': ¬(z:Int)<(qn:Int):=by omega
        have HOx:Hid (aI w.heap.size wr _ (lvL (l.take p)++jI y.hd)):=zH (by
         have:=HOz.out;rw[show y.hd.grid.rows.take z=y.hd.grid.rows from Pz (by rw[HQN.out];omega)]at this;unfold jI
         simpa[Pw] using this)
        have u4:wr.cell? ⟨g,off+p*10+4,none⟩=some (.slice k1 kn k3):=by rw[←HKN.out];exact N.c4
        have HR:=zH (HI.out y.kids (by omega) (.slice k1 y.kids.length k3) wr N.kids (fun b q=>O0 (HS.out b q) BWz.out.size) (by omega));rw[HKN.out]at HR;have hkl:=yg y.kids;have hhd:(lvL (l.take p)++jI y.hd).length≤100000:=by unfold jI;simp only[Pb];omega
        clear N;go_wp2_with fail
        refine HR.out.mono ?_;rintro e w5 ⟨x5,rfl,ho5,hb5⟩;obtain⟨x6,w6,hr6,ho6,hg6,-⟩:=cB (HOx.out.keep hb5) (ag.sl ah ho5) (Pp BWz.out.size hb5.size) (by omega);have hb6:=(HOx.out.keep hb5).below (hb5.mono BWz.out.size) (Pp BWz.out.size hb5.size) hg6;have HO6:=zH ho6;have BW6:=zH (BWz.out.trans hb6);clear ho5 hb5 ho6 hg6 hb6 HR u4 u7;go_wp2_with fail
        go_roundw
        case rel=>exact⟨p+1,by omega,by go_num,by rw[HN.out,←Pw];exact HO6,BW6⟩
        case measure=>(simp[intOf];try omega)
   ·obtain rfl:p=l.length:=by omega
    have hlt': ¬(l.length:Int)<(l.length:Int):=by omega
    rw[PG]at HO;go_wp2_with fail
    go_ret;exact⟨_,rfl,HO.out,BW.out⟩
end
end Go.Proofs.YtebabjnngdjceaaGreatDoor

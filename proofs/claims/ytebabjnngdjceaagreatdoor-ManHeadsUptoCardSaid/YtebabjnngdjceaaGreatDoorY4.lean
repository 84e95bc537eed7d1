/- styles.Words and Turns: arguments, set one behind the other. styles.Words, Turns; man's set, at. -/
import Derived.Test.YtebabjnngdjceaaGreatDoorS3
import Derived.Test.YtebabjnngdjceaaGreatDoorBs
import Derived.Test.YtebabjnngdjceaaGreatDoorHa
import Derived.Test.YtebabjnngdjceaaGreatDoorH2
import Derived.Test.YtebabjnngdjceaaGreatDoorY3
import Derived.Test.YtebabjnngdjceaaGreatDoorJI
import Derived.Test.YtebabjnngdjceaaGreatDoorC5
import Derived.Test.YtebabjnngdjceaaGreatDoorZ0
set_option linter.unusedVariables false
set_option linter.unusedSimpArgs false
set_option maxRecDepth 100000
set_option maxHeartbeats 4000000
namespace Go.Proofs.YtebabjnngdjceaaGreatDoor
open Go.RowKit
def aM (l:List (Int×Int)):List Dg:=l.map (fun q=>(q.1,0,q.2))
theorem qw: ∀(n p:Nat) (s:List Int),∀d∈(iq n p s).2,d.2.1=0
 | 0,p,s,d,h=>by simp[iq]at h
 | n+1,p,s,d,h=>by
  unfold iq at h
  split at h
  ·simp at h
  ·simp only[List.mem_append]at h
   rcases h with h | h
   ·unfold dgs at h
    obtain⟨k,hk,rfl⟩:=List.mem_map.1 h;rfl
   ·exact qw n _ _ d h
theorem vX (f:Int) (s:Txt):(dh 0 (dec s)).2=aM (lgS f s).2:=by
 unfold lgS aM;simp only[List.map_map];have h: ∀l:List Dg,(∀d∈l,d.2.1=0)→l=l.map ((fun q:Int×Int=>((q.1,0,q.2):Dg))∘ fun d:Dg=>(d.1,d.2.2)):=fun l=>by
  induction l with
  | nil=>intro _;rfl
  | cons x l ih=>
   intro hl;rw[Nh,←ih (fun d hd=>hl d (List.mem_cons_of_mem _ hd))];have:=hl x List.mem_cons_self;obtain⟨a,b,c⟩:=x;simp only at this;subst this;rfl
 exact h _ (fun d hd=>qw _ _ _ d hd)
theorem lD (f:Int) (s:Txt):(lgS f s).1.length≤s.length∧(lgS f s).2.length≤s.length:=by
 have h1:=xy (dec s);have h2:=wE s;have h3:=yA (f,f) (dh 0 (dec s)).1;unfold lgS;simp only[ND];omega
def pY (f:Int) (q:List Gly×List (Int×Int)) (s:Txt):List Gly×List (Int×Int):=(jn q.1 (lgS f s).1,q.2++(lgS f s).2)
def iW (a b:Int) (i:Nat):Int:=if i % 2=0 then a else b
def bY (f:Int) (l:List Txt):List Gly×List (Int×Int):=l.foldl (pY f) ([],[])
theorem fA (f:Int) (l:List Txt):bT f l=bY f l:=rfl
theorem zl {f:Int} {l:List Txt} {j:Nat} {s:Txt} (h:l[j]? =some s):bY f (l.take (j+1))=(jn (bY f (l.take j)).1 (lgS f s).1,(bY f (l.take j)).2++(lgS f s).2):=by
 unfold bY;rw[nU h,Oe];rfl
def bE (a b:Int):Nat→List Txt→List Gly×List (Int×Int)
 | _,[]=>([],[])
 | i,s::l=>((lgS (iW a b i) s).1++(bE a b (i+1) l).1,(lgS (iW a b i) s).2++(bE a b (i+1) l).2)
theorem fZ: ∀(l:List Txt) (a b:Int) (i:Nat),(i % 2=0→mI a b l=bE a b i l)∧(i % 2=1→mI b a l=bE a b i l)
 | [],a,b,i=>⟨fun _=>rfl,fun _=>rfl⟩
 | s::l,a,b,i=>by
  refine⟨fun h=>?_,fun h=>?_⟩
  ·have:=(fZ l a b (i+1)).2 (by omega)
   unfold mI bE;rw[this];unfold iW;rw[MO h]
  ·have:=(fZ l a b (i+1)).1 (by omega)
   unfold mI bE;rw[this];unfold iW;rw[ME (by omega)]
theorem tY (a b:Int): ∀(l m:List Txt) (i:Nat),bE a b i (l++m)=((bE a b i l).1++(bE a b (i+l.length) m).1,(bE a b i l).2++(bE a b (i+l.length) m).2)
 | [],m,i=>by simp[bE]
 | s::l,m,i=>by
  have:=tY a b l m (i+1);have e:i+(s::l).length=i+1+l.length:=by simp;omega
  rw[e];simp only[Nn,bE,this,Ni]
theorem zA {a b:Int} {l:List Txt} {j:Nat} {s:Txt} (h:l[j]? =some s):bE a b 0 (l.take (j+1))=((bE a b 0 (l.take j)).1++(lgS (iW a b j) s).1,(bE a b 0 (l.take j)).2++(lgS (iW a b j) s).2):=by
 have hj:=(Mm.1 h).1;rw[nU h,tY];have e:0+(l.take j).length=j:=by rw[ML];omega
 rw[e];simp[bE]
theorem Cy (f:Int) (q:List Gly×List (Int×Int)) (s:Txt):(pY f q s).1.length≤q.1.length+s.length+1∧(pY f q s).2.length≤q.2.length+s.length:=by
 have h:=lD f s;have h2:=Kv q.1 (lgS f s).1;unfold pY;simp only[MF]
 split at h2<;>omega
theorem di (f:Int): ∀(l:List Txt) (q:List Gly×List (Int×Int)),(l.foldl (pY f) q).1.length≤q.1.length+lnT l∧(l.foldl (pY f) q).2.length≤q.2.length+lnT l
 | [],q=>by simp
 | s::l,q=>by
  have h1:=Cy f q s;have h2:=di f l (pY f q s);rw[ru];simp only[Oo];omega
theorem dW (a b:Int): ∀(l:List Txt) (i:Nat),(bE a b i l).1.length≤lnT l∧(bE a b i l).2.length≤lnT l
 | [],i=>by simp[bE]
 | s::l,i=>by
  have h1:=lD (iW a b i) s;have h2:=dW a b l (i+1);rw[ru];unfold bE;simp only[MF];omega
section
attribute [local go_sem ↓ high] eu bL
theorem Jr {base:Nat} {W W':World} {x:Value} {l:List Gly} (h:aV base W x l) (hg:W.grownBy W' x.ownBlock):Exc (fun k=>x.ownBlock=some k) W W':=
 ⟨hg.os,hg.tape,hg.output,hg.size,fun k hk hx=>hg.block k hk (fun e=>hx e.symm)⟩
theorem zk (i a:Int) (F:Nat) (w:World) (c0:w.cell? ⟨F,0,none⟩=some (.int .u8 a)):
  Calls Tryz.prog 68 #[.int .i64 i,.pointer (some ⟨F,0,none⟩)] w fun e w'=>e= .returned (.int .u8 a)∧w=w':=by
 go_enter Tryz.func68,Tryz.ntmps68
 go_wp2_with fail
 go_ret;exact⟨rfl,rfl⟩
theorem zu (i:Nat) (a b:Int) (F G:Nat) (w:World) (hi:i≤1000000) (c0:w.cell? ⟨F,0,none⟩=some (.int .u8 a)) (c1:w.cell? ⟨G,0,none⟩=some (.int .u8 b)):
  Calls Tryz.prog 71 #[.int .i64 (i:Int),.pointer (some ⟨F,0,none⟩),.pointer (some ⟨G,0,none⟩)] w fun e w'=>e= .returned (.int .u8 (iW a b i))∧w=w':=by
 have ht:Int.tmod (i:Int) 2=((i % 2:Nat):Int):=by rw[Int.tmod_eq_emod_of_nonneg (by omega)];omega
 by_cases he:i % 2=0
 ·rw[he]at ht
  unfold iW;rw[MO he];go_enter Tryz.func71,Tryz.ntmps71
  go_wp2_with fail
  go_ret;exact⟨rfl,rfl⟩
 ·obtain ho:i % 2=1:=by omega
  rw[ho]at ht;unfold iW;rw[ME he];clear he ho;go_enter Tryz.func71,Tryz.ntmps71
  go_wp2_with fail
  go_ret;exact⟨rfl,rfl⟩
theorem zt (v:Value) (w:World):
  Calls Tryz.prog 72 #[v] w fun e w'=>e= .returned v∧w=w':=by
 go_enter Tryz.func72,Tryz.ntmps72
 go_wp2_with fail
 go_ret;exact⟨rfl,rfl⟩
theorem zq {base:Nat} {x:Value} {l:List Gly} (w:World) (h:aV base w x l) (hb:base≤w.heap.size) (hl:l.length≤500000):
  Calls Tryz.prog 72 #[x] w fun e w'=> ∃x',e= .returned x'∧aV base w' x' (l++ [])∧Exc (fun k=>x.ownBlock=some k) w w':=
 (zt x w).mono fun e w' ⟨h1,h2⟩=>⟨x,h1,by rw[MQ,←h2];exact h,by rw[←h2];exact Exc.refl _ _⟩
theorem zi {base:Nat} {x:Value} {l:List Gly} (w:World) (h:aV base w x l) (hb:base≤w.heap.size) (hl:l.length≤500000):
  Calls Tryz.prog 69 #[x] w fun e w'=> ∃x',e= .returned x'∧aV base w' x' (l++ [(32,0)])∧Exc (fun k=>x.ownBlock=some k) w w':=by
 have b1:=af w (.cells (aR (32,0)).toArray 35);obtain⟨x',w2,hr,ho,hg,-⟩:=dU (h.keep b1) (dB ai w 35 [(32,0)]) (by simp;omega) (by simp;omega);have hr':(appG #[x,.slice (some ⟨w.heap.size,0,none⟩) 1 1]).run Tryz.prog (w.alloc (.cells #[.int .i32 32,.int .u8 0] 35))= .ok (.value x') w2:=hr;have HO:=zH ho;have HE:=zH ((Exc.of (X:=fun k=>x.ownBlock=some k) b1).then (Jr (h.keep b1) hg));clear hr ho hg h b1;go_enter Tryz.func69,Tryz.ntmps69
 go_wp2_with fail
 go_ret;exact⟨_,rfl,HO.out,HE.out⟩
theorem QTR {P:Prop}(h:P:=by
 have hx0:X.1.length=0:=by rw[hX0];rfl
 rw[hn1,hx0]at k2;obtain⟨sa',sc',rfl⟩:=(ag.sl ai p2).len;have P2:=zH p2;have D5:=zH hd5;have B5:=zH hb5;obtain⟨m5,hm5⟩: ∃m,(X.1++G.1).length=m:=⟨_,rfl⟩;rw[hm5]at k2 P2;rw[hn1,hm2,hx0];clear o1 o2 b1 bl s2 d2 B2 p1 g1 s3 x3 B3 HT HLn hQe HQ HD X3 S3' p2 g2 hd5 hb5 hn1 hm5 hX0 hx0 HS S3;go_wp2_with fail
 go_roundw
 case rel=>exact⟨j+1,by omega,by go_num,zH (by rw[hQ1.out];exact P2.out),D5,B5⟩
 case measure=>(simp[intOf];try omega)):P:=h
theorem QTS {P:Prop}(h:P:=by
 have hg0:G.1.length=0:=by rw[hG0];rfl
 obtain⟨n1,hn1⟩: ∃n,G.1.length=n:=⟨_,rfl⟩;rw[hn1]at hg0 o1;subst hg0;rw[hn1];clear o1 o2 b1 bl s2 d2 B2 p1 g1 s3 x3 B3 HT HLn hQe HQ HD X3 S3';rw[hm2];go_wp2_with fail
 go_roundw
 case rel=>exact⟨j+1,by omega,by go_num,zH (by rw[hQ1.out];exact S3.out),HP1,BB⟩
 case measure=>(simp[intOf];try omega)):P:=h
theorem QTT {P:Prop}(h:P:=by
 obtain rfl:j=L.length:=by omega
 have hlt': ¬(L.length:Int)<(L.length:Int):=by omega
 rw[Na]at HS HD;obtain⟨sa,sc,rfl⟩:=(ag.sl ai HS.out).len;obtain⟨da,dc,rfl⟩:=(ag.sl ax HD.out).len;go_wp2_with fail
 repeat(change Exit.noGoto _ Exit.ret _ _;rw[NQ])
 go_ret2
 exact⟨_,_,rfl,HS.out,HD.out,HB.out⟩):P:=h
theorem GH (f:Int) (F:Nat) (L:List Txt) (v:Value) (w:World) (hv:Ss w v L) (hl:lnT L≤40000) (hL: ∀s∈L,s.length≤2000) (c0:w.cell? ⟨F,0,none⟩=some (.int .u8 f)):
  Calls Tryz.prog 70 #[v,.func (.func 68) #[] #[.pointer (some ⟨F,0,none⟩)],.func (.func 69) #[] #[]] w
   fun e w'=> ∃x d,e= .returned (.tuple #[x,d])∧aV w.heap.size w' x (bY f L).1∧aP w.heap.size w' d (aM (bY f L).2)∧Below w.heap.size w w':=by
 obtain⟨a0,ca,rfl⟩:=hv.len;have hn:L.length≤40000:=by have:=vW L;omega
 have HV:=zH hv;have HLN:=zH hl;have HL:=zH hL;have hF:=MN w _ c0;simp only at hF;have HC:Hid (∀W,Below w.heap.size w W→W.cell? ⟨F,0,none⟩=some (.int .u8 f)):=zH (fun W hb=>(hb.cell (p:=⟨F,0,none⟩) hF).trans c0);clear c0 hF;clear hv hl hL;go_enter Tryz.func70,Tryz.ntmps70
 go_wp2_with fail
 go_step3
 go_wp2_with fail
 go_step3
 go_wp2_with fail
 go_loopw [8,9,18] (fun s d i wr=> ∃j:Nat,j≤L.length∧i= .int .i64 (j:Int)∧Hid (aV w.heap.size wr s (bY f (L.take j)).1)∧Hid (aP w.heap.size wr d (aM (bY f (L.take j)).2))∧Hid (Below w.heap.size w wr)) (fun _ _ i _=>L.length-(intOf i).toNat)
 case atStart=>exact⟨0,NK _,rfl,zH (ag.nil _ _),zH (ag.nil _ _),zH (Mr _ _)⟩
 case round=>
  obtain⟨j,hj,rfl,HS,HD,HB⟩:=hrel
  by_cases hlt:j<L.length
  ·obtain⟨s0,hs0⟩: ∃s0,L[j]? =some s0:=⟨L[j],Mq hlt⟩
   have HQ:=zH (zl (f:=f) hs0);have hlt':(j:Int)<(L.length:Int):=by omega
   have hj0:(0:Int)≤(j:Int):=by omega
   obtain⟨b0,o0,rfl,hc0⟩:=Ss.at (Fs.below HV.out HB.out) hs0;have hs2:s0.length≤2000:=HL.out s0 (NN hs0);have HT:=zH (zk (j:Int) f F wr (HC.out wr HB.out));have HLn:=zH (ry (f) (f) s0 wr hs2);unfold KU at HLn;rw[vX (f) s0]at HLn;have hlg:(ji (f,f) (dh 0 (dec s0)).1).1=(lgS (f) s0).1:=rfl;rw[hlg]at HLn;obtain⟨fc,hfc⟩: ∃fc,(ji (f,f) (dh 0 (dec s0)).1).2=fc:=⟨_,rfl⟩;rw[hfc]at HLn;have hll:=lD (f) s0;obtain⟨G,hG⟩: ∃G,lgS (f) s0=G:=⟨_,rfl⟩;rw[hG]at HLn hll HQ;obtain⟨n0,hn0⟩: ∃n0,(f)=n0:=⟨_,rfl⟩;rw[hn0]at HLn HT;have hXl:(bY f (L.take j)).1.length≤40000∧(bY f (L.take j)).2.length≤40000:=by
    have h1:=di f (L.take j) ([],[]);have h2:=yj L j;have h3:=HLN.out
    try simp only[bY,MK]at h1 ⊢
    omega
   obtain⟨X,hX⟩: ∃X,bY f (L.take j)=X:=⟨_,rfl⟩;rw[hX]at HS HD HQ hXl;have hdl: ∀l,(aM l).length=l.length:=fun l=>by unfold aM;simp
   have hd1:=hdl X.2;have hd2:=hdl G.2;obtain⟨sa,sc,rfl⟩:=(ag.sl ai HS.out).len;obtain⟨da,dc,rfl⟩:=(ag.sl ax HD.out).len;clear hlg hfc hG hn0 hX hs0 hdl;go_wp2_with fail
   refine HT.out.mono ?_;rintro e w9 ⟨rfl,rfl⟩;go_wp2_with fail
   refine HLn.out.mono ?_;rintro e w1 ⟨x,vd,rfl,o1,o2,b1⟩;have bl:=af w1 (.cells #[.int .u8 fc.1,.int .u8 fc.2] 28);have hz:=b1.size;have hz0:=HB.out.size;have s2:=(HS.out.keep b1).keep bl;have d2:=(HD.out.keep b1).keep bl;have B2:Below w.heap.size w (w1.alloc (.cells #[.int .u8 fc.1,.int .u8 fc.2] 28)):=(HB.out.trans (b1.mono hz0)).trans (bl.mono (by omega));obtain⟨d',w3,k1,p1,g1,-⟩:=ig d2 (ag.sl ax (o2.keep bl)) (by simp;omega) (by omega);have s3:aV w.heap.size w3 _ X.1:=ag.apart s2 g1 (dF s2 d2 (by decide));have x3:aV wr.heap.size w3 x G.1:=ag.apart (o1.keep bl) g1 (dF (o1.keep bl) d2 (by decide));have B3:Below w.heap.size w w3:=d2.below B2 (by simp;omega) g1;have z3:=g1.size;simp only[MG]at z3;obtain⟨xa,xc,rfl⟩:=(ag.sl ai o1).len;obtain⟨va,vc,rfl⟩:=(ag.sl ax o2).len;obtain⟨da',dc',rfl⟩:=(ag.sl ax p1).len;have hQe:(bY f (L.take (j+1)))=(jn X.1 G.1,X.2++G.2):=HQ.out;have HP1:Hid (aP w.heap.size w3 (.slice da' (aM X.2++aM G.2).length dc') (aM (bY f (L.take (j+1))).2)):=zH (by
    rw[hQe];have e:aM (X.2++G.2)=aM X.2++aM G.2:=by unfold aM;simp
    show aP _ _ _ (aM (X.2++G.2));rw[e];exact p1)
   obtain⟨m2,hm2⟩: ∃m,(aM G.2).length=m:=⟨_,rfl⟩;obtain⟨m3,hm3⟩: ∃m,(aM X.2++aM G.2).length=m:=⟨_,rfl⟩;rw[hm3]at k1 HP1;rw[hd1,hm2]at k1;have HD':=zH HD.out;have S3:=zH s3;have X3:=zH x3;have BB:=zH B3;have S3':=S3;have hb3:=B3.size
   by_cases hG0:G.1=[]
   ·have hQ1:Hid ((bY f (L.take (j+1))).1=X.1):=zH (by
     rw[hQe];show jn X.1 G.1=X.1;rw[hG0];exact BZ _)
    exact QTS
   ·have hg0:0<G.1.length:=Nc.2 hG0
    obtain⟨n1,hn1⟩: ∃n,G.1.length=n:=⟨_,rfl⟩;rw[hn1]at hg0 o1 hll;have hgn: ¬(n1:Int)=0:=by omega
    have HN1:=zH hn1;have hB3s:w.heap.size≤w3.heap.size:=by omega
    by_cases hX0:X.1=[]
    ·obtain⟨s',w5,k2,p2,g2,-⟩:=dU s3 (ag.sl ai x3) hB3s (by omega)
     have hd5:aP w.heap.size w5 (.slice da' m3 dc') (aM (bY f (L.take (j+1))).2):=ag.apart HP1.out g2 (dF HP1.out s3 (by decide));have hb5:Below w.heap.size w w5:=s3.below B3 hB3s g2;have hQ1:Hid ((bY f (L.take (j+1))).1=X.1++G.1):=zH (by
      rw[hQe];show jn X.1 G.1=X.1++G.1;rw[hX0,Ku];rfl)
     exact QTR
    ·have hx0:0<X.1.length:=Nc.2 hX0
     have HBT:=zH (zi w3 S3.out hB3s (by omega));have HF:Hid (∀x' w4,aV w.heap.size w4 x' (X.1++ [(32,0)])→Exc (fun k=>(Value.slice sa X.1.length sc).ownBlock=some k) w3 w4→ ∃s' w5,(appG #[x',.slice xa n1 xc]).run Tryz.prog w4= .ok (.value s') w5∧Hid (aV w.heap.size w5 s' (bY f (L.take (j+1))).1)∧Hid (aP w.heap.size w5 (.slice da' m3 dc') (aM (bY f (L.take (j+1))).2))∧Hid (Below w.heap.size w w5)):=zH (fun x' w4 q1 q2=>by
      have lt3: ∀{α:Type} {e n base:Nat} {f:α→List Value} {v:Value} {l:List α},ag e n f base w3 v l→ ∀k,v.ownBlock=some k→k<w3.heap.size:=fun h k e=>by
       obtain⟨-,cur,hc⟩:=h.ty e;exact(Mv.1 hc).1
      have x4:aV wr.heap.size w4 (.slice xa G.1.length xc) G.1:=x3.kp (fun k e=>q2.block k (lt3 x3 k e) (fun e2=>by
       have h1:=(x3.ty e).1;obtain⟨-,cur,hc⟩:=HS.out.ty e2;have:=(Mv.1 hc).1;omega))
      have d4:aP w.heap.size w4 (.slice da' m3 dc') (aM (bY f (L.take (j+1))).2):=HP1.out.kp (fun k e=>q2.block k (lt3 HP1.out k e) (fun e2=>by
       rcases dF HP1.out s3 (by decide)with z | z
       ·rw[z]at e;cases e
       ·exact z (e.trans e2.symm)))
      have b4:Below w.heap.size w w4:=B3.trans (q2.below hB3s (fun k hk e=>by have:=(s3.ty e).1;omega));obtain⟨s',w5,k2,p2,g2,-⟩:=dU q1 (ag.sl ai x4) b4.size (by simp;omega);rw[hn1]at k2;refine⟨s',w5,k2,zH ?_,zH (ag.apart d4 g2 (dF d4 q1 (by decide))),zH (q1.below b4 b4.size g2)⟩;rw[hQe];show aV _ _ _ (jn X.1 G.1);unfold jn;rw[ME hX0,ME hG0];exact p2)
     have hxl:(0:Int)<(X.1.length:Int):=by omega
     obtain⟨nx,hnx⟩: ∃n,X.1.length=n:=⟨_,rfl⟩;rw[hnx]at hxl HBT HF;rw[hn1,hm2];clear o1 o2 b1 bl s2 d2 B2 p1 g1 s3 x3 B3 HT HLn hQe HQ HD X3 S3' hn1 hX0 hx0 HS S3;rw[hnx];clear hnx;go_wp2_with fail
     refine HBT.out.mono ?_;rintro e w4 ⟨x',rfl,q1,q2⟩;obtain⟨s',w5,k2,P2,D5,B5⟩:=HF.out x' w4 q1 q2;obtain⟨xa',xc',rfl⟩:=(ag.sl ai q1).len;obtain⟨sa',sc',rfl⟩:=(ag.sl ai P2.out).len;obtain⟨m6,hm6⟩: ∃m,(X.1++ [(32,0)]).length=m:=⟨_,rfl⟩;obtain⟨m7,hm7⟩: ∃m,(bY f (L.take (j+1))).1.length=m:=⟨_,rfl⟩;rw[hm6,hm7]at k2;rw[hm6];rw[hm7]at P2;clear q1 q2 HF HBT hm6 hm7;go_wp2_with fail
     go_roundw
     case rel=>exact⟨j+1,by omega,by go_num,P2,D5,B5⟩
     case measure=>(simp[intOf];try omega)
  ·exact QTT
theorem GI (a b:Int) (F G:Nat) (L:List Txt) (v:Value) (w:World) (hv:Ss w v L) (hl:lnT L≤40000) (hL: ∀s∈L,s.length≤2000) (c0:w.cell? ⟨F,0,none⟩=some (.int .u8 a)) (c1:w.cell? ⟨G,0,none⟩=some (.int .u8 b)):
  Calls Tryz.prog 70 #[v,.func (.func 71) #[] #[.pointer (some ⟨F,0,none⟩),.pointer (some ⟨G,0,none⟩)],.func (.func 72) #[] #[]] w
   fun e w'=> ∃x d,e= .returned (.tuple #[x,d])∧aV w.heap.size w' x (bE a b 0 L).1∧aP w.heap.size w' d (aM (bE a b 0 L).2)∧Below w.heap.size w w':=by
 obtain⟨a0,ca,rfl⟩:=hv.len;have hn:L.length≤40000:=by have:=vW L;omega
 have HV:=zH hv;have HLN:=zH hl;have HL:=zH hL;have hF:=MN w _ c0;have hG:=MN w _ c1;simp only at hF hG;have HC:Hid (∀W,Below w.heap.size w W→W.cell? ⟨F,0,none⟩=some (.int .u8 a)∧W.cell? ⟨G,0,none⟩=some (.int .u8 b)):=zH (fun W hb=>⟨(hb.cell (p:=⟨F,0,none⟩) hF).trans c0,(hb.cell (p:=⟨G,0,none⟩) hG).trans c1⟩);clear c0 c1 hF hG;clear hv hl hL;go_enter Tryz.func70,Tryz.ntmps70
 go_wp2_with fail
 go_step3
 go_wp2_with fail
 go_step3
 go_wp2_with fail
 go_loopw [8,9,18] (fun s d i wr=> ∃j:Nat,j≤L.length∧i= .int .i64 (j:Int)∧Hid (aV w.heap.size wr s (bE a b 0 (L.take j)).1)∧Hid (aP w.heap.size wr d (aM (bE a b 0 (L.take j)).2))∧Hid (Below w.heap.size w wr)) (fun _ _ i _=>L.length-(intOf i).toNat)
 case atStart=>exact⟨0,NK _,rfl,zH (ag.nil _ _),zH (ag.nil _ _),zH (Mr _ _)⟩
 case round=>
  obtain⟨j,hj,rfl,HS,HD,HB⟩:=hrel
  by_cases hlt:j<L.length
  ·obtain⟨s0,hs0⟩: ∃s0,L[j]? =some s0:=⟨L[j],Mq hlt⟩
   have HQ:=zH (zA (a:=a) (b:=b) hs0);have hlt':(j:Int)<(L.length:Int):=by omega
   have hj0:(0:Int)≤(j:Int):=by omega
   obtain⟨b0,o0,rfl,hc0⟩:=Ss.at (Fs.below HV.out HB.out) hs0;have hs2:s0.length≤2000:=HL.out s0 (NN hs0);have HT:=zH (zu j a b F G wr (by omega) (HC.out wr HB.out).1 (HC.out wr HB.out).2);have HLn:=zH (ry (iW a b j) (iW a b j) s0 wr hs2);unfold KU at HLn;rw[vX (iW a b j) s0]at HLn;have hlg:(ji (iW a b j,iW a b j) (dh 0 (dec s0)).1).1=(lgS (iW a b j) s0).1:=rfl;rw[hlg]at HLn;obtain⟨fc,hfc⟩: ∃fc,(ji (iW a b j,iW a b j) (dh 0 (dec s0)).1).2=fc:=⟨_,rfl⟩;rw[hfc]at HLn;have hll:=lD (iW a b j) s0;obtain⟨G,hG⟩: ∃G,lgS (iW a b j) s0=G:=⟨_,rfl⟩;rw[hG]at HLn hll HQ;obtain⟨n0,hn0⟩: ∃n0,(iW a b j)=n0:=⟨_,rfl⟩;rw[hn0]at HLn HT;have hXl:(bE a b 0 (L.take j)).1.length≤40000∧(bE a b 0 (L.take j)).2.length≤40000:=by
    have h1:=dW a b (L.take j) 0;have h2:=yj L j;have h3:=HLN.out
    try simp only[bE,MK]at h1 ⊢
    omega
   obtain⟨X,hX⟩: ∃X,bE a b 0 (L.take j)=X:=⟨_,rfl⟩;rw[hX]at HS HD HQ hXl;have hdl: ∀l,(aM l).length=l.length:=fun l=>by unfold aM;simp
   have hd1:=hdl X.2;have hd2:=hdl G.2;obtain⟨sa,sc,rfl⟩:=(ag.sl ai HS.out).len;obtain⟨da,dc,rfl⟩:=(ag.sl ax HD.out).len;clear hlg hfc hG hn0 hX hs0 hdl;go_wp2_with fail
   refine HT.out.mono ?_;rintro e w9 ⟨rfl,rfl⟩;go_wp2_with fail
   refine HLn.out.mono ?_;rintro e w1 ⟨x,vd,rfl,o1,o2,b1⟩;have bl:=af w1 (.cells #[.int .u8 fc.1,.int .u8 fc.2] 28);have hz:=b1.size;have hz0:=HB.out.size;have s2:=(HS.out.keep b1).keep bl;have d2:=(HD.out.keep b1).keep bl;have B2:Below w.heap.size w (w1.alloc (.cells #[.int .u8 fc.1,.int .u8 fc.2] 28)):=(HB.out.trans (b1.mono hz0)).trans (bl.mono (by omega));obtain⟨d',w3,k1,p1,g1,-⟩:=ig d2 (ag.sl ax (o2.keep bl)) (by simp;omega) (by omega);have s3:aV w.heap.size w3 _ X.1:=ag.apart s2 g1 (dF s2 d2 (by decide));have x3:aV wr.heap.size w3 x G.1:=ag.apart (o1.keep bl) g1 (dF (o1.keep bl) d2 (by decide));have B3:Below w.heap.size w w3:=d2.below B2 (by simp;omega) g1;have z3:=g1.size;simp only[MG]at z3;obtain⟨xa,xc,rfl⟩:=(ag.sl ai o1).len;obtain⟨va,vc,rfl⟩:=(ag.sl ax o2).len;obtain⟨da',dc',rfl⟩:=(ag.sl ax p1).len;have hQe:(bE a b 0 (L.take (j+1)))=(X.1++G.1,X.2++G.2):=HQ.out;have HP1:Hid (aP w.heap.size w3 (.slice da' (aM X.2++aM G.2).length dc') (aM (bE a b 0 (L.take (j+1))).2)):=zH (by
    rw[hQe];have e:aM (X.2++G.2)=aM X.2++aM G.2:=by unfold aM;simp
    show aP _ _ _ (aM (X.2++G.2));rw[e];exact p1)
   obtain⟨m2,hm2⟩: ∃m,(aM G.2).length=m:=⟨_,rfl⟩;obtain⟨m3,hm3⟩: ∃m,(aM X.2++aM G.2).length=m:=⟨_,rfl⟩;rw[hm3]at k1 HP1;rw[hd1,hm2]at k1;have HD':=zH HD.out;have S3:=zH s3;have X3:=zH x3;have BB:=zH B3;have S3':=S3;have hb3:=B3.size
   by_cases hG0:G.1=[]
   ·have hQ1:Hid ((bE a b 0 (L.take (j+1))).1=X.1):=zH (by
     rw[hQe];show X.1++G.1=X.1;rw[hG0,MQ])
    exact QTS
   ·have hg0:0<G.1.length:=Nc.2 hG0
    obtain⟨n1,hn1⟩: ∃n,G.1.length=n:=⟨_,rfl⟩;rw[hn1]at hg0 o1 hll;have hgn: ¬(n1:Int)=0:=by omega
    have HN1:=zH hn1;have hB3s:w.heap.size≤w3.heap.size:=by omega
    by_cases hX0:X.1=[]
    ·obtain⟨s',w5,k2,p2,g2,-⟩:=dU s3 (ag.sl ai x3) hB3s (by omega)
     have hd5:aP w.heap.size w5 (.slice da' m3 dc') (aM (bE a b 0 (L.take (j+1))).2):=ag.apart HP1.out g2 (dF HP1.out s3 (by decide));have hb5:Below w.heap.size w w5:=s3.below B3 hB3s g2;have hQ1:Hid ((bE a b 0 (L.take (j+1))).1=X.1++G.1):=zH (by
      rw[hQe]
      try rfl)
     exact QTR
    ·have hx0:0<X.1.length:=Nc.2 hX0
     have HBT:=zH (zq w3 S3.out hB3s (by omega));have HF:Hid (∀x' w4,aV w.heap.size w4 x' (X.1++ [])→Exc (fun k=>(Value.slice sa X.1.length sc).ownBlock=some k) w3 w4→ ∃s' w5,(appG #[x',.slice xa n1 xc]).run Tryz.prog w4= .ok (.value s') w5∧Hid (aV w.heap.size w5 s' (bE a b 0 (L.take (j+1))).1)∧Hid (aP w.heap.size w5 (.slice da' m3 dc') (aM (bE a b 0 (L.take (j+1))).2))∧Hid (Below w.heap.size w w5)):=zH (fun x' w4 q1 q2=>by
      have lt3: ∀{α:Type} {e n base:Nat} {f:α→List Value} {v:Value} {l:List α},ag e n f base w3 v l→ ∀k,v.ownBlock=some k→k<w3.heap.size:=fun h k e=>by
       obtain⟨-,cur,hc⟩:=h.ty e;exact(Mv.1 hc).1
      have x4:aV wr.heap.size w4 (.slice xa G.1.length xc) G.1:=x3.kp (fun k e=>q2.block k (lt3 x3 k e) (fun e2=>by
       have h1:=(x3.ty e).1;obtain⟨-,cur,hc⟩:=HS.out.ty e2;have:=(Mv.1 hc).1;omega))
      have d4:aP w.heap.size w4 (.slice da' m3 dc') (aM (bE a b 0 (L.take (j+1))).2):=HP1.out.kp (fun k e=>q2.block k (lt3 HP1.out k e) (fun e2=>by
       rcases dF HP1.out s3 (by decide)with z | z
       ·rw[z]at e;cases e
       ·exact z (e.trans e2.symm)))
      have b4:Below w.heap.size w w4:=B3.trans (q2.below hB3s (fun k hk e=>by have:=(s3.ty e).1;omega));obtain⟨s',w5,k2,p2,g2,-⟩:=dU q1 (ag.sl ai x4) b4.size (by simp;omega);rw[hn1]at k2;refine⟨s',w5,k2,zH ?_,zH (ag.apart d4 g2 (dF d4 q1 (by decide))),zH (q1.below b4 b4.size g2)⟩;rw[hQe];show aV _ _ _ (X.1++G.1);rw[MQ]at p2;exact p2)
     have hxl:(0:Int)<(X.1.length:Int):=by omega
     obtain⟨nx,hnx⟩: ∃n,X.1.length=n:=⟨_,rfl⟩;rw[hnx]at hxl HBT HF;rw[hn1,hm2];clear o1 o2 b1 bl s2 d2 B2 p1 g1 s3 x3 B3 HT HLn hQe HQ HD X3 S3' hn1 hX0 hx0 HS S3;rw[hnx];clear hnx;go_wp2_with fail
     refine HBT.out.mono ?_;rintro e w4 ⟨x',rfl,q1,q2⟩;obtain⟨s',w5,k2,P2,D5,B5⟩:=HF.out x' w4 q1 q2;obtain⟨xa',xc',rfl⟩:=(ag.sl ai q1).len;obtain⟨sa',sc',rfl⟩:=(ag.sl ai P2.out).len;obtain⟨m6,hm6⟩: ∃m,(X.1++ []).length=m:=⟨_,rfl⟩;obtain⟨m7,hm7⟩: ∃m,(bE a b 0 (L.take (j+1))).1.length=m:=⟨_,rfl⟩;rw[hm6,hm7]at k2;rw[hm6];rw[hm7]at P2;clear q1 q2 HF HBT hm6 hm7;go_wp2_with fail
     go_roundw
     case rel=>exact⟨j+1,by omega,by go_num,P2,D5,B5⟩
     case measure=>(simp[intOf];try omega)
  ·exact QTT
end
def H9 (w:World) (q:List Gly×List (Int×Int)) (e:Ending) (w':World):Prop:= ∃x d,e= .returned (.tuple #[x,d])∧aV w.heap.size w' x q.1∧aP w.heap.size w' d (aM q.2)∧Below w.heap.size w w'
theorem QTU {P:Prop}(h:P:=by
 go_wp2_with fail
 refine HE.out.mono ?_;rintro e w1 ⟨x,d,rfl,o1,o2,b1⟩;have H3:=zH (HF.out x d w1 o1 o2 b1);clear o1 o2 b1 HE HF;go_wp2_with fail
 go_ret2
 exact⟨_,_,rfl,H3.out⟩):P:=h
theorem lY (f:Int) (L:List Txt) (v:Value) (w:World) (hv:Ss w v L) (hl:lnT L≤40000) (hL: ∀s∈L,s.length≤2000):
  Calls Tryz.prog 34 #[.int .u8 f,v] w (H9 w (bT f L)):=by
 have b1:=af w (.cells #[.int .u8 f] 5);have hbk:Blk (w.alloc (.cells #[.int .u8 f] 5)) w.heap.size 5 [.int .u8 f]:=Mw w _;have HE:=zH (GH f w.heap.size L v (w.alloc (.cells #[.int .u8 f] 5)) (Fs.below hv b1) hl hL (hbk.cell 0));rw[←fA]at HE;have hz:(w.alloc (.cells #[.int .u8 f] 5)).heap.size=w.heap.size+1:=MG ..;have HF:Hid (∀x d w',aV (w.alloc (.cells #[.int .u8 f] 5)).heap.size w' x (bT f L).1→aP (w.alloc (.cells #[.int .u8 f] 5)).heap.size w' d (aM (bT f L).2)→Below (w.alloc (.cells #[.int .u8 f] 5)).heap.size (w.alloc (.cells #[.int .u8 f] 5)) w'→aV w.heap.size w' x (bT f L).1∧aP w.heap.size w' d (aM (bT f L).2)∧Below w.heap.size w w'):=
  zH (fun x d w' h1 h2 h3=>⟨h1.mono (by omega),h2.mono (by omega),b1.trans (h3.mono (by omega))⟩)
 obtain⟨a0,c0,rfl⟩:=hv.len;clear hv hl hL b1 hbk hz;go_enter Tryz.func34,Tryz.ntmps34
 exact QTU
theorem fP (a b:Int) (L:List Txt) (v:Value) (w:World) (hv:Ss w v L) (hl:lnT L≤40000) (hL: ∀s∈L,s.length≤2000):
  Calls Tryz.prog 36 #[.int .u8 a,.int .u8 b,v] w (H9 w (mI a b L)):=by
 rw[(fZ L a b 0).1 rfl];have hb:=uK w (.cells #[.int .u8 a] 5) (.cells #[.int .u8 b] 5);have HE:=zH (GI a b w.heap.size (w.heap.size+1) L v ((w.alloc (.cells #[.int .u8 a] 5)).alloc (.cells #[.int .u8 b] 5)) (Fs.below hv hb) hl hL ((uJ w [.int .u8 a] 5 (.cells #[.int .u8 b] 5)).cell 0) ((sD w (.cells #[.int .u8 a] 5) [.int .u8 b] 5).cell 0));have hz:((w.alloc (.cells #[.int .u8 a] 5)).alloc (.cells #[.int .u8 b] 5)).heap.size=w.heap.size+1+1:=by simp
 obtain⟨W2,hW2⟩: ∃W2,(w.alloc (.cells #[.int .u8 a] 5)).alloc (.cells #[.int .u8 b] 5)=W2:=⟨_,rfl⟩;rw[hW2]at hb HE hz;have HF:Hid (∀x d w',aV W2.heap.size w' x (bE a b 0 L).1→aP W2.heap.size w' d (aM (bE a b 0 L).2)→Below W2.heap.size W2 w'→aV w.heap.size w' x (bE a b 0 L).1∧aP w.heap.size w' d (aM (bE a b 0 L).2)∧Below w.heap.size w w'):=
  zH (fun x d w' h1 h2 h3=>⟨h1.mono (by omega),h2.mono (by omega),hb.trans (h3.mono (by omega))⟩)
 obtain⟨a0,c0,rfl⟩:=hv.len;clear hv hl hL hb hz;go_enter Tryz.func36,Tryz.ntmps36
 exact QTU
theorem qY (w:World):Calls Tryz.prog 35 #[.int .u8 66] w fun e w'=>e= .returned (.int .u8 1)∧w=w':=by
 go_enter Tryz.func35,Tryz.ntmps35
 go_wp2_with fail
 go_ret;exact⟨rfl,rfl⟩
theorem qX (w:World):Calls Tryz.prog 35 #[.int .u8 73] w fun e w'=>e= .returned (.int .u8 2)∧w=w':=by
 go_enter Tryz.func35,Tryz.ntmps35
 go_wp2_with fail
 go_ret;exact⟨rfl,rfl⟩
theorem vR (w:World):Calls Tryz.prog 35 #[.int .u8 82] w fun e w'=>e= .returned (.int .u8 0)∧w=w':=by
 go_enter Tryz.func35,Tryz.ntmps35
 go_wp2_with fail
 go_ret;exact⟨rfl,rfl⟩
def atL (ln:Int) (D:List Dg):List Dg:=D.map (fun x=>(x.1,ln,x.2.2))
theorem JF (ln:Int) (l:List (Int×Int)):atL ln (aM l)=bB ln l:=by
 unfold atL aM bB;rw[List.map_map];rfl
theorem pW (ln:Int) (D:List Dg):(atL ln D).length=D.length:=by unfold atL;simp
def atJ (ln:Int) (D:List Dg) (j:Nat):List Dg:=atL ln (D.take j)++D.drop j
theorem JG (ln:Int) (D:List Dg) (j:Nat):(atJ ln D j).length=D.length:=by unfold atJ;rw[MF,pW,ML,MJ];omega
theorem Hf (ln:Int) {D:List Dg} {j:Nat} {d:Dg} (h:D[j]? =some d):(atJ ln D j)[j]? =some d:=by
 have hj:=(Mm.1 h).1;unfold atJ;rw[MR (by rw[pW,ML];omega),pW,ML,OA (by omega),NI]
 simpa using h
theorem He (ln:Int) {D:List Dg} {j:Nat} {d:Dg} (h:D[j]? =some d):(atJ ln D j).set j (d.1,ln,d.2.2)=atJ ln D (j+1):=by
 have hj:=(Mm.1 h).1;have hl:(atL ln (D.take j)).length=j:=by rw[pW,ML];omega
 have hd:D.drop j=d::D.drop (j+1):=by
  rw[NF hj]
  congr 1
  exact(Mm.1 h).2
 unfold atJ;rw[Ou _ _ (by omega),hl,Ol,hd,nU h];unfold atL;simp
theorem gp (ln:Int) {base:Nat} {v:Value} {D:List Dg} (w:World) (h:aP base w v D) (hl:D.length≤1000000):
  Calls Tryz.prog 37 #[.int .i64 ln,v] w fun e w'=>e= .returned v∧aP base w' v (atL ln D)∧Exc (fun k=>v.ownBlock=some k) w w':=by
 obtain⟨a0,c0,rfl⟩:=(ag.sl ax h).len;have H0:=zH h;clear h;go_enter Tryz.func37,Tryz.ntmps37
 go_wp2_with fail
 go_loopw [5,8] (fun _ i wr=> ∃j:Nat,j≤D.length∧i= .int .i64 (j:Int)∧Hid (aP base wr (.slice a0 D.length c0) (atJ ln D j))∧Hid (Exc (fun k=>(Value.slice a0 D.length c0).ownBlock=some k) w wr)) (fun _ i _=>D.length-(intOf i).toNat)
 case atStart=>exact⟨0,NK _,rfl,zH (by unfold atJ atL;simpa using H0.out),zH (Exc.refl _ _)⟩
 case round=>
  obtain⟨j,hj,rfl,HS,HE⟩:=hrel
  by_cases hlt:j<D.length
  ·obtain⟨d,hd⟩: ∃d,D[j]? =some d:=⟨D[j],Mq hlt⟩
   have hlt':(j:Int)<(D.length:Int):=by omega
   have hj0:(0:Int)≤(j:Int):=by omega
   obtain⟨g,rfl,-,-⟩:=HS.out.addr (by rw[JG];omega);have hsa:=HS.out.slotA ax (Hf ln hd) (i:=1) rfl;have c1:=hsa.1;have f1:=hsa.2;have HN:=zH (ag.set1 ax HS.out (Hf ln hd) (s':=(d.1,ln,d.2.2)) (i:=1) (u:= .int .i64 ln) (by omega) rfl);rw[He ln hd]at HN;have HX:=zH (HE.out.set (j*3+1) (.int .i64 ln) (g:=g) (fun _=>rfl));clear hsa hd HS HE H0;go_wp2_with fail
   go_roundw
   case rel=>exact⟨j+1,by omega,by go_num,HN,HX⟩
   case measure=>(simp[intOf];try omega)
  ·obtain rfl:j=D.length:=by omega
   have hlt': ¬(D.length:Int)<(D.length:Int):=by omega
   have e:atJ ln D D.length=atL ln D:=by unfold atJ;simp
   rw[e]at HS;go_wp2_with fail
   go_ret;exact⟨rfl,HS.out,HE.out⟩
end Go.Proofs.YtebabjnngdjceaaGreatDoor

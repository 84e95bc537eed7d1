/- Rows of texts that came  -/
import Derived.Test.YtebabjnngdjceaaGreatDoorRD
import Derived.Test.YtebabjnngdjceaaGreatDoorQc
set_option linter.unusedVariables false
set_option linter.unusedSimpArgs false
set_option maxRecDepth 100000
set_option maxHeartbeats 4000000
namespace Go.Proofs.YtebabjnngdjceaaGreatDoor
open Go.RowKit
section
open Go.ChangeShapes Go.WideShapes Go.ChangeAt Go.RowKit
def lnT (l:List (List UInt8)):Nat:=(l.map (fun b=>b.length+1)).sum
theorem aP (b:List UInt8)(l:List (List UInt8)):lnT (b::l)=b.length+1+lnT l:=by simp[lnT]
theorem FK (l m:List (List UInt8)):lnT (l++m)=lnT l+lnT m:=by simp[lnT]
theorem iL:∀l:List (List UInt8),l.length≤lnT l
 | []=>QR _
 | b::l=>by have:=iL l;rw[aP,QC];omega
theorem zz {l:List (List UInt8)}{b:List UInt8}(h:b∈l):b.length+1≤lnT l:=by
 induction l with
 | nil=>simp at h
 | cons x l ih=>
  rw[aP];rcases Q8.1 h with rfl | h
  ·omega
  ·have:=ih h;omega
theorem BN (l:List (List UInt8))(j:Nat):lnT (l.take j)≤lnT l:=by
 have:=FK (l.take j) (l.drop j);rw[Rs]at this;omega
section
variable {H:Type}{enc:TypeId×Value→H}{w:World}{held:Bool}
end
end
def bI (l:List (Int×Int)):List Dg:=l.map (fun q=>(q.1,0,q.2))
theorem uk:∀(n p:Nat) (s:List Int),∀d∈(iX n p s).2,d.2.1=0
 | 0,p,s,d,h=>by simp[iX]at h
 | n+1,p,s,d,h=>by
  unfold iX at h
  split at h
  ·simp at h
  ·simp only[SB]at h
   rcases h with h | h
   ·unfold dgs at h
    obtain⟨k,hk,rfl⟩:=S9.1 h;rfl
   ·exact uk n _ _ d h
theorem zD (f:Int)(s:Txt):(bY 0 (dec s)).2=bI (lgS f s).2:=by
 unfold lgS bI;simp only[List.map_map];have h:∀l:List Dg,(∀d∈l,d.2.1=0)→l=l.map ((fun q:Int×Int=>((q.1,0,q.2):Dg))∘ fun d:Dg=>(d.1,d.2.2)):=fun l=>by
  induction l with
  | nil=>intro _;rfl
  | cons x l ih=>
   intro hl;rw[Q5,←ih (fun d hd=>hl d (RJ _ hd))];have:=hl x RO;obtain⟨a,b,c⟩:=x;simp only at this;subst this;rfl
 exact h _ (fun d hd=>uk _ _ _ d hd)
theorem nE (f:Int)(s:Txt):(lgS f s).1.length≤s.length∧(lgS f s).2.length≤s.length:=by
 have h1:=uj (dec s);have h2:=vQ s;have h3:=vG (f,f) (bY 0 (dec s)).1;unfold lgS;simp only[RB];omega
def sV (f:Int)(q:List Gly×List (Int×Int))(s:Txt):List Gly×List (Int×Int):=(jn q.1 (lgS f s).1,q.2++(lgS f s).2)
def jI (a b:Int)(i:Nat):Int:=if i % 2=0 then a else b
def dH (f:Int)(l:List Txt):List Gly×List (Int×Int):=l.foldl (sV f) ([],[])
theorem jy (f:Int)(l:List Txt):dD f l=dH f l:=rfl
theorem CR {f:Int}{l:List Txt}{j:Nat}{s:Txt}(h:l[j]? =some s):dH f (l.take (j+1))=(jn (dH f (l.take j)).1 (lgS f s).1,(dH f (l.take j)).2++(lgS f s).2):=by
 unfold dH;rw[dP h,SV];rfl
def bQ (a b:Int):Nat→List Txt→List Gly×List (Int×Int)
 | _,[]=>([],[])
 | i,s::l=>((lgS (jI a b i) s).1++(bQ a b (i+1) l).1,(lgS (jI a b i) s).2++(bQ a b (i+1) l).2)
theorem oZ:∀(l:List Txt) (a b:Int) (i:Nat),(i % 2=0→wF a b l=bQ a b i l)∧(i % 2=1→wF b a l=bQ a b i l)
 | [],a,b,i=>⟨fun _=>rfl,fun _=>rfl⟩
 | s::l,a,b,i=>by
  refine⟨fun h=>?_,fun h=>?_⟩
  ·have:=(oZ l a b (i+1)).2 (by omega)
   unfold wF bQ;rw[this];unfold jI;rw[QP h]
  ·have:=(oZ l a b (i+1)).1 (by omega)
   unfold wF bQ;rw[this];unfold jI;rw[QG (by omega)]
theorem xq (a b:Int):∀(l m:List Txt) (i:Nat),bQ a b i (l++m)=((bQ a b i l).1++(bQ a b (i+l.length) m).1,(bQ a b i l).2++(bQ a b (i+l.length) m).2)
 | [],m,i=>by simp[bQ]
 | s::l,m,i=>by
  have:=xq a b l m (i+1);have e:i+(s::l).length=i+1+l.length:=by simp;omega
  rw[e];simp only[QY,bQ,this,Rq]
theorem C9 {a b:Int}{l:List Txt}{j:Nat}{s:Txt}(h:l[j]? =some s):bQ a b 0 (l.take (j+1))=((bQ a b 0 (l.take j)).1++(lgS (jI a b j) s).1,(bQ a b 0 (l.take j)).2++(lgS (jI a b j) s).2):=by
 have hj:=(Qu.1 h).1;rw[dP h,xq];have e:0+(l.take j).length=j:=by rw[QN];omega
 rw[e];simp[bQ]
theorem Gi (f:Int)(q:List Gly×List (Int×Int))(s:Txt):(sV f q s).1.length≤q.1.length+s.length+1∧(sV f q s).2.length≤q.2.length+s.length:=by
 have h:=nE f s;have h2:=O0 q.1 (lgS f s).1;unfold sV;simp only[QE]
 split at h2<;>omega
theorem fB (f:Int):∀(l:List Txt) (q:List Gly×List (Int×Int)),(l.foldl (sV f) q).1.length≤q.1.length+lnT l∧(l.foldl (sV f) q).2.length≤q.2.length+lnT l
 | [],q=>by simp
 | s::l,q=>by
  have h1:=Gi f q s;have h2:=fB f l (sV f q s);rw[aP];simp only[Td];omega
theorem mZ (a b:Int):∀(l:List Txt) (i:Nat),(bQ a b i l).1.length≤lnT l∧(bQ a b i l).2.length≤lnT l
 | [],i=>by simp[bQ]
 | s::l,i=>by
  have h1:=nE (jI a b i) s;have h2:=mZ a b l (i+1);rw[aP];unfold bQ;simp only[QE];omega
section
attribute [local go_sem ↓ high] fH bN
theorem NL {base:Nat}{W W':World}{x:Value}{l:List Gly}(h:bu base W x l)(hg:W.grownBy W' x.ownBlock):Exc (fun k=>x.ownBlock=some k) W W':=
 ⟨hg.os,hg.tape,hg.output,hg.size,fun k hk hx=>hg.block k hk (fun e=>hx e.symm)⟩
theorem CQ (i a:Int)(F:Nat)(w:World)(c0:w.cell? ⟨F,0,none⟩=some (.int .u8 a)):
  Calls Tryz.prog 68 #[.int .i64 i,.pointer (some ⟨F,0,none⟩)] w fun e w'=>e=.returned (.int .u8 a)∧w=w':=by
 go_enter Tryz.func68,Tryz.ntmps68
 go_wp2_with fail
 go_ret;exact⟨rfl,rfl⟩
theorem CZ (i:Nat)(a b:Int)(F G:Nat)(w:World)(hi:i≤1000000)(c0:w.cell? ⟨F,0,none⟩=some (.int .u8 a))(c1:w.cell? ⟨G,0,none⟩=some (.int .u8 b)):
  Calls Tryz.prog 71 #[.int .i64 (i:Int),.pointer (some ⟨F,0,none⟩),.pointer (some ⟨G,0,none⟩)] w fun e w'=>e=.returned (.int .u8 (jI a b i))∧w=w':=by
 have ht:Int.tmod (i:Int) 2=((i % 2:Nat):Int):=by rw[Int.tmod_eq_emod_of_nonneg (by omega)];omega
 by_cases he:i % 2=0
 ·rw[he]at ht
  unfold jI;rw[QP he];go_enter Tryz.func71,Tryz.ntmps71
  go_wp2_with fail
  go_ret;exact⟨rfl,rfl⟩
 ·obtain ho:i % 2=1:=by omega
  rw[ho]at ht;unfold jI;rw[QG he];clear he ho;go_enter Tryz.func71,Tryz.ntmps71
  go_wp2_with fail
  go_ret;exact⟨rfl,rfl⟩
theorem CY (v:Value)(w:World):
  Calls Tryz.prog 72 #[v] w fun e w'=>e=.returned v∧w=w':=by
 go_enter Tryz.func72,Tryz.ntmps72
 go_wp2_with fail
 go_ret;exact⟨rfl,rfl⟩
theorem CX {base:Nat}{x:Value}{l:List Gly}(w:World)(h:bu base w x l)(hb:base≤w.heap.size)(hl:l.length≤500000):
  Calls Tryz.prog 72 #[x] w fun e w'=> ∃x',e=.returned x'∧bu base w' x' (l++ [])∧Exc (fun k=>x.ownBlock=some k) w w':=
 (CY x w).mono fun e w' ⟨h1,h2⟩=>⟨x,h1,by rw[QW,←h2];exact h,by rw[←h2];exact Exc.refl _ _⟩
theorem CP {base:Nat}{x:Value}{l:List Gly}(w:World)(h:bu base w x l)(hb:base≤w.heap.size)(hl:l.length≤500000):
  Calls Tryz.prog 69 #[x] w fun e w'=> ∃x',e=.returned x'∧bu base w' x' (l++ [(32,0)])∧Exc (fun k=>x.ownBlock=some k) w w':=by
 have b1:=ae w (.cells (aQ (32,0)).toArray 35);obtain⟨x',w2,hr,ho,hg,-⟩:=fq (h.keep b1) (dS ah w 35 [(32,0)]) (by simp;omega) (by simp;omega);have hr':(appG #[x,.slice (some ⟨w.heap.size,0,none⟩) 1 1]).run Tryz.prog (w.alloc (.cells #[.int .i32 32,.int .u8 0] 35))=.ok (.value x') w2:=hr;have HO:=zH ho;have HE:=zH ((Exc.of (X:=fun k=>x.ownBlock=some k) b1).then (NL (h.keep b1) hg));clear hr ho hg h b1;go_enter Tryz.func69,Tryz.ntmps69
 go_wp2_with fail
 go_ret;exact⟨_,rfl,HO.out,HE.out⟩
theorem QTW {P:Prop}(h:P:=by
 have hx0:X.1.length=0:=by rw[hX0];rfl
 rw[hn1,hx0]at k2;obtain⟨sa',sc',rfl⟩:=(ag.sl ah p2).len;have P2:=zH p2;have D5:=zH hd5;have B5:=zH hb5;obtain⟨m5,hm5⟩:∃m,(X.1++G.1).length=m:=⟨_,rfl⟩;rw[hm5]at k2 P2;rw[hn1,hm2,hx0];clear o1 o2 b1 bl s2 d2 B2 p1 g1 s3 x3 B3 HT HLn hQe HQ HD X3 S3' p2 g2 hd5 hb5 hn1 hm5 hX0 hx0 HS S3;go_wp2_with fail
 go_roundw
 case rel=>exact⟨j+1,by omega,by go_num,zH (by rw[hQ1.out];exact P2.out),D5,B5⟩
 case measure=>(simp[intOf];try omega)):P:=h
theorem QTX {P:Prop}(h:P:=by
 have hg0:G.1.length=0:=by rw[hG0];rfl
 obtain⟨n1,hn1⟩:∃n,G.1.length=n:=⟨_,rfl⟩;rw[hn1]at hg0 o1;subst hg0;rw[hn1];clear o1 o2 b1 bl s2 d2 B2 p1 g1 s3 x3 B3 HT HLn hQe HQ HD X3 S3';rw[hm2];go_wp2_with fail
 go_roundw
 case rel=>exact⟨j+1,by omega,by go_num,zH (by rw[hQ1.out];exact S3.out),HP1,BB⟩
 case measure=>(simp[intOf];try omega)):P:=h
theorem QTY {P:Prop}(h:P:=by
 obtain rfl:j=L.length:=by omega
 have hlt':¬(L.length:Int)<(L.length:Int):=by omega
 rw[QT]at HS HD;obtain⟨sa,sc,rfl⟩:=(ag.sl ah HS.out).len;obtain⟨da,dc,rfl⟩:=(ag.sl ax HD.out).len;go_wp2_with fail
 repeat(change Exit.noGoto _ Exit.ret _ _;rw[RG])
 go_ret2
 exact⟨_,_,rfl,HS.out,HD.out,HB.out⟩):P:=h
theorem QTZ {P:Prop}(h:P:=by
 rw[hm6,hm7]at k2;rw[hm6];rw[hm7]at P2;clear q1 q2 HF HBT hm6 hm7;go_wp2_with fail
 go_roundw
 case rel=>exact⟨j+1,by omega,by go_num,P2,D5,B5⟩
 case measure=>(simp[intOf];try omega)):P:=h
theorem Li (f:Int)(F:Nat)(L:List Txt)(v:Value)(w:World)(hv:Ss w v L)(hl:lnT L≤40000)(hL:∀s∈L,s.length≤2000)(c0:w.cell? ⟨F,0,none⟩=some (.int .u8 f)):
  Calls Tryz.prog 70 #[v,.func (.func 68) #[] #[.pointer (some ⟨F,0,none⟩)],.func (.func 69) #[] #[]] w
   fun e w'=> ∃x d,e=.returned (.tuple #[x,d])∧bu w.heap.size w' x (dH f L).1∧bK w.heap.size w' d (bI (dH f L).2)∧zB w w':=by
 obtain⟨a0,ca,rfl⟩:=hv.len;have hn:L.length≤40000:=by have:=iL L;omega
 have HV:=zH hv;have HLN:=zH hl;have HL:=zH hL;have hF:=QJ w _ c0;simp only at hF;have HC:Hid (∀W,zB w W→W.cell? ⟨F,0,none⟩=some (.int .u8 f)):=zH (fun W hb=>(hb.cell (p:=⟨F,0,none⟩) hF).trans c0);clear c0 hF;clear hv hl hL;go_enter Tryz.func70,Tryz.ntmps70
 go_wp2_with fail
 go_step3
 go_wp2_with fail
 go_step3
 go_wp2_with fail
 go_loopw [8,9,18] (fun s d i wr=> ∃j:Nat,j≤L.length∧i=.int .i64 (j:Int)∧Hid (bu w.heap.size wr s (dH f (L.take j)).1)∧Hid (bK w.heap.size wr d (bI (dH f (L.take j)).2))∧Hid (zB w wr)) (fun _ _ i _=>L.length-(intOf i).toNat)
 case atStart=>exact⟨0,QR _,rfl,zH (ag.nil _ _),zH (ag.nil _ _),zH (QA _ _)⟩
 case round=>
  obtain⟨j,hj,rfl,HS,HD,HB⟩:=hrel
  by_cases hlt:j<L.length
  ·obtain⟨s0,hs0⟩:∃s0,L[j]? =some s0:=⟨L[j],Qw hlt⟩
   have HQ:=zH (CR (f:=f) hs0);have hlt':(j:Int)<(L.length:Int):=by omega
   have hj0:(0:Int)≤(j:Int):=by omega
   obtain⟨b0,o0,rfl,hc0⟩:=Ss.at (Fs.below HV.out HB.out) hs0;have hs2:s0.length≤2000:=HL.out s0 (Ro hs0);have HT:=zH (CQ (j:Int) f F wr (HC.out wr HB.out));have HLn:=zH (pW (f) (f) s0 wr hs2);unfold Og at HLn;rw[zD (f) s0]at HLn;have hlg:(jL (f,f) (bY 0 (dec s0)).1).1=(lgS (f) s0).1:=rfl;rw[hlg]at HLn;obtain⟨fc,hfc⟩:∃fc,(jL (f,f) (bY 0 (dec s0)).1).2=fc:=⟨_,rfl⟩;rw[hfc]at HLn;have hll:=nE (f) s0;obtain⟨G,hG⟩:∃G,lgS (f) s0=G:=⟨_,rfl⟩;rw[hG]at HLn hll HQ;obtain⟨n0,hn0⟩:∃n0,(f)=n0:=⟨_,rfl⟩;rw[hn0]at HLn HT;have hXl:(dH f (L.take j)).1.length≤40000∧(dH f (L.take j)).2.length≤40000:=by
    have h1:=fB f (L.take j) ([],[]);have h2:=BN L j;have h3:=HLN.out
    try simp only[dH,QH]at h1⊢
    omega
   obtain⟨X,hX⟩:∃X,dH f (L.take j)=X:=⟨_,rfl⟩;rw[hX]at HS HD HQ hXl;have hdl:∀l,(bI l).length=l.length:=fun l=>by unfold bI;simp
   have hd1:=hdl X.2;have hd2:=hdl G.2;obtain⟨sa,sc,rfl⟩:=(ag.sl ah HS.out).len;obtain⟨da,dc,rfl⟩:=(ag.sl ax HD.out).len;clear hlg hfc hG hn0 hX hs0 hdl;go_wp2_with fail
   refine HT.out.mono ?_;rintro e w9 ⟨rfl,rfl⟩;go_wp2_with fail
   refine HLn.out.mono ?_;rintro e w1 ⟨x,vd,rfl,o1,o2,b1⟩;have bl:=ae w1 (.cells #[.int .u8 fc.1,.int .u8 fc.2] 28);have hz:=b1.size;have hz0:=HB.out.size;have s2:=(HS.out.keep b1).keep bl;have d2:=(HD.out.keep b1).keep bl;have B2:zB w (w1.alloc (.cells #[.int .u8 fc.1,.int .u8 fc.2] 28)):=(HB.out.trans (b1.mono hz0)).trans (bl.mono (by omega));obtain⟨d',w3,k1,p1,g1,-⟩:=ic d2 (ag.sl ax (o2.keep bl)) (by simp;omega) (by omega);have s3:bu w.heap.size w3 _ X.1:=ag.apart s2 g1 (dN s2 d2 (by decide));have x3:bu wr.heap.size w3 x G.1:=ag.apart (o1.keep bl) g1 (dN (o1.keep bl) d2 (by decide));have B3:zB w w3:=d2.below B2 (by simp;omega) g1;have z3:=g1.size;simp only[QK]at z3;obtain⟨xa,xc,rfl⟩:=(ag.sl ah o1).len;obtain⟨va,vc,rfl⟩:=(ag.sl ax o2).len;obtain⟨da',dc',rfl⟩:=(ag.sl ax p1).len;have hQe:(dH f (L.take (j+1)))=(jn X.1 G.1,X.2++G.2):=HQ.out;have HP1:Hid (bK w.heap.size w3 (.slice da' (bI X.2++bI G.2).length dc') (bI (dH f (L.take (j+1))).2)):=zH (by
    rw[hQe];have e:bI (X.2++G.2)=bI X.2++bI G.2:=by unfold bI;simp
    show bK _ _ _ (bI (X.2++G.2));rw[e];exact p1)
   obtain⟨m2,hm2⟩:∃m,(bI G.2).length=m:=⟨_,rfl⟩;obtain⟨m3,hm3⟩:∃m,(bI X.2++bI G.2).length=m:=⟨_,rfl⟩;rw[hm3]at k1 HP1;rw[hd1,hm2]at k1;have HD':=zH HD.out;have S3:=zH s3;have X3:=zH x3;have BB:=zH B3;have S3':=S3;have hb3:=B3.size
   by_cases hG0:G.1=[]
   ·have hQ1:Hid ((dH f (L.take (j+1))).1=X.1):=zH (by
     rw[hQe];show jn X.1 G.1=X.1;rw[hG0];exact lF _)
    exact QTX
   ·have hg0:0<G.1.length:=Rh.2 hG0
    obtain⟨n1,hn1⟩:∃n,G.1.length=n:=⟨_,rfl⟩;rw[hn1]at hg0 o1 hll;have hgn:¬(n1:Int)=0:=by omega
    have HN1:=zH hn1;have hB3s:w.heap.size≤w3.heap.size:=by omega
    by_cases hX0:X.1=[]
    ·obtain⟨s',w5,k2,p2,g2,-⟩:=fq s3 (ag.sl ah x3) hB3s (by omega)
     have hd5:bK w.heap.size w5 (.slice da' m3 dc') (bI (dH f (L.take (j+1))).2):=ag.apart HP1.out g2 (dN HP1.out s3 (by decide));have hb5:zB w w5:=s3.below B3 hB3s g2;have hQ1:Hid ((dH f (L.take (j+1))).1=X.1++G.1):=zH (by
      rw[hQe];show jn X.1 G.1=X.1++G.1;rw[hX0,zL];rfl)
     exact QTW
    ·have hx0:0<X.1.length:=Rh.2 hX0
     have HBT:=zH (CP w3 S3.out hB3s (by omega));have HF:Hid (∀x' w4,bu w.heap.size w4 x' (X.1++ [(32,0)])→Exc (fun k=>(Value.slice sa X.1.length sc).ownBlock=some k) w3 w4→ ∃s' w5,(appG #[x',.slice xa n1 xc]).run Tryz.prog w4=.ok (.value s') w5∧Hid (bu w.heap.size w5 s' (dH f (L.take (j+1))).1)∧Hid (bK w.heap.size w5 (.slice da' m3 dc') (bI (dH f (L.take (j+1))).2))∧Hid (zB w w5)):=zH (fun x' w4 q1 q2=>by
      have lt3:∀{α:Type} {e n base:Nat} {f:α→List Value} {v:Value} {l:List α},ag e n f base w3 v l→ ∀k,v.ownBlock=some k→k<w3.heap.size:=fun h k e=>by
       obtain⟨-,cur,hc⟩:=h.ty e;exact(Qx.1 hc).1
      have x4:bu wr.heap.size w4 (.slice xa G.1.length xc) G.1:=x3.kp (fun k e=>q2.block k (lt3 x3 k e) (fun e2=>by
       have h1:=(x3.ty e).1;obtain⟨-,cur,hc⟩:=HS.out.ty e2;have:=(Qx.1 hc).1;omega))
      have d4:bK w.heap.size w4 (.slice da' m3 dc') (bI (dH f (L.take (j+1))).2):=HP1.out.kp (fun k e=>q2.block k (lt3 HP1.out k e) (fun e2=>by
       rcases dN HP1.out s3 (by decide)with z | z
       ·rw[z]at e;cases e
       ·exact z (e.trans e2.symm)))
      have b4:zB w w4:=B3.trans (q2.below hB3s (fun k hk e=>by have:=(s3.ty e).1;omega));obtain⟨s',w5,k2,p2,g2,-⟩:=fq q1 (ag.sl ah x4) b4.size (by simp;omega);rw[hn1]at k2;refine⟨s',w5,k2,zH ?_,zH (ag.apart d4 g2 (dN d4 q1 (by decide))),zH (q1.below b4 b4.size g2)⟩;rw[hQe];show bu _ _ _ (jn X.1 G.1);unfold jn;rw[QG hX0,QG hG0];exact p2)
     have hxl:(0:Int)<(X.1.length:Int):=by omega
     obtain⟨nx,hnx⟩:∃n,X.1.length=n:=⟨_,rfl⟩;rw[hnx]at hxl HBT HF;rw[hn1,hm2];clear o1 o2 b1 bl s2 d2 B2 p1 g1 s3 x3 B3 HT HLn hQe HQ HD X3 S3' hn1 hX0 hx0 HS S3;rw[hnx];clear hnx;go_wp2_with fail
     refine HBT.out.mono ?_;rintro e w4 ⟨x',rfl,q1,q2⟩;obtain⟨s',w5,k2,P2,D5,B5⟩:=HF.out x' w4 q1 q2;obtain⟨xa',xc',rfl⟩:=(ag.sl ah q1).len;obtain⟨sa',sc',rfl⟩:=(ag.sl ah P2.out).len;obtain⟨m6,hm6⟩:∃m,(X.1++ [(32,0)]).length=m:=⟨_,rfl⟩;obtain⟨m7,hm7⟩:∃m,(dH f (L.take (j+1))).1.length=m:=⟨_,rfl⟩;exact QTZ
  ·exact QTY
theorem Lj (a b:Int)(F G:Nat)(L:List Txt)(v:Value)(w:World)(hv:Ss w v L)(hl:lnT L≤40000)(hL:∀s∈L,s.length≤2000)(c0:w.cell? ⟨F,0,none⟩=some (.int .u8 a))(c1:w.cell? ⟨G,0,none⟩=some (.int .u8 b)):
  Calls Tryz.prog 70 #[v,.func (.func 71) #[] #[.pointer (some ⟨F,0,none⟩),.pointer (some ⟨G,0,none⟩)],.func (.func 72) #[] #[]] w
   fun e w'=> ∃x d,e=.returned (.tuple #[x,d])∧bu w.heap.size w' x (bQ a b 0 L).1∧bK w.heap.size w' d (bI (bQ a b 0 L).2)∧zB w w':=by
 obtain⟨a0,ca,rfl⟩:=hv.len;have hn:L.length≤40000:=by have:=iL L;omega
 have HV:=zH hv;have HLN:=zH hl;have HL:=zH hL;have hF:=QJ w _ c0;have hG:=QJ w _ c1;simp only at hF hG;have HC:Hid (∀W,zB w W→W.cell? ⟨F,0,none⟩=some (.int .u8 a)∧W.cell? ⟨G,0,none⟩=some (.int .u8 b)):=zH (fun W hb=>⟨(hb.cell (p:=⟨F,0,none⟩) hF).trans c0,(hb.cell (p:=⟨G,0,none⟩) hG).trans c1⟩);clear c0 c1 hF hG;clear hv hl hL;go_enter Tryz.func70,Tryz.ntmps70
 go_wp2_with fail
 go_step3
 go_wp2_with fail
 go_step3
 go_wp2_with fail
 go_loopw [8,9,18] (fun s d i wr=> ∃j:Nat,j≤L.length∧i=.int .i64 (j:Int)∧Hid (bu w.heap.size wr s (bQ a b 0 (L.take j)).1)∧Hid (bK w.heap.size wr d (bI (bQ a b 0 (L.take j)).2))∧Hid (zB w wr)) (fun _ _ i _=>L.length-(intOf i).toNat)
 case atStart=>exact⟨0,QR _,rfl,zH (ag.nil _ _),zH (ag.nil _ _),zH (QA _ _)⟩
 case round=>
  obtain⟨j,hj,rfl,HS,HD,HB⟩:=hrel
  by_cases hlt:j<L.length
  ·obtain⟨s0,hs0⟩:∃s0,L[j]? =some s0:=⟨L[j],Qw hlt⟩
   have HQ:=zH (C9 (a:=a) (b:=b) hs0);have hlt':(j:Int)<(L.length:Int):=by omega
   have hj0:(0:Int)≤(j:Int):=by omega
   obtain⟨b0,o0,rfl,hc0⟩:=Ss.at (Fs.below HV.out HB.out) hs0;have hs2:s0.length≤2000:=HL.out s0 (Ro hs0);have HT:=zH (CZ j a b F G wr (by omega) (HC.out wr HB.out).1 (HC.out wr HB.out).2);have HLn:=zH (pW (jI a b j) (jI a b j) s0 wr hs2);unfold Og at HLn;rw[zD (jI a b j) s0]at HLn;have hlg:(jL (jI a b j,jI a b j) (bY 0 (dec s0)).1).1=(lgS (jI a b j) s0).1:=rfl;rw[hlg]at HLn;obtain⟨fc,hfc⟩:∃fc,(jL (jI a b j,jI a b j) (bY 0 (dec s0)).1).2=fc:=⟨_,rfl⟩;rw[hfc]at HLn;have hll:=nE (jI a b j) s0;obtain⟨G,hG⟩:∃G,lgS (jI a b j) s0=G:=⟨_,rfl⟩;rw[hG]at HLn hll HQ;obtain⟨n0,hn0⟩:∃n0,(jI a b j)=n0:=⟨_,rfl⟩;rw[hn0]at HLn HT;have hXl:(bQ a b 0 (L.take j)).1.length≤40000∧(bQ a b 0 (L.take j)).2.length≤40000:=by
    have h1:=mZ a b (L.take j) 0;have h2:=BN L j;have h3:=HLN.out
    try simp only[bQ,QH]at h1⊢
    omega
   obtain⟨X,hX⟩:∃X,bQ a b 0 (L.take j)=X:=⟨_,rfl⟩;rw[hX]at HS HD HQ hXl;have hdl:∀l,(bI l).length=l.length:=fun l=>by unfold bI;simp
   have hd1:=hdl X.2;have hd2:=hdl G.2;obtain⟨sa,sc,rfl⟩:=(ag.sl ah HS.out).len;obtain⟨da,dc,rfl⟩:=(ag.sl ax HD.out).len;clear hlg hfc hG hn0 hX hs0 hdl;go_wp2_with fail
   refine HT.out.mono ?_;rintro e w9 ⟨rfl,rfl⟩;go_wp2_with fail
   refine HLn.out.mono ?_;rintro e w1 ⟨x,vd,rfl,o1,o2,b1⟩;have bl:=ae w1 (.cells #[.int .u8 fc.1,.int .u8 fc.2] 28);have hz:=b1.size;have hz0:=HB.out.size;have s2:=(HS.out.keep b1).keep bl;have d2:=(HD.out.keep b1).keep bl;have B2:zB w (w1.alloc (.cells #[.int .u8 fc.1,.int .u8 fc.2] 28)):=(HB.out.trans (b1.mono hz0)).trans (bl.mono (by omega));obtain⟨d',w3,k1,p1,g1,-⟩:=ic d2 (ag.sl ax (o2.keep bl)) (by simp;omega) (by omega);have s3:bu w.heap.size w3 _ X.1:=ag.apart s2 g1 (dN s2 d2 (by decide));have x3:bu wr.heap.size w3 x G.1:=ag.apart (o1.keep bl) g1 (dN (o1.keep bl) d2 (by decide));have B3:zB w w3:=d2.below B2 (by simp;omega) g1;have z3:=g1.size;simp only[QK]at z3;obtain⟨xa,xc,rfl⟩:=(ag.sl ah o1).len;obtain⟨va,vc,rfl⟩:=(ag.sl ax o2).len;obtain⟨da',dc',rfl⟩:=(ag.sl ax p1).len;have hQe:(bQ a b 0 (L.take (j+1)))=(X.1++G.1,X.2++G.2):=HQ.out;have HP1:Hid (bK w.heap.size w3 (.slice da' (bI X.2++bI G.2).length dc') (bI (bQ a b 0 (L.take (j+1))).2)):=zH (by
    rw[hQe];have e:bI (X.2++G.2)=bI X.2++bI G.2:=by unfold bI;simp
    show bK _ _ _ (bI (X.2++G.2));rw[e];exact p1)
   obtain⟨m2,hm2⟩:∃m,(bI G.2).length=m:=⟨_,rfl⟩;obtain⟨m3,hm3⟩:∃m,(bI X.2++bI G.2).length=m:=⟨_,rfl⟩;rw[hm3]at k1 HP1;rw[hd1,hm2]at k1;have HD':=zH HD.out;have S3:=zH s3;have X3:=zH x3;have BB:=zH B3;have S3':=S3;have hb3:=B3.size
   by_cases hG0:G.1=[]
   ·have hQ1:Hid ((bQ a b 0 (L.take (j+1))).1=X.1):=zH (by
     rw[hQe];show X.1++G.1=X.1;rw[hG0,QW])
    exact QTX
   ·have hg0:0<G.1.length:=Rh.2 hG0
    obtain⟨n1,hn1⟩:∃n,G.1.length=n:=⟨_,rfl⟩;rw[hn1]at hg0 o1 hll;have hgn:¬(n1:Int)=0:=by omega
    have HN1:=zH hn1;have hB3s:w.heap.size≤w3.heap.size:=by omega
    by_cases hX0:X.1=[]
    ·obtain⟨s',w5,k2,p2,g2,-⟩:=fq s3 (ag.sl ah x3) hB3s (by omega)
     have hd5:bK w.heap.size w5 (.slice da' m3 dc') (bI (bQ a b 0 (L.take (j+1))).2):=ag.apart HP1.out g2 (dN HP1.out s3 (by decide));have hb5:zB w w5:=s3.below B3 hB3s g2;have hQ1:Hid ((bQ a b 0 (L.take (j+1))).1=X.1++G.1):=zH (by
      rw[hQe]
      try rfl)
     exact QTW
    ·have hx0:0<X.1.length:=Rh.2 hX0
     have HBT:=zH (CX w3 S3.out hB3s (by omega));have HF:Hid (∀x' w4,bu w.heap.size w4 x' (X.1++ [])→Exc (fun k=>(Value.slice sa X.1.length sc).ownBlock=some k) w3 w4→ ∃s' w5,(appG #[x',.slice xa n1 xc]).run Tryz.prog w4=.ok (.value s') w5∧Hid (bu w.heap.size w5 s' (bQ a b 0 (L.take (j+1))).1)∧Hid (bK w.heap.size w5 (.slice da' m3 dc') (bI (bQ a b 0 (L.take (j+1))).2))∧Hid (zB w w5)):=zH (fun x' w4 q1 q2=>by
      have lt3:∀{α:Type} {e n base:Nat} {f:α→List Value} {v:Value} {l:List α},ag e n f base w3 v l→ ∀k,v.ownBlock=some k→k<w3.heap.size:=fun h k e=>by
       obtain⟨-,cur,hc⟩:=h.ty e;exact(Qx.1 hc).1
      have x4:bu wr.heap.size w4 (.slice xa G.1.length xc) G.1:=x3.kp (fun k e=>q2.block k (lt3 x3 k e) (fun e2=>by
       have h1:=(x3.ty e).1;obtain⟨-,cur,hc⟩:=HS.out.ty e2;have:=(Qx.1 hc).1;omega))
      have d4:bK w.heap.size w4 (.slice da' m3 dc') (bI (bQ a b 0 (L.take (j+1))).2):=HP1.out.kp (fun k e=>q2.block k (lt3 HP1.out k e) (fun e2=>by
       rcases dN HP1.out s3 (by decide)with z | z
       ·rw[z]at e;cases e
       ·exact z (e.trans e2.symm)))
      have b4:zB w w4:=B3.trans (q2.below hB3s (fun k hk e=>by have:=(s3.ty e).1;omega));obtain⟨s',w5,k2,p2,g2,-⟩:=fq q1 (ag.sl ah x4) b4.size (by simp;omega);rw[hn1]at k2;refine⟨s',w5,k2,zH ?_,zH (ag.apart d4 g2 (dN d4 q1 (by decide))),zH (q1.below b4 b4.size g2)⟩;rw[hQe];show bu _ _ _ (X.1++G.1);rw[QW]at p2;exact p2)
     have hxl:(0:Int)<(X.1.length:Int):=by omega
     obtain⟨nx,hnx⟩:∃n,X.1.length=n:=⟨_,rfl⟩;rw[hnx]at hxl HBT HF;rw[hn1,hm2];clear o1 o2 b1 bl s2 d2 B2 p1 g1 s3 x3 B3 HT HLn hQe HQ HD X3 S3' hn1 hX0 hx0 HS S3;rw[hnx];clear hnx;go_wp2_with fail
     refine HBT.out.mono ?_;rintro e w4 ⟨x',rfl,q1,q2⟩;obtain⟨s',w5,k2,P2,D5,B5⟩:=HF.out x' w4 q1 q2;obtain⟨xa',xc',rfl⟩:=(ag.sl ah q1).len;obtain⟨sa',sc',rfl⟩:=(ag.sl ah P2.out).len;obtain⟨m6,hm6⟩:∃m,(X.1++ []).length=m:=⟨_,rfl⟩;obtain⟨m7,hm7⟩:∃m,(bQ a b 0 (L.take (j+1))).1.length=m:=⟨_,rfl⟩;exact QTZ
  ·exact QTY
end
def Mo (w:World)(q:List Gly×List (Int×Int))(e:Ending)(w':World):Prop:= ∃x d,e=.returned (.tuple #[x,d])∧bu w.heap.size w' x q.1∧bK w.heap.size w' d (bI q.2)∧zB w w'
theorem QT0 {P:Prop}(h:P:=by
 go_wp2_with fail
 refine HE.out.mono ?_;rintro e w1 ⟨x,d,rfl,o1,o2,b1⟩;have H3:=zH (HF.out x d w1 o1 o2 b1);clear o1 o2 b1 HE HF;go_wp2_with fail
 go_ret2
 exact⟨_,_,rfl,H3.out⟩):P:=h
theorem uh (f:Int)(L:List Txt)(v:Value)(w:World)(hv:Ss w v L)(hl:lnT L≤40000)(hL:∀s∈L,s.length≤2000):
  Calls Tryz.prog 34 #[.int .u8 f,v] w (Mo w (dD f L)):=by
 have b1:=ae w (.cells #[.int .u8 f] 5);have hbk:Blk (w.alloc (.cells #[.int .u8 f] 5)) w.heap.size 5 [.int .u8 f]:=QD w _;have HE:=zH (Li f w.heap.size L v (w.alloc (.cells #[.int .u8 f] 5)) (Fs.below hv b1) hl hL (hbk.cell 0));rw[←jy]at HE;have hz:(w.alloc (.cells #[.int .u8 f] 5)).heap.size=w.heap.size+1:=QK ..;have HF:Hid (∀x d w',bu (w.alloc (.cells #[.int .u8 f] 5)).heap.size w' x (dD f L).1→bK (w.alloc (.cells #[.int .u8 f] 5)).heap.size w' d (bI (dD f L).2)→Below (w.alloc (.cells #[.int .u8 f] 5)).heap.size (w.alloc (.cells #[.int .u8 f] 5)) w'→bu w.heap.size w' x (dD f L).1∧bK w.heap.size w' d (bI (dD f L).2)∧zB w w'):=
  zH (fun x d w' h1 h2 h3=>⟨h1.mono (by omega),h2.mono (by omega),b1.trans (h3.mono (by omega))⟩)
 obtain⟨a0,c0,rfl⟩:=hv.len;clear hv hl hL b1 hbk hz;go_enter Tryz.func34,Tryz.ntmps34
 exact QT0
theorem Da (a b:Int)(L:List Txt)(v:Value)(w:World)(hv:Ss w v L)(hl:lnT L≤40000)(hL:∀s∈L,s.length≤2000):
  Calls Tryz.prog 36 #[.int .u8 a,.int .u8 b,v] w (Mo w (wF a b L)):=by
 rw[(oZ L a b 0).1 rfl];have hb:=yt w (.cells #[.int .u8 a] 5) (.cells #[.int .u8 b] 5);have HE:=zH (Lj a b w.heap.size (w.heap.size+1) L v ((w.alloc (.cells #[.int .u8 a] 5)).alloc (.cells #[.int .u8 b] 5)) (Fs.below hv hb) hl hL ((ym w [.int .u8 a] 5 (.cells #[.int .u8 b] 5)).cell 0) ((wm w (.cells #[.int .u8 a] 5) [.int .u8 b] 5).cell 0));have hz:((w.alloc (.cells #[.int .u8 a] 5)).alloc (.cells #[.int .u8 b] 5)).heap.size=w.heap.size+1+1:=by simp
 obtain⟨W2,hW2⟩:∃W2,(w.alloc (.cells #[.int .u8 a] 5)).alloc (.cells #[.int .u8 b] 5)=W2:=⟨_,rfl⟩;rw[hW2]at hb HE hz;have HF:Hid (∀x d w',bu W2.heap.size w' x (bQ a b 0 L).1→bK W2.heap.size w' d (bI (bQ a b 0 L).2)→zB W2 w'→bu w.heap.size w' x (bQ a b 0 L).1∧bK w.heap.size w' d (bI (bQ a b 0 L).2)∧zB w w'):=
  zH (fun x d w' h1 h2 h3=>⟨h1.mono (by omega),h2.mono (by omega),hb.trans (h3.mono (by omega))⟩)
 obtain⟨a0,c0,rfl⟩:=hv.len;clear hv hl hL hb hz;go_enter Tryz.func36,Tryz.ntmps36
 exact QT0
theorem uX (w:World):Calls Tryz.prog 35 #[.int .u8 66] w fun e w'=>e=.returned (.int .u8 1)∧w=w':=by
 go_enter Tryz.func35,Tryz.ntmps35
 go_wp2_with fail
 go_ret;exact⟨rfl,rfl⟩
theorem uW (w:World):Calls Tryz.prog 35 #[.int .u8 73] w fun e w'=>e=.returned (.int .u8 2)∧w=w':=by
 go_enter Tryz.func35,Tryz.ntmps35
 go_wp2_with fail
 go_ret;exact⟨rfl,rfl⟩
theorem zt (w:World):Calls Tryz.prog 35 #[.int .u8 82] w fun e w'=>e=.returned (.int .u8 0)∧w=w':=by
 go_enter Tryz.func35,Tryz.ntmps35
 go_wp2_with fail
 go_ret;exact⟨rfl,rfl⟩
def atL (ln:Int)(D:List Dg):List Dg:=D.map (fun x=>(x.1,ln,x.2.2))
theorem N8 (ln:Int)(l:List (Int×Int)):atL ln (bI l)=bJ ln l:=by
 unfold atL bI bJ;rw[List.map_map];rfl
theorem sS (ln:Int)(D:List Dg):(atL ln D).length=D.length:=by unfold atL;simp
def atJ (ln:Int)(D:List Dg)(j:Nat):List Dg:=atL ln (D.take j)++D.drop j
theorem N9 (ln:Int)(D:List Dg)(j:Nat):(atJ ln D j).length=D.length:=by unfold atJ;rw[QE,sS,QN,QM];omega
theorem LY (ln:Int){D:List Dg}{j:Nat}{d:Dg}(h:D[j]? =some d):(atJ ln D j)[j]? =some d:=by
 have hj:=(Qu.1 h).1;unfold atJ;rw[QS (by rw[sS,QN];omega),sS,QN,Tc (by omega),Ry]
 simpa using h
theorem LX (ln:Int){D:List Dg}{j:Nat}{d:Dg}(h:D[j]? =some d):(atJ ln D j).set j (d.1,ln,d.2.2)=atJ ln D (j+1):=by
 have hj:=(Qu.1 h).1;have hl:(atL ln (D.take j)).length=j:=by rw[sS,QN];omega
 have hd:D.drop j=d::D.drop (j+1):=by
  rw[Rl hj]
  congr 1
  exact(Qu.1 h).2
 unfold atJ;rw[SY _ _ (by omega),hl,SH,hd,dP h];unfold atL;simp
theorem sK (ln:Int){base:Nat}{v:Value}{D:List Dg}(w:World)(h:bK base w v D)(hl:D.length≤1000000):
  Calls Tryz.prog 37 #[.int .i64 ln,v] w fun e w'=>e=.returned v∧bK base w' v (atL ln D)∧Exc (fun k=>v.ownBlock=some k) w w':=by
 obtain⟨a0,c0,rfl⟩:=(ag.sl ax h).len;have H0:=zH h;clear h;go_enter Tryz.func37,Tryz.ntmps37
 go_wp2_with fail
 go_loopw [5,8] (fun _ i wr=> ∃j:Nat,j≤D.length∧i=.int .i64 (j:Int)∧Hid (bK base wr (.slice a0 D.length c0) (atJ ln D j))∧Hid (Exc (fun k=>(Value.slice a0 D.length c0).ownBlock=some k) w wr)) (fun _ i _=>D.length-(intOf i).toNat)
 case atStart=>exact⟨0,QR _,rfl,zH (by unfold atJ atL;simpa using H0.out),zH (Exc.refl _ _)⟩
 case round=>
  obtain⟨j,hj,rfl,HS,HE⟩:=hrel
  by_cases hlt:j<D.length
  ·obtain⟨d,hd⟩:∃d,D[j]? =some d:=⟨D[j],Qw hlt⟩
   have hlt':(j:Int)<(D.length:Int):=by omega
   have hj0:(0:Int)≤(j:Int):=by omega
   obtain⟨g,rfl,-,-⟩:=HS.out.addr (by rw[N9];omega);have hsa:=HS.out.slotA ax (LY ln hd) (i:=1) rfl;have c1:=hsa.1;have f1:=hsa.2;have HN:=zH (ag.set1 ax HS.out (LY ln hd) (s':=(d.1,ln,d.2.2)) (i:=1) (u:= .int .i64 ln) (by omega) rfl);rw[LX ln hd]at HN;have HX:=zH (HE.out.set (j*3+1) (.int .i64 ln) (g:=g) (fun _=>rfl));clear hsa hd HS HE H0;go_wp2_with fail
   go_roundw
   case rel=>exact⟨j+1,by omega,by go_num,HN,HX⟩
   case measure=>(simp[intOf];try omega)
  ·obtain rfl:j=D.length:=by omega
   have hlt':¬(D.length:Int)<(D.length:Int):=by omega
   have e:atJ ln D D.length=atL ln D:=by unfold atJ;simp
   rw[e]at HS;go_wp2_with fail
   go_ret;exact⟨rfl,HS.out,HE.out⟩
theorem KD (a b:List Gly):(jn a b).length≤a.length+b.length+1:=by
 unfold jn
 split
 ·omega
 ·split
  ·omega
  ·simp only[QE,Rz];omega
theorem lK (c:UInt8):∀s:Txt,lnT (aZ c s)=s.length+1
 | []=>rfl
 | x::r=>by
  have ih:=lK c r;unfold aZ
  split
  ·rw[aP,ih]
   simp only[QH,QC];omega
  ·cases e:aZ c r with
   | nil=>exact absurd e (zW c r)
   | cons a b=>
    rw[e,aP]at ih;simp only[aP,QC];omega
theorem vz (l:List Txt):lnT l.tail≤lnT l:=by
 cases l with
 | nil=>exact Qv _
 | cons b l=>rw[aP];show lnT l≤_;omega
theorem fT (a b:List (List Gly)):lens (a++b)=lens a+lens b:=by simp[lens]
theorem iq (g:List Gly):lens [g]=g.length:=by simp[lens]
section
variable {lg:Lgf}(hg:∀s,(lg s).1.length≤s.length)
include hg
theorem oz:∀(l:List Txt) (ln:Int) (acc:List Gly) (d:List Dgn),(di lg l ln acc d).1.length+lnT (di lg l ln acc d).2.2.2≤acc.length+lnT l
 | [],ln,acc,d=>by simp[di]
 | s::r,ln,acc,d=>by
  unfold di
  split
  ·exact Qv _
  ·have ih:=oz r (ln+1) (jn acc (lg s).1) (d++bJ ln (lg s).2)
   have h1:=KD acc (lg s).1;have h2:=hg s;rw[aP];omega
omit hg in
def cSz (ps rest:List Txt)(cs:List (List Gly))(q:sw):Prop:=q.1.length+lens q.1+lnT q.2.2.2≤cs.length+lens cs+lnT ps+lnT rest
theorem mP {K:List Txt→List Txt→Int→List (List Gly)→List Dgn→sw}(hK:∀ps rest ln cs d,cSz ps rest cs (K ps rest ln cs d)):∀(ps rest:List Txt) (ln:Int) (cs:List (List Gly)) (d:List Dgn),cSz ps rest cs (dL lg K ps rest ln cs d)
 | [],rest,ln,cs,d=>by unfold cSz dL;simp[lnT]
 | p::ps,rest,ln,cs,d=>by
  unfold dL
  split
  ·have ht:=oz hg rest (ln+1) [] d
   generalize di lg rest (ln+1) [] d=q at ht;obtain⟨g,d2,ln2,r2⟩:=q
   cases r2 with
   | nil=>
    simp only[QH]at ht;unfold cSz;simp only[QE,Rz,fT,iq,aP];omega
   | cons s r=>
    have h1:=hK (aZ 9 s).tail r ln2 (cs++ [g]) d2;have h2:=vz (aZ 9 s);rw[lK]at h2;unfold cSz at h1⊢;simp only[QE,Rz,fT,iq,aP,QH]at h1 ht⊢;omega
  ·have h1:=mP hK ps rest ln (cs++ [(lg p).1]) (d++bJ ln (lg p).2)
   have h2:=hg p;unfold cSz at h1⊢;simp only[QE,Rz,fT,iq,aP]at h1⊢;omega
theorem rR:∀(n:Nat) (ps rest:List Txt) (ln:Int) (cs:List (List Gly)) (d:List Dgn),cSz ps rest cs (dh lg n ps rest ln cs d)
 | 0,ps,rest,ln,cs,d=>mP hg (fun ps rest ln cs d=>by unfold cSz;simp only;omega) ps rest ln cs d
 | n+1,ps,rest,ln,cs,d=>mP hg (rR n) ps rest ln cs d
theorem GQ (nc:Nat)(s:Txt)(rest:List Txt)(ln:Int):trl (rowP lg nc s rest ln).1+lnT (rowP lg nc s rest ln).2.2.2≤1+lnT (s::rest):=by
 unfold rowP
 split
 ·rw[aP]
  unfold trl;simp[lens]
 ·have h:=rR hg (rest.length+1) (aZ 9 s) rest ln [] []
  unfold cSz at h;rw[lK]at h;simp only[QH,lens,Ru,Tw]at h;rw[aP];unfold trl lens;simp only;omega
theorem oC (nc:Nat):∀(n:Nat) (l:List Txt) (ln:Int) (rs:List bV) (d:List Dgn),bM (fP lg nc n l ln rs d).1≤bM rs+n+lnT l
 | 0,l,ln,rs,d=>by simp[fP]
 | n+1,[],ln,rs,d=>by simp[fP];omega
 | n+1,s::r,ln,rs,d=>by
  have h1:=GQ hg nc s r ln;unfold fP;simp only;have ih:=oC nc n (rowP lg nc s r ln).2.2.2 ((rowP lg nc s r ln).2.2.1+1) (rs++ [(rowP lg nc s r ln).1]) (d++(rowP lg nc s r ln).2.1);have h4:bM (rs++ [(rowP lg nc s r ln).1])=bM rs+trl (rowP lg nc s r ln).1:=by simp[bM]
  omega
omit hg in
theorem BK (line:Int)(l:List Txt):lnT (dz line l).2.2.2.1≤lnT l:=by
 unfold dz
 cases l with
 | nil=>exact Qv _
 | cons s r=>
  simp only
  split
  ·rw[aP];simp only;omega
  ·exact Qv _
omit hg in
theorem vS:∀(l:List Txt) (ln:Int) (cols:Txt) (d:List Dgn),lnT (eH l ln cols d).2.2.2.1≤lnT l
 | [],ln,cols,d=>by simp[eH]
 | s::r,ln,cols,d=>by
  unfold eH;simp only;rw[aP]
  split
  ·simp only;omega
  ·have:=vS r (ln+1) (if(aU s).1=[] then cols else(aU s).1.take 20) (d++(if(aU s).2 then [] else [(10,ln,0)])++(if 20<(aU s).1.length then [(11,ln,0)] else []))
   omega
omit hg in
theorem lD:∀(n:Nat) (l:List (List Gly)),lens (eF n l)≤lens l
 | 0,l=>by simp[eF,lens]
 | n+1,[]=>by have:=lD n [];simp[eF,lens]at this⊢;exact this
 | n+1,c::l=>by
  have:=lD n l;have:=sF c;simp only[eF,lens,Q5,Sb]at*;omega
omit hg in
theorem rA (n:Nat):∀l:List bV,bM (l.map (gL n))≤n*l.length+bM l
 | []=>by simp[bM]
 | r::l=>by
  have h1:=rA n l;have h2:trl (gL n r)≤n+trl r:=by
   obtain⟨b,l⟩:=r;have:=lD n l;have:=lw n l;unfold trl gL
   cases b
   ·simp only[QX,Sa]
    omega
   ·simp[lens]
    omega
  simp only[bM,Q5,Sb,QC,Nat.mul_add,SS]at*;omega
end
theorem kG (ln:Int)(l:List (Int×Int)):(bJ ln l).length=l.length:=by simp[bJ]
section
variable {lg:Lgf}(hg:∀s,(lg s).2.length≤s.length)
include hg
theorem ow:∀(l:List Txt) (ln:Int) (acc:List Gly) (d:List Dgn),(di lg l ln acc d).2.1.length+lnT (di lg l ln acc d).2.2.2≤d.length+lnT l
 | [],ln,acc,d=>by simp[di]
 | s::r,ln,acc,d=>by
  unfold di
  split
  ·exact Qv _
  ·have ih:=ow r (ln+1) (jn acc (lg s).1) (d++bJ ln (lg s).2)
   have h2:=hg s;rw[QE,kG]at ih;rw[aP];omega
omit hg in
def cTd (ps rest:List Txt)(d:List Dgn)(q:sw):Prop:=q.2.1.length+lnT q.2.2.2≤d.length+lnT ps+lnT rest
theorem mO {K:List Txt→List Txt→Int→List (List Gly)→List Dgn→sw}(hK:∀ps rest ln cs d,cTd ps rest d (K ps rest ln cs d)):∀(ps rest:List Txt) (ln:Int) (cs:List (List Gly)) (d:List Dgn),cTd ps rest d (dL lg K ps rest ln cs d)
 | [],rest,ln,cs,d=>by unfold cTd dL;simp[lnT]
 | p::ps,rest,ln,cs,d=>by
  unfold dL
  split
  ·have ht:=ow hg rest (ln+1) [] d
   generalize di lg rest (ln+1) [] d=q at ht;obtain⟨g,d2,ln2,r2⟩:=q
   cases r2 with
   | nil=>
    simp only at ht;unfold cTd;simp only[QE,Rz,aP];omega
   | cons s r=>
    have h1:=hK (aZ 9 s).tail r ln2 (cs++ [g]) d2;have h2:=vz (aZ 9 s);rw[lK]at h2;unfold cTd at h1⊢;simp only[aP]at h1 ht⊢;omega
  ·have h1:=mO hK ps rest ln (cs++ [(lg p).1]) (d++bJ ln (lg p).2)
   have h2:=hg p;unfold cTd at h1⊢;simp only[QE,kG,aP]at h1⊢;omega
theorem rQ:∀(n:Nat) (ps rest:List Txt) (ln:Int) (cs:List (List Gly)) (d:List Dgn),cTd ps rest d (dh lg n ps rest ln cs d)
 | 0,ps,rest,ln,cs,d=>mO hg (fun ps rest ln cs d=>by unfold cTd;simp only;omega) ps rest ln cs d
 | n+1,ps,rest,ln,cs,d=>mO hg (rQ n) ps rest ln cs d
theorem GN (nc:Nat)(s:Txt)(rest:List Txt)(ln:Int):(rowP lg nc s rest ln).2.1.length+lnT (rowP lg nc s rest ln).2.2.2≤1+lnT (s::rest):=by
 unfold rowP
 split
 ·rw[aP]
  simp only[QH];omega
 ·have h:=rQ hg (rest.length+1) (aZ 9 s) rest ln [] []
  unfold cTd at h;rw[lK]at h;simp only[QH]at h;rw[aP];simp only[QE]
  split
  ·simp only[Rz];omega
  ·simp only[QH];omega
theorem uz (nc:Nat):∀(n:Nat) (l:List Txt) (ln:Int) (rs:List bV) (d:List Dgn),(fP lg nc n l ln rs d).2.length≤d.length+n+lnT l
 | 0,l,ln,rs,d=>by simp[fP]
 | n+1,[],ln,rs,d=>by simp[fP];omega
 | n+1,s::r,ln,rs,d=>by
  have h1:=GN hg nc s r ln;unfold fP;simp only;have ih:=uz nc n (rowP lg nc s r ln).2.2.2 ((rowP lg nc s r ln).2.2.1+1) (rs++ [(rowP lg nc s r ln).1]) (d++(rowP lg nc s r ln).2.1);rw[QE]at ih;omega
omit hg in
theorem xX:∀(l:List Txt) (ln:Int) (cols:Txt) (d:List Dgn),(eH l ln cols d).2.2.1.length≤d.length+2*l.length
 | [],ln,cols,d=>by simp[eH]
 | s::r,ln,cols,d=>by
  have h1:(d++(if(aU s).2 then [] else [(10,ln,0)])++(if 20<(aU s).1.length then [(11,ln,0)] else []):List Dgn).length≤d.length+2:=by
   simp only[QE]
   split<;>split<;>simp
  unfold eH;simp only[QC]
  split
  ·simp only;omega
  ·have:=xX r (ln+1) (if(aU s).1=[] then cols else(aU s).1.take 20) (d++(if(aU s).2 then [] else [(10,ln,0)])++(if 20<(aU s).1.length then [(11,ln,0)] else []))
   omega
omit hg in
theorem Im (line:Int)(l:List Txt):(dz line l).2.2.1.length≤1:=by
 unfold dz
 cases l with
 | nil=>simp
 | cons s r=>
  simp only
  split
  ·simp only;split<;>simp
  ·simp
theorem Dx (line:Int)(l:List Txt):(iF lg line l).2.length≤2+4*lnT l:=by
 have h0:=Im line l;have h1:=BK line l;have h2:=vS (dz line l).2.2.2.1 (dz line l).2.2.2.2 [] (dz line l).2.2.1;have h3:=iL (eH (dz line l).2.2.2.1 (dz line l).2.2.2.2 [] (dz line l).2.2.1).2.2.2.1;have h4:=xX (dz line l).2.2.2.1 (dz line l).2.2.2.2 [] (dz line l).2.2.1;have h5:=iL (dz line l).2.2.2.1;unfold iF;simp only;generalize (eH (dz line l).2.2.2.1 (dz line l).2.2.2.2 [] (dz line l).2.2.1)=b at h2 h3 h4;generalize (if b.1=[] then [108] else b.1:Txt)=cols;have h6:(b.2.2.1++(if b.2.1 then [] else [(7,line,0)]):List Dgn).length≤b.2.2.1.length+1:=by
  rw[QE]
  split<;>simp
 generalize (b.2.2.1++(if b.2.1 then [] else [(7,line,0)]):List Dgn)=d at h6;have h7:=uz hg cols.length b.2.2.2.1.length b.2.2.2.1 b.2.2.2.2 [] d;omega
end
section
def jns:List (List Gly)→List Gly
 | []=>[]
 | a::r=>jn a (jns r)
theorem zJ:∀a b:List (List Gly),jns (a++b)=jn (jns a) (jns b)
 | [],b=>rfl
 | x::a,b=>by
  show jn x (jns (a++b))=jn (jn x (jns a)) (jns b);rw[zJ a b,KE]
theorem KC (a:List (List Gly))(x:List Gly):jns (a++ [x])=jn (jns a) x:=by
 rw[zJ];show jn (jns a) (jn x [])=_;rw[lF]
theorem zI:∀l:List (List Gly),(jns l).length≤lens l+l.length
 | []=>Qv _
 | x::l=>by
  have h1:=KD x (jns l);have h2:=zI l;have h3:=fT [x] l;rw[iq]at h3;show(jn x (jns l)).length≤lens ([x]++l)+(l.length+1);omega
def ru (S:Nat→Prop)(W:World)(v:Value)(l:List (List Gly)):Prop:= ∃L:List PV,L.length=l.length∧Fs 1 aK W v L∧ ∀(i:Nat) s r,L[i]? =some s→l[i]? =some r→FsS S 2 aQ W (pv s) r
theorem ru.keep {S:Nat→Prop}{W W':World}{v:Value}{l:List (List Gly)}(h:ru S W v l)(hS:∀b,S b→b<W.heap.size)(hb:zB W W'):ru S W' v l:=by
 obtain⟨L,h1,h2,h3⟩:=h;exact⟨L,h1,h2.below hb,fun i s r a b=>(h3 i s r a b).keep (Kp.below hb hS)⟩
theorem ru.len {S:Nat→Prop}{W:World}{v:Value}{l:List (List Gly)}(h:ru S W v l):∃a cap,v=.slice a l.length cap:=by
 obtain⟨L,h1,h2,-⟩:=h;obtain⟨a,cap,e⟩:=h2.len;exact⟨a,cap,h1▸e⟩
noncomputable def FT (x hi:Value):Sem Value:=Instr.slice 53 x none (some hi) none
theorem wJ (x hi:Value):Instr.slice 53 x none (some hi) none=FT x hi:=rfl
noncomputable def LU (x lo:Value):Sem Value:=Instr.slice 53 x (some lo) none none
theorem yR (x lo:Value):Instr.slice 53 x (some lo) none none=LU x lo:=rfl
theorem ru.front {S:Nat→Prop}{W:World}{v:Value}{l:List (List Gly)}(h:ru S W v l)(k:Nat)(hk:k≤l.length):∃u,(∀W':World,(FT v (.int .i64 (k:Int))).run Tryz.prog W'=.ok u W')∧ru S W u (l.take k):=by
 obtain⟨i0,hi,hz0,hz1,hz2⟩:=Rj mG;obtain⟨L,h1,h2,h3⟩:=h;obtain⟨u,hr,hu,-⟩:=Fs.front (P:=Tryz.prog) Tryz.underlying53 hi h2 k (by omega);refine⟨u,hr,L.take k,by simp[h1],hu,fun i s r a b=>?_⟩;rw[List.getElem?_take]at a b
 split at a
 ·rename_i hq
  rw[QP hq]at b;exact h3 i s r a b
 ·cases a
theorem ru.back {S:Nat→Prop}{W:World}{v:Value}{l:List (List Gly)}(h:ru S W v l)(k:Nat)(hk:k≤l.length):∃u,(∀W':World,(LU v (.int .i64 (k:Int))).run Tryz.prog W'=.ok u W')∧ru S W u (l.drop k):=by
 obtain⟨i0,hi,hz0,hz1,hz2⟩:=Rj mG;obtain⟨L,h1,h2,h3⟩:=h;obtain⟨u,hr,hu⟩:=Fs.back (P:=Tryz.prog) Tryz.underlying53 hi hz1 h2 k (by omega);refine⟨u,hr,L.drop k,by simp[h1],hu,fun i s r a b=>?_⟩;rw[Ry]at a b;exact h3 _ s r a b
def JR (S:Nat→Prop)(base:Nat)(W:World)(v:Value)(g:List Gly):Prop:=FsS (fun b=>S b∨(base≤b∧ ∃cur fz,W.heap[b]? =some (.cells cur 35 fz))) 2 aQ W v g
theorem JR.keep {S:Nat→Prop}{base:Nat}{W W':World}{v:Value}{g:List Gly}(h:JR S base W v g)(hS:∀b,S b→b<W.heap.size)(hb:zB W W'):JR S base W' v g:=by
 refine FsS.mono (FsS.keep h (fun b q=>hb.block b ?_)) (fun b q=>?_)
 ·rcases q with q | ⟨-,cur,fz,q⟩
  ·exact hS b q
  ·exact(Qx.1 q).1
 ·rcases q with q | ⟨q0,cur,fz,q⟩
  ·exact .inl q
  ·exact .inr ⟨q0,cur,fz,(hb.block b (Qx.1 q).1).trans q⟩
theorem JR.own {S:Nat→Prop}{base base':Nat}{W:World}{v:Value}{g:List Gly}(h:bu base' W v g)(hb:base≤base'):JR S base W v g:=
 (ja ah (h.mono hb)).mono (fun b q=> .inr q)
attribute [local go_sem ↓ high] wJ yR
def JoQ (S:Nat→Prop)(base:Nat)(V:World)(g:List Gly)(e:Ending)(V':World):Prop:= ∃x,e=.returned x∧JR S base V' x g∧zB V V'
theorem Ef (S:Nat→Prop)(base:Nat):∀(n:Nat) (l:List (List Gly)) (v:Value) (W:World),l.length=n→ru S W v l→(∀b,S b→b<W.heap.size)→base≤W.heap.size→lens l+l.length≤90000→
  Calls Tryz.prog 198 #[v] W (JoQ S base W (jns l)):=by
 intro n
 induction n using Nat.strongRecOn with
 | _ n ih=>
 intro l v W hn hv hS hbase hl;obtain⟨a,c,rfl⟩:=hv.len;rcases l with _ | ⟨x,_ | ⟨y,r⟩⟩
 ·clear ih hv hl hn
  simp only[QH];go_enter Tryz.func198,Tryz.ntmps198
  go_wp2_with fail
  go_ret;exact⟨_,rfl,FsS.nil _ _ _ _,QA _ _⟩
 ·obtain⟨L,h1,h2,h3⟩:=hv
  obtain⟨s,hs⟩:∃s,L[0]? =some s:=⟨L[0]'(by simp at h1;omega),Qw _⟩;obtain⟨a',cap',hv',-,hr⟩:=h2;injection hv' with e1 e2 e3
  subst e1;obtain⟨g,off,rfl,hc⟩:=hr 0 s hs;have c0:W.cell? ⟨g,off,none⟩=some (pv s):=by
   have:=hc 0 _ rfl
   simpa using this
  have hj:=h3 0 s x hs rfl;obtain⟨s1,s2,s3⟩:=s;simp only[pv]at c0 hj;have hjn:jns [x]=x:=lF x;rw[hjn];have HJ:=zH hj;clear ih h1 h3 hs hr hc hl hn hj hjn;simp only[QC,QH];go_enter Tryz.func198,Tryz.ntmps198
  go_wp2_with fail
  go_ret;exact⟨_,rfl,FsS.mono HJ.out (fun b q=> .inl q),QA _ _⟩
 ·obtain⟨l,hle⟩:∃l,x::y::r=l:=⟨_,rfl⟩
  have hl2:2≤l.length:=by rw[←hle];simp
  rw[hle]at hn hl hv⊢;obtain⟨q,hq⟩:∃q,l.length / 2=q:=⟨_,rfl⟩;obtain⟨uf,hrf,hf⟩:=hv.front q (by omega);obtain⟨ub,hrb,hb⟩:=hv.back q (by omega);have hspl:l.take q++l.drop q=l:=Rs q l;have hls:=fT (l.take q) (l.drop q);rw[hspl]at hls;have hjs:jns l=jn (jns (l.take q)) (jns (l.drop q)):=by rw[←zJ,hspl]
  have hlf:(l.take q).length=q:=by rw[QN];omega
  have hlb:(l.drop q).length=l.length-q:=by rw[QM]
  have n1:=zI (l.take q);have n2:=zI (l.drop q);have IF:Hid (∀V,zB W V→Calls Tryz.prog 198 #[uf] V (JoQ S base V (jns (l.take q)))):=zH fun V hV=>ih q (by omega) _ _ V hlf (hf.keep hS hV) (fun b h=>QB (hS b h) hV.size) (QO hbase hV.size) (by omega)
  have IB:Hid (∀V,zB W V→Calls Tryz.prog 198 #[ub] V (JoQ S base V (jns (l.drop q)))):=zH fun V hV=>ih (l.length-q) (by omega) _ _ V hlb (hb.keep hS hV) (fun b h=>QB (hS b h) hV.size) (QO hbase hV.size) (by omega)
  rw[hjs];obtain⟨gf,hgf⟩:∃gf,jns (l.take q)=gf:=⟨_,rfl⟩;obtain⟨gb,hgb⟩:∃gb,jns (l.drop q)=gb:=⟨_,rfl⟩;rw[hgf]at IF n1⊢;rw[hgb]at IB n2⊢;have HJ:Hid (∀V x y,JR S base V x gf→JR S base V y gb→Calls Tryz.prog 127 #[x,y] V fun e w'=> ∃z,e=.returned z∧bu V.heap.size w' z (jn gf gb)∧zB V w'):=zH fun V x y hx hy=>qG gf gb x y V hx.1 hy.1 (by omega)
  have HS:=zH hS;have H0:=zH (QA W.heap.size W).drew;have hd:((l.length:Int)).tdiv 2=(q:Int):=by rw[←hq];rfl
  have hnq:(l.length:Int)≠0:=by omega
  obtain⟨m,hm⟩:∃m,(l.length:Int)=m:=⟨_,rfl⟩;have k0:(m==0)=false:=by simp;omega
  have k1:(m==1)=false:=by simp;omega
  have hw1:IntKind.i64.wrap (q:Int)=(q:Int):=eu (by omega) (by omega);rw[hm]at hd;have HQ:=zH hrf;have hsl:∀cap,Value.slice a l.length cap=.slice a l.length cap:=fun _=>rfl
  clear ih hv hf hb hspl hls hjs hlf hlb n1 n2 hgf hgb hle hl hn hS hnq hl2 HQ hsl hq;go_enter Tryz.func198,Tryz.ntmps198
  go_wp2_with fail
  first | (go_region_with (first
   | (go_at_call 198;(with_reducible refine(IF.out _ H0.out).mono ?_);rintro e w1 ⟨xf,rfl,f1,b1⟩;have F1:=zH f1;have B1:=zH b1;have HX1:=zH (H0.out.trans (b1.mono H0.out.size));clear f1 b1)
   | (go_at_call 198;(with_reducible refine(IB.out _ H0.out).mono ?_);rintro e w1 ⟨xb,rfl,f1,b1⟩;have F1:=zH f1;have B1:=zH b1;have HX1:=zH (H0.out.trans (b1.mono H0.out.size));clear f1 b1)
   | (go_at_call 198;(with_reducible refine(IF.out _ HX1.out).mono ?_);rintro e w2 ⟨xf,rfl,f2,b2⟩;have F2:=zH f2;have B2:=zH b2;clear f2 b2;have FF:=zH F2.out;have FB:=zH (F1.out.keep (fun b h=>QB (HS.out b h) HX1.out.size) B2.out);have HX2:=zH (HX1.out.trans (B2.out.mono HX1.out.size)))
   | (go_at_call 198;(with_reducible refine(IB.out _ HX1.out).mono ?_);rintro e w2 ⟨xb,rfl,f2,b2⟩;have F2:=zH f2;have B2:=zH b2;clear f2 b2;have FB:=zH F2.out;have FF:=zH (F1.out.keep (fun b h=>QB (HS.out b h) HX1.out.size) B2.out);have HX2:=zH (HX1.out.trans (B2.out.mono HX1.out.size)))
   | (go_at_call 127;(with_reducible refine(HJ.out _ _ _ FF.out FB.out).mono ?_);rintro e w3 ⟨xz,rfl,f3,b3⟩;have F3:=zH f3;have HX3:=zH (HX2.out.trans (b3.mono HX2.out.size));clear f3 b3)))| skip
  all_goals
   have hz:=HX2.out.size;have hw2:base≤w2.heap.size:=QO hbase hz;go_wp2_with fail
   go_ret;exact⟨_,rfl,JR.own F3.out hw2,HX3.out⟩
end
end Go.Proofs.YtebabjnngdjceaaGreatDoor

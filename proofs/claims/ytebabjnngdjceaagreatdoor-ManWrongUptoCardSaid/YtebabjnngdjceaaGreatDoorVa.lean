/- Rows of texts that came  -/
import Derived.Test.YtebabjnngdjceaaGreatDoorRD
import Derived.Test.YtebabjnngdjceaaGreatDoorQc
set_option linter.unusedVariables false
set_option linter.unusedSimpArgs false
set_option maxRecDepth 100000
set_option maxHeartbeats 4000000
namespace Go.Proofs.YtebabjnngdjceaaGreatDoor
open Go.RowKit
section
open Go.ChangeShapes Go.WideShapes Go.ChangeAt Go.RowKit
def lnT (l:List (List UInt8)):Nat:=(l.map (fun b=>b.length+1)).sum
theorem aQ (b:List UInt8)(l:List (List UInt8)):lnT (b::l)=b.length+1+lnT l:=by simp[lnT]
theorem EX (l m:List (List UInt8)):lnT (l++m)=lnT l+lnT m:=by simp[lnT]
theorem iJ:∀l:List (List UInt8),l.length≤lnT l
 | []=>P6 _
 | b::l=>by have:=iJ l;rw[aQ,PI];omega
theorem yP {l:List (List UInt8)}{b:List UInt8}(h:b∈l):b.length+1≤lnT l:=by
 induction l with
 | nil=>simp at h
 | cons x l ih=>
  rw[aQ];rcases Qn.1 h with rfl | h
  ·omega
  ·have:=ih h;omega
theorem Be (l:List (List UInt8))(j:Nat):lnT (l.take j)≤lnT l:=by
 have:=EX (l.take j) (l.drop j);rw[QK]at this;omega
section
variable {H:Type}{enc:TypeId×Value→H}{w:World}{held:Bool}
end
end
def bv (l:List (Int×Int)):List Dg:=l.map (fun q=>(q.1,0,q.2))
theorem tN:∀(n p:Nat) (s:List Int),∀d∈(gN n p s).2,d.2.1=0
 | 0,p,s,d,h=>by simp[gN]at h
 | n+1,p,s,d,h=>by
  unfold gN at h
  split at h
  ·simp at h
  ·simp only[QR]at h
   rcases h with h | h
   ·unfold dgs at h
    obtain⟨k,hk,rfl⟩:=Rm.1 h;rfl
   ·exact tN n _ _ d h
theorem yQ (f:Int)(s:Txt):(bR 0 (dec s)).2=bv (lgS f s).2:=by
 unfold lgS bv;simp only[List.map_map];have h:∀l:List Dg,(∀d∈l,d.2.1=0)→l=l.map ((fun q:Int×Int=>((q.1,0,q.2):Dg))∘ fun d:Dg=>(d.1,d.2.2)):=fun l=>by
  induction l with
  | nil=>intro _;rfl
  | cons x l ih=>
   intro hl;rw[Qo,←ih (fun d hd=>hl d (QM _ hd))];have:=hl x QQ;obtain⟨a,b,c⟩:=x;simp only at this;subst this;rfl
 exact h _ (fun d hd=>tN _ _ _ d hd)
theorem mY (f:Int)(s:Txt):(lgS f s).1.length≤s.length∧(lgS f s).2.length≤s.length:=by
 have h1:=tL (dec s);have h2:=vv s;have h3:=uV (f,f) (bR 0 (dec s)).1;unfold lgS;simp only[Qy];omega
def sI (f:Int)(q:List Gly×List (Int×Int))(s:Txt):List Gly×List (Int×Int):=(jn q.1 (lgS f s).1,q.2++(lgS f s).2)
def jD (a b:Int)(i:Nat):Int:=if i % 2=0 then a else b
def dI (f:Int)(l:List Txt):List Gly×List (Int×Int):=l.foldl (sI f) ([],[])
theorem jr (f:Int)(l:List Txt):dE f l=dI f l:=rfl
theorem Ce {f:Int}{l:List Txt}{j:Nat}{s:Txt}(h:l[j]? =some s):dI f (l.take (j+1))=(jn (dI f (l.take j)).1 (lgS f s).1,(dI f (l.take j)).2++(lgS f s).2):=by
 unfold dI;rw[dQ h,Rv];rfl
def bJ (a b:Int):Nat→List Txt→List Gly×List (Int×Int)
 | _,[]=>([],[])
 | i,s::l=>((lgS (jD a b i) s).1++(bJ a b (i+1) l).1,(lgS (jD a b i) s).2++(bJ a b (i+1) l).2)
theorem oK:∀(l:List Txt) (a b:Int) (i:Nat),(i % 2=0→rG a b l=bJ a b i l)∧(i % 2=1→rG b a l=bJ a b i l)
 | [],a,b,i=>⟨fun _=>rfl,fun _=>rfl⟩
 | s::l,a,b,i=>by
  refine⟨fun h=>?_,fun h=>?_⟩
  ·have:=(oK l a b (i+1)).2 (by omega)
   unfold rG bJ;rw[this];unfold jD;rw[PZ h]
  ·have:=(oK l a b (i+1)).1 (by omega)
   unfold rG bJ;rw[this];unfold jD;rw[PO (by omega)]
theorem wK (a b:Int):∀(l m:List Txt) (i:Nat),bJ a b i (l++m)=((bJ a b i l).1++(bJ a b (i+l.length) m).1,(bJ a b i l).2++(bJ a b (i+l.length) m).2)
 | [],m,i=>by simp[bJ]
 | s::l,m,i=>by
  have:=wK a b l m (i+1);have e:i+(s::l).length=i+1+l.length:=by simp;omega
  rw[e];simp only[Qe,bJ,this,Qx]
theorem Co {a b:Int}{l:List Txt}{j:Nat}{s:Txt}(h:l[j]? =some s):bJ a b 0 (l.take (j+1))=((bJ a b 0 (l.take j)).1++(lgS (jD a b j) s).1,(bJ a b 0 (l.take j)).2++(lgS (jD a b j) s).2):=by
 have hj:=(Pw.1 h).1;rw[dQ h,wK];have e:0+(l.take j).length=j:=by rw[PW];omega
 rw[e];simp[bJ]
theorem FH (f:Int)(q:List Gly×List (Int×Int))(s:Txt):(sI f q s).1.length≤q.1.length+s.length+1∧(sI f q s).2.length≤q.2.length+s.length:=by
 have h:=mY f s;have h2:=NY q.1 (lgS f s).1;unfold sI;simp only[PL]
 split at h2<;>omega
theorem eZ (f:Int):∀(l:List Txt) (q:List Gly×List (Int×Int)),(l.foldl (sI f) q).1.length≤q.1.length+lnT l∧(l.foldl (sI f) q).2.length≤q.2.length+lnT l
 | [],q=>by simp
 | s::l,q=>by
  have h1:=FH f q s;have h2:=eZ f l (sI f q s);rw[aQ];simp only[RF];omega
theorem mQ (a b:Int):∀(l:List Txt) (i:Nat),(bJ a b i l).1.length≤lnT l∧(bJ a b i l).2.length≤lnT l
 | [],i=>by simp[bJ]
 | s::l,i=>by
  have h1:=mY (jD a b i) s;have h2:=mQ a b l (i+1);rw[aQ];unfold bJ;simp only[PL];omega
section
attribute [local go_sem ↓ high] fB bH
theorem MG {base:Nat}{W W':World}{x:Value}{l:List Gly}(h:aW base W x l)(hg:W.grownBy W' x.ownBlock):Exc (fun k=>x.ownBlock=some k) W W':=
 ⟨hg.os,hg.tape,hg.output,hg.size,fun k hk hx=>hg.block k hk (fun e=>hx e.symm)⟩
theorem Cc (i a:Int)(F:Nat)(w:World)(c0:w.cell? ⟨F,0,none⟩=some (.int .u8 a)):
  Calls Tryz.prog 68 #[.int .i64 i,.pointer (some ⟨F,0,none⟩)] w fun e w'=>e=.returned (.int .u8 a)∧w=w':=by
 go_enter Tryz.func68,Tryz.ntmps68
 go_wp2_with fail
 go_ret;exact⟨rfl,rfl⟩
theorem Ck (i:Nat)(a b:Int)(F G:Nat)(w:World)(hi:i≤1000000)(c0:w.cell? ⟨F,0,none⟩=some (.int .u8 a))(c1:w.cell? ⟨G,0,none⟩=some (.int .u8 b)):
  Calls Tryz.prog 71 #[.int .i64 (i:Int),.pointer (some ⟨F,0,none⟩),.pointer (some ⟨G,0,none⟩)] w fun e w'=>e=.returned (.int .u8 (jD a b i))∧w=w':=by
 have ht:Int.tmod (i:Int) 2=((i % 2:Nat):Int):=by rw[Int.tmod_eq_emod_of_nonneg (by omega)];omega
 by_cases he:i % 2=0
 ·rw[he]at ht
  unfold jD;rw[PZ he];go_enter Tryz.func71,Tryz.ntmps71
  go_wp2_with fail
  go_ret;exact⟨rfl,rfl⟩
 ·obtain ho:i % 2=1:=by omega
  rw[ho]at ht;unfold jD;rw[PO he];clear he ho;go_enter Tryz.func71,Tryz.ntmps71
  go_wp2_with fail
  go_ret;exact⟨rfl,rfl⟩
theorem Cj (v:Value)(w:World):
  Calls Tryz.prog 72 #[v] w fun e w'=>e=.returned v∧w=w':=by
 go_enter Tryz.func72,Tryz.ntmps72
 go_wp2_with fail
 go_ret;exact⟨rfl,rfl⟩
theorem Ci {base:Nat}{x:Value}{l:List Gly}(w:World)(h:aW base w x l)(hb:base≤w.heap.size)(hl:l.length≤500000):
  Calls Tryz.prog 72 #[x] w fun e w'=> ∃x',e=.returned x'∧aW base w' x' (l++ [])∧Exc (fun k=>x.ownBlock=some k) w w':=
 (Cj x w).mono fun e w' ⟨h1,h2⟩=>⟨x,h1,by rw[Qc,←h2];exact h,by rw[←h2];exact Exc.refl _ _⟩
theorem Cb {base:Nat}{x:Value}{l:List Gly}(w:World)(h:aW base w x l)(hb:base≤w.heap.size)(hl:l.length≤500000):
  Calls Tryz.prog 69 #[x] w fun e w'=> ∃x',e=.returned x'∧aW base w' x' (l++ [(32,0)])∧Exc (fun k=>x.ownBlock=some k) w w':=by
 have b1:=ae w (.cells (aR (32,0)).toArray 35);obtain⟨x',w2,hr,ho,hg,-⟩:=eX (h.keep b1) (dM ah w 35 [(32,0)]) (by simp;omega) (by simp;omega);have hr':(appG #[x,.slice (some ⟨w.heap.size,0,none⟩) 1 1]).run Tryz.prog (w.alloc (.cells #[.int .i32 32,.int .u8 0] 35))=.ok (.value x') w2:=hr;have HO:=zH ho;have HE:=zH ((Exc.of (X:=fun k=>x.ownBlock=some k) b1).then (MG (h.keep b1) hg));clear hr ho hg h b1;go_enter Tryz.func69,Tryz.ntmps69
 go_wp2_with fail
 go_ret;exact⟨_,rfl,HO.out,HE.out⟩
theorem QTW {P:Prop}(h:P:=by
 have hx0:X.1.length=0:=by rw[hX0];rfl
 rw[hn1,hx0]at k2;obtain⟨sa',sc',rfl⟩:=(ag.sl ah p2).len;have P2:=zH p2;have D5:=zH hd5;have B5:=zH hb5;obtain⟨m5,hm5⟩:∃m,(X.1++G.1).length=m:=⟨_,rfl⟩;rw[hm5]at k2 P2;rw[hn1,hm2,hx0];clear o1 o2 b1 bl s2 d2 B2 p1 g1 s3 x3 B3 HT HLn hQe HQ HD X3 S3' p2 g2 hd5 hb5 hn1 hm5 hX0 hx0 HS S3;go_wp2_with fail
 go_roundw
 case rel=>exact⟨j+1,by omega,by go_num,zH (by rw[hQ1.out];exact P2.out),D5,B5⟩
 case measure=>(simp[intOf];try omega)):P:=h
theorem QTX {P:Prop}(h:P:=by
 have hg0:G.1.length=0:=by rw[hG0];rfl
 obtain⟨n1,hn1⟩:∃n,G.1.length=n:=⟨_,rfl⟩;rw[hn1]at hg0 o1;subst hg0;rw[hn1];clear o1 o2 b1 bl s2 d2 B2 p1 g1 s3 x3 B3 HT HLn hQe HQ HD X3 S3';rw[hm2];go_wp2_with fail
 go_roundw
 case rel=>exact⟨j+1,by omega,by go_num,zH (by rw[hQ1.out];exact S3.out),HP1,BB⟩
 case measure=>(simp[intOf];try omega)):P:=h
theorem QTY {P:Prop}(h:P:=by
 obtain rfl:j=L.length:=by omega
 have hlt':¬(L.length:Int)<(L.length:Int):=by omega
 rw[Qa]at HS HD;obtain⟨sa,sc,rfl⟩:=(ag.sl ah HS.out).len;obtain⟨da,dc,rfl⟩:=(ag.sl ax HD.out).len;go_wp2_with fail
 repeat(change Exit.noGoto _ Exit.ret _ _;rw[QJ])
 go_ret2
 exact⟨_,_,rfl,HS.out,HD.out,HB.out⟩):P:=h
theorem QTZ {P:Prop}(h:P:=by
 rw[hm6,hm7]at k2;rw[hm6];rw[hm7]at P2;clear q1 q2 HF HBT hm6 hm7;go_wp2_with fail
 go_roundw
 case rel=>exact⟨j+1,by omega,by go_num,P2,D5,B5⟩
 case measure=>(simp[intOf];try omega)):P:=h
theorem Kk (f:Int)(F:Nat)(L:List Txt)(v:Value)(w:World)(hv:Ss w v L)(hl:lnT L≤40000)(hL:∀s∈L,s.length≤2000)(c0:w.cell? ⟨F,0,none⟩=some (.int .u8 f)):
  Calls Tryz.prog 70 #[v,.func (.func 68) #[] #[.pointer (some ⟨F,0,none⟩)],.func (.func 69) #[] #[]] w
   fun e w'=> ∃x d,e=.returned (.tuple #[x,d])∧aW w.heap.size w' x (dI f L).1∧bG w.heap.size w' d (bv (dI f L).2)∧Below w.heap.size w w':=by
 obtain⟨a0,ca,rfl⟩:=hv.len;have hn:L.length≤40000:=by have:=iJ L;omega
 have HV:=zH hv;have HLN:=zH hl;have HL:=zH hL;have hF:=PX w _ c0;simp only at hF;have HC:Hid (∀W,Below w.heap.size w W→W.cell? ⟨F,0,none⟩=some (.int .u8 f)):=zH (fun W hb=>(hb.cell (p:=⟨F,0,none⟩) hF).trans c0);clear c0 hF;clear hv hl hL;go_enter Tryz.func70,Tryz.ntmps70
 go_wp2_with fail
 go_step3
 go_wp2_with fail
 go_step3
 go_wp2_with fail
 go_loopw [8,9,18] (fun s d i wr=> ∃j:Nat,j≤L.length∧i=.int .i64 (j:Int)∧Hid (aW w.heap.size wr s (dI f (L.take j)).1)∧Hid (bG w.heap.size wr d (bv (dI f (L.take j)).2))∧Hid (Below w.heap.size w wr)) (fun _ _ i _=>L.length-(intOf i).toNat)
 case atStart=>exact⟨0,P6 _,rfl,zH (ag.nil _ _),zH (ag.nil _ _),zH (PG _ _)⟩
 case round=>
  obtain⟨j,hj,rfl,HS,HD,HB⟩:=hrel
  by_cases hlt:j<L.length
  ·obtain⟨s0,hs0⟩:∃s0,L[j]? =some s0:=⟨L[j],Pz hlt⟩
   have HQ:=zH (Ce (f:=f) hs0);have hlt':(j:Int)<(L.length:Int):=by omega
   have hj0:(0:Int)≤(j:Int):=by omega
   obtain⟨b0,o0,rfl,hc0⟩:=Ss.at (Fs.below HV.out HB.out) hs0;have hs2:s0.length≤2000:=HL.out s0 (Qq hs0);have HT:=zH (Cc (j:Int) f F wr (HC.out wr HB.out));have HLn:=zH (pu (f) (f) s0 wr hs2);unfold Nb at HLn;rw[yQ (f) s0]at HLn;have hlg:(jG (f,f) (bR 0 (dec s0)).1).1=(lgS (f) s0).1:=rfl;rw[hlg]at HLn;obtain⟨fc,hfc⟩:∃fc,(jG (f,f) (bR 0 (dec s0)).1).2=fc:=⟨_,rfl⟩;rw[hfc]at HLn;have hll:=mY (f) s0;obtain⟨G,hG⟩:∃G,lgS (f) s0=G:=⟨_,rfl⟩;rw[hG]at HLn hll HQ;obtain⟨n0,hn0⟩:∃n0,(f)=n0:=⟨_,rfl⟩;rw[hn0]at HLn HT;have hXl:(dI f (L.take j)).1.length≤40000∧(dI f (L.take j)).2.length≤40000:=by
    have h1:=eZ f (L.take j) ([],[]);have h2:=Be L j;have h3:=HLN.out
    try simp only[dI,PQ]at h1⊢
    omega
   obtain⟨X,hX⟩:∃X,dI f (L.take j)=X:=⟨_,rfl⟩;rw[hX]at HS HD HQ hXl;have hdl:∀l,(bv l).length=l.length:=fun l=>by unfold bv;simp
   have hd1:=hdl X.2;have hd2:=hdl G.2;obtain⟨sa,sc,rfl⟩:=(ag.sl ah HS.out).len;obtain⟨da,dc,rfl⟩:=(ag.sl ax HD.out).len;clear hlg hfc hG hn0 hX hs0 hdl;go_wp2_with fail
   refine HT.out.mono ?_;rintro e w9 ⟨rfl,rfl⟩;go_wp2_with fail
   refine HLn.out.mono ?_;rintro e w1 ⟨x,vd,rfl,o1,o2,b1⟩;have bl:=ae w1 (.cells #[.int .u8 fc.1,.int .u8 fc.2] 28);have hz:=b1.size;have hz0:=HB.out.size;have s2:=(HS.out.keep b1).keep bl;have d2:=(HD.out.keep b1).keep bl;have B2:Below w.heap.size w (w1.alloc (.cells #[.int .u8 fc.1,.int .u8 fc.2] 28)):=(HB.out.trans (b1.mono hz0)).trans (bl.mono (by omega));obtain⟨d',w3,k1,p1,g1,-⟩:=gX d2 (ag.sl ax (o2.keep bl)) (by simp;omega) (by omega);have s3:aW w.heap.size w3 _ X.1:=ag.apart s2 g1 (dO s2 d2 (by decide));have x3:aW wr.heap.size w3 x G.1:=ag.apart (o1.keep bl) g1 (dO (o1.keep bl) d2 (by decide));have B3:Below w.heap.size w w3:=d2.below B2 (by simp;omega) g1;have z3:=g1.size;simp only[PS]at z3;obtain⟨xa,xc,rfl⟩:=(ag.sl ah o1).len;obtain⟨va,vc,rfl⟩:=(ag.sl ax o2).len;obtain⟨da',dc',rfl⟩:=(ag.sl ax p1).len;have hQe:(dI f (L.take (j+1)))=(jn X.1 G.1,X.2++G.2):=HQ.out;have HP1:Hid (bG w.heap.size w3 (.slice da' (bv X.2++bv G.2).length dc') (bv (dI f (L.take (j+1))).2)):=zH (by
    rw[hQe];have e:bv (X.2++G.2)=bv X.2++bv G.2:=by unfold bv;simp
    show bG _ _ _ (bv (X.2++G.2));rw[e];exact p1)
   obtain⟨m2,hm2⟩:∃m,(bv G.2).length=m:=⟨_,rfl⟩;obtain⟨m3,hm3⟩:∃m,(bv X.2++bv G.2).length=m:=⟨_,rfl⟩;rw[hm3]at k1 HP1;rw[hd1,hm2]at k1;have HD':=zH HD.out;have S3:=zH s3;have X3:=zH x3;have BB:=zH B3;have S3':=S3;have hb3:=B3.size
   by_cases hG0:G.1=[]
   ·have hQ1:Hid ((dI f (L.take (j+1))).1=X.1):=zH (by
     rw[hQe];show jn X.1 G.1=X.1;rw[hG0];exact kU _)
    exact QTX
   ·have hg0:0<G.1.length:=Qp.2 hG0
    obtain⟨n1,hn1⟩:∃n,G.1.length=n:=⟨_,rfl⟩;rw[hn1]at hg0 o1 hll;have hgn:¬(n1:Int)=0:=by omega
    have HN1:=zH hn1;have hB3s:w.heap.size≤w3.heap.size:=by omega
    by_cases hX0:X.1=[]
    ·obtain⟨s',w5,k2,p2,g2,-⟩:=eX s3 (ag.sl ah x3) hB3s (by omega)
     have hd5:bG w.heap.size w5 (.slice da' m3 dc') (bv (dI f (L.take (j+1))).2):=ag.apart HP1.out g2 (dO HP1.out s3 (by decide));have hb5:Below w.heap.size w w5:=s3.below B3 hB3s g2;have hQ1:Hid ((dI f (L.take (j+1))).1=X.1++G.1):=zH (by
      rw[hQe];show jn X.1 G.1=X.1++G.1;rw[hX0,yX];rfl)
     exact QTW
    ·have hx0:0<X.1.length:=Qp.2 hX0
     have HBT:=zH (Cb w3 S3.out hB3s (by omega));have HF:Hid (∀x' w4,aW w.heap.size w4 x' (X.1++ [(32,0)])→Exc (fun k=>(Value.slice sa X.1.length sc).ownBlock=some k) w3 w4→ ∃s' w5,(appG #[x',.slice xa n1 xc]).run Tryz.prog w4=.ok (.value s') w5∧Hid (aW w.heap.size w5 s' (dI f (L.take (j+1))).1)∧Hid (bG w.heap.size w5 (.slice da' m3 dc') (bv (dI f (L.take (j+1))).2))∧Hid (Below w.heap.size w w5)):=zH (fun x' w4 q1 q2=>by
      have lt3:∀{α:Type} {e n base:Nat} {f:α→List Value} {v:Value} {l:List α},ag e n f base w3 v l→ ∀k,v.ownBlock=some k→k<w3.heap.size:=fun h k e=>by
       obtain⟨-,cur,hc⟩:=h.ty e;exact(Py.1 hc).1
      have x4:aW wr.heap.size w4 (.slice xa G.1.length xc) G.1:=x3.kp (fun k e=>q2.block k (lt3 x3 k e) (fun e2=>by
       have h1:=(x3.ty e).1;obtain⟨-,cur,hc⟩:=HS.out.ty e2;have:=(Py.1 hc).1;omega))
      have d4:bG w.heap.size w4 (.slice da' m3 dc') (bv (dI f (L.take (j+1))).2):=HP1.out.kp (fun k e=>q2.block k (lt3 HP1.out k e) (fun e2=>by
       rcases dO HP1.out s3 (by decide)with z | z
       ·rw[z]at e;cases e
       ·exact z (e.trans e2.symm)))
      have b4:Below w.heap.size w w4:=B3.trans (q2.below hB3s (fun k hk e=>by have:=(s3.ty e).1;omega));obtain⟨s',w5,k2,p2,g2,-⟩:=eX q1 (ag.sl ah x4) b4.size (by simp;omega);rw[hn1]at k2;refine⟨s',w5,k2,zH ?_,zH (ag.apart d4 g2 (dO d4 q1 (by decide))),zH (q1.below b4 b4.size g2)⟩;rw[hQe];show aW _ _ _ (jn X.1 G.1);unfold jn;rw[PO hX0,PO hG0];exact p2)
     have hxl:(0:Int)<(X.1.length:Int):=by omega
     obtain⟨nx,hnx⟩:∃n,X.1.length=n:=⟨_,rfl⟩;rw[hnx]at hxl HBT HF;rw[hn1,hm2];clear o1 o2 b1 bl s2 d2 B2 p1 g1 s3 x3 B3 HT HLn hQe HQ HD X3 S3' hn1 hX0 hx0 HS S3;rw[hnx];clear hnx;go_wp2_with fail
     refine HBT.out.mono ?_;rintro e w4 ⟨x',rfl,q1,q2⟩;obtain⟨s',w5,k2,P2,D5,B5⟩:=HF.out x' w4 q1 q2;obtain⟨xa',xc',rfl⟩:=(ag.sl ah q1).len;obtain⟨sa',sc',rfl⟩:=(ag.sl ah P2.out).len;obtain⟨m6,hm6⟩:∃m,(X.1++ [(32,0)]).length=m:=⟨_,rfl⟩;obtain⟨m7,hm7⟩:∃m,(dI f (L.take (j+1))).1.length=m:=⟨_,rfl⟩;exact QTZ
  ·exact QTY
theorem Kl (a b:Int)(F G:Nat)(L:List Txt)(v:Value)(w:World)(hv:Ss w v L)(hl:lnT L≤40000)(hL:∀s∈L,s.length≤2000)(c0:w.cell? ⟨F,0,none⟩=some (.int .u8 a))(c1:w.cell? ⟨G,0,none⟩=some (.int .u8 b)):
  Calls Tryz.prog 70 #[v,.func (.func 71) #[] #[.pointer (some ⟨F,0,none⟩),.pointer (some ⟨G,0,none⟩)],.func (.func 72) #[] #[]] w
   fun e w'=> ∃x d,e=.returned (.tuple #[x,d])∧aW w.heap.size w' x (bJ a b 0 L).1∧bG w.heap.size w' d (bv (bJ a b 0 L).2)∧Below w.heap.size w w':=by
 obtain⟨a0,ca,rfl⟩:=hv.len;have hn:L.length≤40000:=by have:=iJ L;omega
 have HV:=zH hv;have HLN:=zH hl;have HL:=zH hL;have hF:=PX w _ c0;have hG:=PX w _ c1;simp only at hF hG;have HC:Hid (∀W,Below w.heap.size w W→W.cell? ⟨F,0,none⟩=some (.int .u8 a)∧W.cell? ⟨G,0,none⟩=some (.int .u8 b)):=zH (fun W hb=>⟨(hb.cell (p:=⟨F,0,none⟩) hF).trans c0,(hb.cell (p:=⟨G,0,none⟩) hG).trans c1⟩);clear c0 c1 hF hG;clear hv hl hL;go_enter Tryz.func70,Tryz.ntmps70
 go_wp2_with fail
 go_step3
 go_wp2_with fail
 go_step3
 go_wp2_with fail
 go_loopw [8,9,18] (fun s d i wr=> ∃j:Nat,j≤L.length∧i=.int .i64 (j:Int)∧Hid (aW w.heap.size wr s (bJ a b 0 (L.take j)).1)∧Hid (bG w.heap.size wr d (bv (bJ a b 0 (L.take j)).2))∧Hid (Below w.heap.size w wr)) (fun _ _ i _=>L.length-(intOf i).toNat)
 case atStart=>exact⟨0,P6 _,rfl,zH (ag.nil _ _),zH (ag.nil _ _),zH (PG _ _)⟩
 case round=>
  obtain⟨j,hj,rfl,HS,HD,HB⟩:=hrel
  by_cases hlt:j<L.length
  ·obtain⟨s0,hs0⟩:∃s0,L[j]? =some s0:=⟨L[j],Pz hlt⟩
   have HQ:=zH (Co (a:=a) (b:=b) hs0);have hlt':(j:Int)<(L.length:Int):=by omega
   have hj0:(0:Int)≤(j:Int):=by omega
   obtain⟨b0,o0,rfl,hc0⟩:=Ss.at (Fs.below HV.out HB.out) hs0;have hs2:s0.length≤2000:=HL.out s0 (Qq hs0);have HT:=zH (Ck j a b F G wr (by omega) (HC.out wr HB.out).1 (HC.out wr HB.out).2);have HLn:=zH (pu (jD a b j) (jD a b j) s0 wr hs2);unfold Nb at HLn;rw[yQ (jD a b j) s0]at HLn;have hlg:(jG (jD a b j,jD a b j) (bR 0 (dec s0)).1).1=(lgS (jD a b j) s0).1:=rfl;rw[hlg]at HLn;obtain⟨fc,hfc⟩:∃fc,(jG (jD a b j,jD a b j) (bR 0 (dec s0)).1).2=fc:=⟨_,rfl⟩;rw[hfc]at HLn;have hll:=mY (jD a b j) s0;obtain⟨G,hG⟩:∃G,lgS (jD a b j) s0=G:=⟨_,rfl⟩;rw[hG]at HLn hll HQ;obtain⟨n0,hn0⟩:∃n0,(jD a b j)=n0:=⟨_,rfl⟩;rw[hn0]at HLn HT;have hXl:(bJ a b 0 (L.take j)).1.length≤40000∧(bJ a b 0 (L.take j)).2.length≤40000:=by
    have h1:=mQ a b (L.take j) 0;have h2:=Be L j;have h3:=HLN.out
    try simp only[bJ,PQ]at h1⊢
    omega
   obtain⟨X,hX⟩:∃X,bJ a b 0 (L.take j)=X:=⟨_,rfl⟩;rw[hX]at HS HD HQ hXl;have hdl:∀l,(bv l).length=l.length:=fun l=>by unfold bv;simp
   have hd1:=hdl X.2;have hd2:=hdl G.2;obtain⟨sa,sc,rfl⟩:=(ag.sl ah HS.out).len;obtain⟨da,dc,rfl⟩:=(ag.sl ax HD.out).len;clear hlg hfc hG hn0 hX hs0 hdl;go_wp2_with fail
   refine HT.out.mono ?_;rintro e w9 ⟨rfl,rfl⟩;go_wp2_with fail
   refine HLn.out.mono ?_;rintro e w1 ⟨x,vd,rfl,o1,o2,b1⟩;have bl:=ae w1 (.cells #[.int .u8 fc.1,.int .u8 fc.2] 28);have hz:=b1.size;have hz0:=HB.out.size;have s2:=(HS.out.keep b1).keep bl;have d2:=(HD.out.keep b1).keep bl;have B2:Below w.heap.size w (w1.alloc (.cells #[.int .u8 fc.1,.int .u8 fc.2] 28)):=(HB.out.trans (b1.mono hz0)).trans (bl.mono (by omega));obtain⟨d',w3,k1,p1,g1,-⟩:=gX d2 (ag.sl ax (o2.keep bl)) (by simp;omega) (by omega);have s3:aW w.heap.size w3 _ X.1:=ag.apart s2 g1 (dO s2 d2 (by decide));have x3:aW wr.heap.size w3 x G.1:=ag.apart (o1.keep bl) g1 (dO (o1.keep bl) d2 (by decide));have B3:Below w.heap.size w w3:=d2.below B2 (by simp;omega) g1;have z3:=g1.size;simp only[PS]at z3;obtain⟨xa,xc,rfl⟩:=(ag.sl ah o1).len;obtain⟨va,vc,rfl⟩:=(ag.sl ax o2).len;obtain⟨da',dc',rfl⟩:=(ag.sl ax p1).len;have hQe:(bJ a b 0 (L.take (j+1)))=(X.1++G.1,X.2++G.2):=HQ.out;have HP1:Hid (bG w.heap.size w3 (.slice da' (bv X.2++bv G.2).length dc') (bv (bJ a b 0 (L.take (j+1))).2)):=zH (by
    rw[hQe];have e:bv (X.2++G.2)=bv X.2++bv G.2:=by unfold bv;simp
    show bG _ _ _ (bv (X.2++G.2));rw[e];exact p1)
   obtain⟨m2,hm2⟩:∃m,(bv G.2).length=m:=⟨_,rfl⟩;obtain⟨m3,hm3⟩:∃m,(bv X.2++bv G.2).length=m:=⟨_,rfl⟩;rw[hm3]at k1 HP1;rw[hd1,hm2]at k1;have HD':=zH HD.out;have S3:=zH s3;have X3:=zH x3;have BB:=zH B3;have S3':=S3;have hb3:=B3.size
   by_cases hG0:G.1=[]
   ·have hQ1:Hid ((bJ a b 0 (L.take (j+1))).1=X.1):=zH (by
     rw[hQe];show X.1++G.1=X.1;rw[hG0,Qc])
    exact QTX
   ·have hg0:0<G.1.length:=Qp.2 hG0
    obtain⟨n1,hn1⟩:∃n,G.1.length=n:=⟨_,rfl⟩;rw[hn1]at hg0 o1 hll;have hgn:¬(n1:Int)=0:=by omega
    have HN1:=zH hn1;have hB3s:w.heap.size≤w3.heap.size:=by omega
    by_cases hX0:X.1=[]
    ·obtain⟨s',w5,k2,p2,g2,-⟩:=eX s3 (ag.sl ah x3) hB3s (by omega)
     have hd5:bG w.heap.size w5 (.slice da' m3 dc') (bv (bJ a b 0 (L.take (j+1))).2):=ag.apart HP1.out g2 (dO HP1.out s3 (by decide));have hb5:Below w.heap.size w w5:=s3.below B3 hB3s g2;have hQ1:Hid ((bJ a b 0 (L.take (j+1))).1=X.1++G.1):=zH (by
      rw[hQe]
      try rfl)
     exact QTW
    ·have hx0:0<X.1.length:=Qp.2 hX0
     have HBT:=zH (Ci w3 S3.out hB3s (by omega));have HF:Hid (∀x' w4,aW w.heap.size w4 x' (X.1++ [])→Exc (fun k=>(Value.slice sa X.1.length sc).ownBlock=some k) w3 w4→ ∃s' w5,(appG #[x',.slice xa n1 xc]).run Tryz.prog w4=.ok (.value s') w5∧Hid (aW w.heap.size w5 s' (bJ a b 0 (L.take (j+1))).1)∧Hid (bG w.heap.size w5 (.slice da' m3 dc') (bv (bJ a b 0 (L.take (j+1))).2))∧Hid (Below w.heap.size w w5)):=zH (fun x' w4 q1 q2=>by
      have lt3:∀{α:Type} {e n base:Nat} {f:α→List Value} {v:Value} {l:List α},ag e n f base w3 v l→ ∀k,v.ownBlock=some k→k<w3.heap.size:=fun h k e=>by
       obtain⟨-,cur,hc⟩:=h.ty e;exact(Py.1 hc).1
      have x4:aW wr.heap.size w4 (.slice xa G.1.length xc) G.1:=x3.kp (fun k e=>q2.block k (lt3 x3 k e) (fun e2=>by
       have h1:=(x3.ty e).1;obtain⟨-,cur,hc⟩:=HS.out.ty e2;have:=(Py.1 hc).1;omega))
      have d4:bG w.heap.size w4 (.slice da' m3 dc') (bv (bJ a b 0 (L.take (j+1))).2):=HP1.out.kp (fun k e=>q2.block k (lt3 HP1.out k e) (fun e2=>by
       rcases dO HP1.out s3 (by decide)with z | z
       ·rw[z]at e;cases e
       ·exact z (e.trans e2.symm)))
      have b4:Below w.heap.size w w4:=B3.trans (q2.below hB3s (fun k hk e=>by have:=(s3.ty e).1;omega));obtain⟨s',w5,k2,p2,g2,-⟩:=eX q1 (ag.sl ah x4) b4.size (by simp;omega);rw[hn1]at k2;refine⟨s',w5,k2,zH ?_,zH (ag.apart d4 g2 (dO d4 q1 (by decide))),zH (q1.below b4 b4.size g2)⟩;rw[hQe];show aW _ _ _ (X.1++G.1);rw[Qc]at p2;exact p2)
     have hxl:(0:Int)<(X.1.length:Int):=by omega
     obtain⟨nx,hnx⟩:∃n,X.1.length=n:=⟨_,rfl⟩;rw[hnx]at hxl HBT HF;rw[hn1,hm2];clear o1 o2 b1 bl s2 d2 B2 p1 g1 s3 x3 B3 HT HLn hQe HQ HD X3 S3' hn1 hX0 hx0 HS S3;rw[hnx];clear hnx;go_wp2_with fail
     refine HBT.out.mono ?_;rintro e w4 ⟨x',rfl,q1,q2⟩;obtain⟨s',w5,k2,P2,D5,B5⟩:=HF.out x' w4 q1 q2;obtain⟨xa',xc',rfl⟩:=(ag.sl ah q1).len;obtain⟨sa',sc',rfl⟩:=(ag.sl ah P2.out).len;obtain⟨m6,hm6⟩:∃m,(X.1++ []).length=m:=⟨_,rfl⟩;obtain⟨m7,hm7⟩:∃m,(bJ a b 0 (L.take (j+1))).1.length=m:=⟨_,rfl⟩;exact QTZ
  ·exact QTY
end
def Lf (w:World)(q:List Gly×List (Int×Int))(e:Ending)(w':World):Prop:= ∃x d,e=.returned (.tuple #[x,d])∧aW w.heap.size w' x q.1∧bG w.heap.size w' d (bv q.2)∧Below w.heap.size w w'
theorem QT0 {P:Prop}(h:P:=by
 go_wp2_with fail
 refine HE.out.mono ?_;rintro e w1 ⟨x,d,rfl,o1,o2,b1⟩;have H3:=zH (HF.out x d w1 o1 o2 b1);clear o1 o2 b1 HE HF;go_wp2_with fail
 go_ret2
 exact⟨_,_,rfl,H3.out⟩):P:=h
theorem tJ (f:Int)(L:List Txt)(v:Value)(w:World)(hv:Ss w v L)(hl:lnT L≤40000)(hL:∀s∈L,s.length≤2000):
  Calls Tryz.prog 34 #[.int .u8 f,v] w (Lf w (dE f L)):=by
 have b1:=ae w (.cells #[.int .u8 f] 5);have hbk:Blk (w.alloc (.cells #[.int .u8 f] 5)) w.heap.size 5 [.int .u8 f]:=PK w _;have HE:=zH (Kk f w.heap.size L v (w.alloc (.cells #[.int .u8 f] 5)) (Fs.below hv b1) hl hL (hbk.cell 0));rw[←jr]at HE;have hz:(w.alloc (.cells #[.int .u8 f] 5)).heap.size=w.heap.size+1:=PS ..;have HF:Hid (∀x d w',aW (w.alloc (.cells #[.int .u8 f] 5)).heap.size w' x (dE f L).1→bG (w.alloc (.cells #[.int .u8 f] 5)).heap.size w' d (bv (dE f L).2)→Below (w.alloc (.cells #[.int .u8 f] 5)).heap.size (w.alloc (.cells #[.int .u8 f] 5)) w'→aW w.heap.size w' x (dE f L).1∧bG w.heap.size w' d (bv (dE f L).2)∧Below w.heap.size w w'):=
  zH (fun x d w' h1 h2 h3=>⟨h1.mono (by omega),h2.mono (by omega),b1.trans (h3.mono (by omega))⟩)
 obtain⟨a0,c0,rfl⟩:=hv.len;clear hv hl hL b1 hbk hz;go_enter Tryz.func34,Tryz.ntmps34
 exact QT0
theorem Cq (a b:Int)(L:List Txt)(v:Value)(w:World)(hv:Ss w v L)(hl:lnT L≤40000)(hL:∀s∈L,s.length≤2000):
  Calls Tryz.prog 36 #[.int .u8 a,.int .u8 b,v] w (Lf w (rG a b L)):=by
 rw[(oK L a b 0).1 rfl];have hb:=xJ w (.cells #[.int .u8 a] 5) (.cells #[.int .u8 b] 5);have HE:=zH (Kl a b w.heap.size (w.heap.size+1) L v ((w.alloc (.cells #[.int .u8 a] 5)).alloc (.cells #[.int .u8 b] 5)) (Fs.below hv hb) hl hL ((xI w [.int .u8 a] 5 (.cells #[.int .u8 b] 5)).cell 0) ((vK w (.cells #[.int .u8 a] 5) [.int .u8 b] 5).cell 0));have hz:((w.alloc (.cells #[.int .u8 a] 5)).alloc (.cells #[.int .u8 b] 5)).heap.size=w.heap.size+1+1:=by simp
 obtain⟨W2,hW2⟩:∃W2,(w.alloc (.cells #[.int .u8 a] 5)).alloc (.cells #[.int .u8 b] 5)=W2:=⟨_,rfl⟩;rw[hW2]at hb HE hz;have HF:Hid (∀x d w',aW W2.heap.size w' x (bJ a b 0 L).1→bG W2.heap.size w' d (bv (bJ a b 0 L).2)→Below W2.heap.size W2 w'→aW w.heap.size w' x (bJ a b 0 L).1∧bG w.heap.size w' d (bv (bJ a b 0 L).2)∧Below w.heap.size w w'):=
  zH (fun x d w' h1 h2 h3=>⟨h1.mono (by omega),h2.mono (by omega),hb.trans (h3.mono (by omega))⟩)
 obtain⟨a0,c0,rfl⟩:=hv.len;clear hv hl hL hb hz;go_enter Tryz.func36,Tryz.ntmps36
 exact QT0
theorem uK (w:World):Calls Tryz.prog 35 #[.int .u8 66] w fun e w'=>e=.returned (.int .u8 1)∧w=w':=by
 go_enter Tryz.func35,Tryz.ntmps35
 go_wp2_with fail
 go_ret;exact⟨rfl,rfl⟩
theorem uJ (w:World):Calls Tryz.prog 35 #[.int .u8 73] w fun e w'=>e=.returned (.int .u8 2)∧w=w':=by
 go_enter Tryz.func35,Tryz.ntmps35
 go_wp2_with fail
 go_ret;exact⟨rfl,rfl⟩
theorem yK (w:World):Calls Tryz.prog 35 #[.int .u8 82] w fun e w'=>e=.returned (.int .u8 0)∧w=w':=by
 go_enter Tryz.func35,Tryz.ntmps35
 go_wp2_with fail
 go_ret;exact⟨rfl,rfl⟩
def atL (ln:Int)(D:List Dg):List Dg:=D.map (fun x=>(x.1,ln,x.2.2))
theorem MW (ln:Int)(l:List (Int×Int)):atL ln (bv l)=aY ln l:=by
 unfold atL bv aY;rw[List.map_map];rfl
theorem sG (ln:Int)(D:List Dg):(atL ln D).length=D.length:=by unfold atL;simp
def atJ (ln:Int)(D:List Dg)(j:Nat):List Dg:=atL ln (D.take j)++D.drop j
theorem MX (ln:Int)(D:List Dg)(j:Nat):(atJ ln D j).length=D.length:=by unfold atJ;rw[PL,sG,PW,PU];omega
theorem KO (ln:Int){D:List Dg}{j:Nat}{d:Dg}(h:D[j]? =some d):(atJ ln D j)[j]? =some d:=by
 have hj:=(Pw.1 h).1;unfold atJ;rw[P5 (by rw[sG,PW];omega),sG,PW,RD (by omega),QE]
 simpa using h
theorem KN (ln:Int){D:List Dg}{j:Nat}{d:Dg}(h:D[j]? =some d):(atJ ln D j).set j (d.1,ln,d.2.2)=atJ ln D (j+1):=by
 have hj:=(Pw.1 h).1;have hl:(atL ln (D.take j)).length=j:=by rw[sG,PW];omega
 have hd:D.drop j=d::D.drop (j+1):=by
  rw[Qu hj]
  congr 1
  exact(Pw.1 h).2
 unfold atJ;rw[Rx _ _ (by omega),hl,Rs,hd,dQ h];unfold atL;simp
theorem rZ (ln:Int){base:Nat}{v:Value}{D:List Dg}(w:World)(h:bG base w v D)(hl:D.length≤1000000):
  Calls Tryz.prog 37 #[.int .i64 ln,v] w fun e w'=>e=.returned v∧bG base w' v (atL ln D)∧Exc (fun k=>v.ownBlock=some k) w w':=by
 obtain⟨a0,c0,rfl⟩:=(ag.sl ax h).len;have H0:=zH h;clear h;go_enter Tryz.func37,Tryz.ntmps37
 go_wp2_with fail
 go_loopw [5,8] (fun _ i wr=> ∃j:Nat,j≤D.length∧i=.int .i64 (j:Int)∧Hid (bG base wr (.slice a0 D.length c0) (atJ ln D j))∧Hid (Exc (fun k=>(Value.slice a0 D.length c0).ownBlock=some k) w wr)) (fun _ i _=>D.length-(intOf i).toNat)
 case atStart=>exact⟨0,P6 _,rfl,zH (by unfold atJ atL;simpa using H0.out),zH (Exc.refl _ _)⟩
 case round=>
  obtain⟨j,hj,rfl,HS,HE⟩:=hrel
  by_cases hlt:j<D.length
  ·obtain⟨d,hd⟩:∃d,D[j]? =some d:=⟨D[j],Pz hlt⟩
   have hlt':(j:Int)<(D.length:Int):=by omega
   have hj0:(0:Int)≤(j:Int):=by omega
   obtain⟨g,rfl,-,-⟩:=HS.out.addr (by rw[MX];omega);have hsa:=HS.out.slotA ax (KO ln hd) (i:=1) rfl;have c1:=hsa.1;have f1:=hsa.2;have HN:=zH (ag.set1 ax HS.out (KO ln hd) (s':=(d.1,ln,d.2.2)) (i:=1) (u:= .int .i64 ln) (by omega) rfl);rw[KN ln hd]at HN;have HX:=zH (HE.out.set (j*3+1) (.int .i64 ln) (g:=g) (fun _=>rfl));clear hsa hd HS HE H0;go_wp2_with fail
   go_roundw
   case rel=>exact⟨j+1,by omega,by go_num,HN,HX⟩
   case measure=>(simp[intOf];try omega)
  ·obtain rfl:j=D.length:=by omega
   have hlt':¬(D.length:Int)<(D.length:Int):=by omega
   have e:atJ ln D D.length=atL ln D:=by unfold atJ;simp
   rw[e]at HS;go_wp2_with fail
   go_ret;exact⟨rfl,HS.out,HE.out⟩
theorem JP (a b:List Gly):(jn a b).length≤a.length+b.length+1:=by
 unfold jn
 split
 ·omega
 ·split
  ·omega
  ·simp only[PL,QF];omega
theorem lm (c:UInt8):∀s:Txt,lnT (aU c s)=s.length+1
 | []=>rfl
 | x::r=>by
  have ih:=lm c r;unfold aU
  split
  ·rw[aQ,ih]
   simp only[PQ,PI];omega
  ·cases e:aU c r with
   | nil=>exact absurd e (zn c r)
   | cons a b=>
    rw[e,aQ]at ih;simp only[aQ,PI];omega
theorem uO (l:List Txt):lnT l.tail≤lnT l:=by
 cases l with
 | nil=>exact Px _
 | cons b l=>rw[aQ];show lnT l≤_;omega
theorem fO (a b:List (List Gly)):lens (a++b)=lens a+lens b:=by simp[lens]
theorem ik (g:List Gly):lens [g]=g.length:=by simp[lens]
section
variable {lg:Lgf}(hg:∀s,(lg s).1.length≤s.length)
include hg
theorem nU:∀(l:List Txt) (ln:Int) (acc:List Gly) (d:List Dgn),(bV lg l ln acc d).1.length+lnT (bV lg l ln acc d).2.2.2≤acc.length+lnT l
 | [],ln,acc,d=>by simp[bV]
 | s::r,ln,acc,d=>by
  unfold bV
  split
  ·exact Px _
  ·have ih:=nU r (ln+1) (jn acc (lg s).1) (d++aY ln (lg s).2)
   have h1:=JP acc (lg s).1;have h2:=hg s;rw[aQ];omega
omit hg in
def cSz (ps rest:List Txt)(cs:List (List Gly))(q:qM):Prop:=q.1.length+lens q.1+lnT q.2.2.2≤cs.length+lens cs+lnT ps+lnT rest
theorem mD {K:List Txt→List Txt→Int→List (List Gly)→List Dgn→qM}(hK:∀ps rest ln cs d,cSz ps rest cs (K ps rest ln cs d)):∀(ps rest:List Txt) (ln:Int) (cs:List (List Gly)) (d:List Dgn),cSz ps rest cs (dD lg K ps rest ln cs d)
 | [],rest,ln,cs,d=>by unfold cSz dD;simp[lnT]
 | p::ps,rest,ln,cs,d=>by
  unfold dD
  split
  ·have ht:=nU hg rest (ln+1) [] d
   generalize bV lg rest (ln+1) [] d=q at ht;obtain⟨g,d2,ln2,r2⟩:=q
   cases r2 with
   | nil=>
    simp only[PQ]at ht;unfold cSz;simp only[PL,QF,fO,ik,aQ];omega
   | cons s r=>
    have h1:=hK (aU 9 s).tail r ln2 (cs++ [g]) d2;have h2:=uO (aU 9 s);rw[lm]at h2;unfold cSz at h1⊢;simp only[PL,QF,fO,ik,aQ,PQ]at h1 ht⊢;omega
  ·have h1:=mD hK ps rest ln (cs++ [(lg p).1]) (d++aY ln (lg p).2)
   have h2:=hg p;unfold cSz at h1⊢;simp only[PL,QF,fO,ik,aQ]at h1⊢;omega
theorem rz:∀(n:Nat) (ps rest:List Txt) (ln:Int) (cs:List (List Gly)) (d:List Dgn),cSz ps rest cs (cK lg n ps rest ln cs d)
 | 0,ps,rest,ln,cs,d=>mD hg (fun ps rest ln cs d=>by unfold cSz;simp only;omega) ps rest ln cs d
 | n+1,ps,rest,ln,cs,d=>mD hg (rz n) ps rest ln cs d
theorem Gb (nc:Nat)(s:Txt)(rest:List Txt)(ln:Int):trl (rowP lg nc s rest ln).1+lnT (rowP lg nc s rest ln).2.2.2≤1+lnT (s::rest):=by
 unfold rowP
 split
 ·rw[aQ]
  unfold trl;simp[lens]
 ·have h:=rz hg (rest.length+1) (aU 9 s) rest ln [] []
  unfold cSz at h;rw[lm]at h;simp only[PQ,lens,QH,RX]at h;rw[aQ];unfold trl lens;simp only;omega
theorem nW (nc:Nat):∀(n:Nat) (l:List Txt) (ln:Int) (rs:List bT) (d:List Dgn),cZ (fE lg nc n l ln rs d).1≤cZ rs+n+lnT l
 | 0,l,ln,rs,d=>by simp[fE]
 | n+1,[],ln,rs,d=>by simp[fE];omega
 | n+1,s::r,ln,rs,d=>by
  have h1:=Gb hg nc s r ln;unfold fE;simp only;have ih:=nW nc n (rowP lg nc s r ln).2.2.2 ((rowP lg nc s r ln).2.2.1+1) (rs++ [(rowP lg nc s r ln).1]) (d++(rowP lg nc s r ln).2.1);have h4:cZ (rs++ [(rowP lg nc s r ln).1])=cZ rs+trl (rowP lg nc s r ln).1:=by simp[cZ]
  omega
omit hg in
theorem Bd (line:Int)(l:List Txt):lnT (dw line l).2.2.2.1≤lnT l:=by
 unfold dw
 cases l with
 | nil=>exact Px _
 | cons s r=>
  simp only
  split
  ·rw[aQ];simp only;omega
  ·exact Px _
omit hg in
theorem vB:∀(l:List Txt) (ln:Int) (cols:Txt) (d:List Dgn),lnT (dY l ln cols d).2.2.2.1≤lnT l
 | [],ln,cols,d=>by simp[dY]
 | s::r,ln,cols,d=>by
  unfold dY;simp only;rw[aQ]
  split
  ·simp only;omega
  ·have:=vB r (ln+1) (if(aS s).1=[] then cols else(aS s).1.take 20) (d++(if(aS s).2 then [] else [(10,ln,0)])++(if 20<(aS s).1.length then [(11,ln,0)] else []))
   omega
omit hg in
theorem kT:∀(n:Nat) (l:List (List Gly)),lens (gK n l)≤lens l
 | 0,l=>by simp[gK,lens]
 | n+1,[]=>by have:=kT n [];simp[gK,lens]at this⊢;exact this
 | n+1,c::l=>by
  have:=kT n l;have:=ED c;simp only[gK,lens,Qo,Rz]at*;omega
omit hg in
theorem qP (n:Nat):∀l:List bT,cZ (l.map (iZ n))≤n*l.length+cZ l
 | []=>by simp[cZ]
 | r::l=>by
  have h1:=qP n l;have h2:trl (iZ n r)≤n+trl r:=by
   obtain⟨b,l⟩:=r;have:=kT n l;have:=om n l;unfold trl iZ
   cases b
   ·simp only[Qf,Q8]
    omega
   ·simp[lens]
    omega
  simp only[cZ,Qo,Rz,PI,Nat.mul_add,RB]at*;omega
end
theorem jV (ln:Int)(l:List (Int×Int)):(aY ln l).length=l.length:=by simp[aY]
section
variable {lg:Lgf}(hg:∀s,(lg s).2.length≤s.length)
include hg
theorem nT:∀(l:List Txt) (ln:Int) (acc:List Gly) (d:List Dgn),(bV lg l ln acc d).2.1.length+lnT (bV lg l ln acc d).2.2.2≤d.length+lnT l
 | [],ln,acc,d=>by simp[bV]
 | s::r,ln,acc,d=>by
  unfold bV
  split
  ·exact Px _
  ·have ih:=nT r (ln+1) (jn acc (lg s).1) (d++aY ln (lg s).2)
   have h2:=hg s;rw[PL,jV]at ih;rw[aQ];omega
omit hg in
def cTd (ps rest:List Txt)(d:List Dgn)(q:qM):Prop:=q.2.1.length+lnT q.2.2.2≤d.length+lnT ps+lnT rest
theorem mr {K:List Txt→List Txt→Int→List (List Gly)→List Dgn→qM}(hK:∀ps rest ln cs d,cTd ps rest d (K ps rest ln cs d)):∀(ps rest:List Txt) (ln:Int) (cs:List (List Gly)) (d:List Dgn),cTd ps rest d (dD lg K ps rest ln cs d)
 | [],rest,ln,cs,d=>by unfold cTd dD;simp[lnT]
 | p::ps,rest,ln,cs,d=>by
  unfold dD
  split
  ·have ht:=nT hg rest (ln+1) [] d
   generalize bV lg rest (ln+1) [] d=q at ht;obtain⟨g,d2,ln2,r2⟩:=q
   cases r2 with
   | nil=>
    simp only at ht;unfold cTd;simp only[PL,QF,aQ];omega
   | cons s r=>
    have h1:=hK (aU 9 s).tail r ln2 (cs++ [g]) d2;have h2:=uO (aU 9 s);rw[lm]at h2;unfold cTd at h1⊢;simp only[aQ]at h1 ht⊢;omega
  ·have h1:=mr hK ps rest ln (cs++ [(lg p).1]) (d++aY ln (lg p).2)
   have h2:=hg p;unfold cTd at h1⊢;simp only[PL,jV,aQ]at h1⊢;omega
theorem ry:∀(n:Nat) (ps rest:List Txt) (ln:Int) (cs:List (List Gly)) (d:List Dgn),cTd ps rest d (cK lg n ps rest ln cs d)
 | 0,ps,rest,ln,cs,d=>mr hg (fun ps rest ln cs d=>by unfold cTd;simp only;omega) ps rest ln cs d
 | n+1,ps,rest,ln,cs,d=>mr hg (ry n) ps rest ln cs d
theorem Ga (nc:Nat)(s:Txt)(rest:List Txt)(ln:Int):(rowP lg nc s rest ln).2.1.length+lnT (rowP lg nc s rest ln).2.2.2≤1+lnT (s::rest):=by
 unfold rowP
 split
 ·rw[aQ]
  simp only[PQ];omega
 ·have h:=ry hg (rest.length+1) (aU 9 s) rest ln [] []
  unfold cTd at h;rw[lm]at h;simp only[PQ]at h;rw[aQ];simp only[PL]
  split
  ·simp only[QF];omega
  ·simp only[PQ];omega
theorem tZ (nc:Nat):∀(n:Nat) (l:List Txt) (ln:Int) (rs:List bT) (d:List Dgn),(fE lg nc n l ln rs d).2.length≤d.length+n+lnT l
 | 0,l,ln,rs,d=>by simp[fE]
 | n+1,[],ln,rs,d=>by simp[fE];omega
 | n+1,s::r,ln,rs,d=>by
  have h1:=Ga hg nc s r ln;unfold fE;simp only;have ih:=tZ nc n (rowP lg nc s r ln).2.2.2 ((rowP lg nc s r ln).2.2.1+1) (rs++ [(rowP lg nc s r ln).1]) (d++(rowP lg nc s r ln).2.1);rw[PL]at ih;omega
omit hg in
theorem xB:∀(l:List Txt) (ln:Int) (cols:Txt) (d:List Dgn),(dY l ln cols d).2.2.1.length≤d.length+2*l.length
 | [],ln,cols,d=>by simp[dY]
 | s::r,ln,cols,d=>by
  have h1:(d++(if(aS s).2 then [] else [(10,ln,0)])++(if 20<(aS s).1.length then [(11,ln,0)] else []):List Dgn).length≤d.length+2:=by
   simp only[PL]
   split<;>split<;>simp
  unfold dY;simp only[PI]
  split
  ·simp only;omega
  ·have:=xB r (ln+1) (if(aS s).1=[] then cols else(aS s).1.take 20) (d++(if(aS s).2 then [] else [(10,ln,0)])++(if 20<(aS s).1.length then [(11,ln,0)] else []))
   omega
omit hg in
theorem GU (line:Int)(l:List Txt):(dw line l).2.2.1.length≤1:=by
 unfold dw
 cases l with
 | nil=>simp
 | cons s r=>
  simp only
  split
  ·simp only;split<;>simp
  ·simp
theorem CQ (line:Int)(l:List Txt):(fH lg line l).2.length≤2+4*lnT l:=by
 have h0:=GU line l;have h1:=Bd line l;have h2:=vB (dw line l).2.2.2.1 (dw line l).2.2.2.2 [] (dw line l).2.2.1;have h3:=iJ (dY (dw line l).2.2.2.1 (dw line l).2.2.2.2 [] (dw line l).2.2.1).2.2.2.1;have h4:=xB (dw line l).2.2.2.1 (dw line l).2.2.2.2 [] (dw line l).2.2.1;have h5:=iJ (dw line l).2.2.2.1;unfold fH;simp only;generalize (dY (dw line l).2.2.2.1 (dw line l).2.2.2.2 [] (dw line l).2.2.1)=b at h2 h3 h4;generalize (if b.1=[] then [108] else b.1:Txt)=cols;have h6:(b.2.2.1++(if b.2.1 then [] else [(7,line,0)]):List Dgn).length≤b.2.2.1.length+1:=by
  rw[PL]
  split<;>simp
 generalize (b.2.2.1++(if b.2.1 then [] else [(7,line,0)]):List Dgn)=d at h6;have h7:=tZ hg cols.length b.2.2.2.1.length b.2.2.2.1 b.2.2.2.2 [] d;omega
end
section
def jns:List (List Gly)→List Gly
 | []=>[]
 | a::r=>jn a (jns r)
theorem yV:∀a b:List (List Gly),jns (a++b)=jn (jns a) (jns b)
 | [],b=>rfl
 | x::a,b=>by
  show jn x (jns (a++b))=jn (jn x (jns a)) (jns b);rw[yV a b,JQ]
theorem JO (a:List (List Gly))(x:List Gly):jns (a++ [x])=jn (jns a) x:=by
 rw[yV];show jn (jns a) (jn x [])=_;rw[kU]
theorem yU:∀l:List (List Gly),(jns l).length≤lens l+l.length
 | []=>Px _
 | x::l=>by
  have h1:=JP x (jns l);have h2:=yU l;have h3:=fO [x] l;rw[ik]at h3;show(jn x (jns l)).length≤lens ([x]++l)+(l.length+1);omega
def qL (S:Nat→Prop)(W:World)(v:Value)(l:List (List Gly)):Prop:= ∃L:List PV,L.length=l.length∧Fs 1 aJ W v L∧ ∀(i:Nat) s r,L[i]? =some s→l[i]? =some r→FsS S 2 aR W (pv s) r
theorem qL.keep {S:Nat→Prop}{W W':World}{v:Value}{l:List (List Gly)}(h:qL S W v l)(hS:∀b,S b→b<W.heap.size)(hb:Below W.heap.size W W'):qL S W' v l:=by
 obtain⟨L,h1,h2,h3⟩:=h;exact⟨L,h1,h2.below hb,fun i s r a b=>(h3 i s r a b).keep (Kp.below hb hS)⟩
theorem qL.len {S:Nat→Prop}{W:World}{v:Value}{l:List (List Gly)}(h:qL S W v l):∃a cap,v=.slice a l.length cap:=by
 obtain⟨L,h1,h2,-⟩:=h;obtain⟨a,cap,e⟩:=h2.len;exact⟨a,cap,h1▸e⟩
noncomputable def Ff (x hi:Value):Sem Value:=Instr.slice 53 x none (some hi) none
theorem vS (x hi:Value):Instr.slice 53 x none (some hi) none=Ff x hi:=rfl
noncomputable def KH (x lo:Value):Sem Value:=Instr.slice 53 x (some lo) none none
theorem yx (x lo:Value):Instr.slice 53 x (some lo) none none=KH x lo:=rfl
theorem qL.front {S:Nat→Prop}{W:World}{v:Value}{l:List (List Gly)}(h:qL S W v l)(k:Nat)(hk:k≤l.length):∃u,(∀W':World,(Ff v (.int .i64 (k:Int))).run Tryz.prog W'=.ok u W')∧qL S W u (l.take k):=by
 obtain⟨i0,hi,hz0,hz1,hz2⟩:=Ql mg;obtain⟨L,h1,h2,h3⟩:=h;obtain⟨u,hr,hu,-⟩:=Fs.front (P:=Tryz.prog) Tryz.underlying53 hi h2 k (by omega);refine⟨u,hr,L.take k,by simp[h1],hu,fun i s r a b=>?_⟩;rw[List.getElem?_take]at a b
 split at a
 ·rename_i hq
  rw[PZ hq]at b;exact h3 i s r a b
 ·cases a
theorem qL.back {S:Nat→Prop}{W:World}{v:Value}{l:List (List Gly)}(h:qL S W v l)(k:Nat)(hk:k≤l.length):∃u,(∀W':World,(KH v (.int .i64 (k:Int))).run Tryz.prog W'=.ok u W')∧qL S W u (l.drop k):=by
 obtain⟨i0,hi,hz0,hz1,hz2⟩:=Ql mg;obtain⟨L,h1,h2,h3⟩:=h;obtain⟨u,hr,hu⟩:=Fs.back (P:=Tryz.prog) Tryz.underlying53 hi hz1 h2 k (by omega);refine⟨u,hr,L.drop k,by simp[h1],hu,fun i s r a b=>?_⟩;rw[QE]at a b;exact h3 _ s r a b
def JR (S:Nat→Prop)(base:Nat)(W:World)(v:Value)(g:List Gly):Prop:=FsS (fun b=>S b∨(base≤b∧ ∃cur fz,W.heap[b]? =some (.cells cur 35 fz))) 2 aR W v g
theorem JR.keep {S:Nat→Prop}{base:Nat}{W W':World}{v:Value}{g:List Gly}(h:JR S base W v g)(hS:∀b,S b→b<W.heap.size)(hb:Below W.heap.size W W'):JR S base W' v g:=by
 refine FsS.mono (FsS.keep h (fun b q=>hb.block b ?_)) (fun b q=>?_)
 ·rcases q with q | ⟨-,cur,fz,q⟩
  ·exact hS b q
  ·exact(Py.1 q).1
 ·rcases q with q | ⟨q0,cur,fz,q⟩
  ·exact .inl q
  ·exact .inr ⟨q0,cur,fz,(hb.block b (Py.1 q).1).trans q⟩
theorem JR.own {S:Nat→Prop}{base base':Nat}{W:World}{v:Value}{g:List Gly}(h:aW base' W v g)(hb:base≤base'):JR S base W v g:=
 (iX ah (h.mono hb)).mono (fun b q=> .inr q)
attribute [local go_sem ↓ high] vS yx
def JoQ (S:Nat→Prop)(base:Nat)(V:World)(g:List Gly)(e:Ending)(V':World):Prop:= ∃x,e=.returned x∧JR S base V' x g∧Below V.heap.size V V'
theorem Dx (S:Nat→Prop)(base:Nat):∀(n:Nat) (l:List (List Gly)) (v:Value) (W:World),l.length=n→qL S W v l→(∀b,S b→b<W.heap.size)→base≤W.heap.size→lens l+l.length≤90000→
  Calls Tryz.prog 198 #[v] W (JoQ S base W (jns l)):=by
 intro n
 induction n using Nat.strongRecOn with
 | _ n ih=>
 intro l v W hn hv hS hbase hl;obtain⟨a,c,rfl⟩:=hv.len;rcases l with _ | ⟨x,_ | ⟨y,r⟩⟩
 ·clear ih hv hl hn
  simp only[PQ];go_enter Tryz.func198,Tryz.ntmps198
  go_wp2_with fail
  go_ret;exact⟨_,rfl,FsS.nil _ _ _ _,PG _ _⟩
 ·obtain⟨L,h1,h2,h3⟩:=hv
  obtain⟨s,hs⟩:∃s,L[0]? =some s:=⟨L[0]'(by simp at h1;omega),Pz _⟩;obtain⟨a',cap',hv',-,hr⟩:=h2;injection hv' with e1 e2 e3
  subst e1;obtain⟨g,off,rfl,hc⟩:=hr 0 s hs;have c0:W.cell? ⟨g,off,none⟩=some (pv s):=by
   have:=hc 0 _ rfl
   simpa using this
  have hj:=h3 0 s x hs rfl;obtain⟨s1,s2,s3⟩:=s;simp only[pv]at c0 hj;have hjn:jns [x]=x:=kU x;rw[hjn];have HJ:=zH hj;clear ih h1 h3 hs hr hc hl hn hj hjn;simp only[PI,PQ];go_enter Tryz.func198,Tryz.ntmps198
  go_wp2_with fail
  go_ret;exact⟨_,rfl,FsS.mono HJ.out (fun b q=> .inl q),PG _ _⟩
 ·obtain⟨l,hle⟩:∃l,x::y::r=l:=⟨_,rfl⟩
  have hl2:2≤l.length:=by rw[←hle];simp
  rw[hle]at hn hl hv⊢;obtain⟨q,hq⟩:∃q,l.length / 2=q:=⟨_,rfl⟩;obtain⟨uf,hrf,hf⟩:=hv.front q (by omega);obtain⟨ub,hrb,hb⟩:=hv.back q (by omega);have hspl:l.take q++l.drop q=l:=QK q l;have hls:=fO (l.take q) (l.drop q);rw[hspl]at hls;have hjs:jns l=jn (jns (l.take q)) (jns (l.drop q)):=by rw[←yV,hspl]
  have hlf:(l.take q).length=q:=by rw[PW];omega
  have hlb:(l.drop q).length=l.length-q:=by rw[PU]
  have n1:=yU (l.take q);have n2:=yU (l.drop q);have IF:Hid (∀V,Below W.heap.size W V→Calls Tryz.prog 198 #[uf] V (JoQ S base V (jns (l.take q)))):=zH fun V hV=>ih q (by omega) _ _ V hlf (hf.keep hS hV) (fun b h=>PH (hS b h) hV.size) (PY hbase hV.size) (by omega)
  have IB:Hid (∀V,Below W.heap.size W V→Calls Tryz.prog 198 #[ub] V (JoQ S base V (jns (l.drop q)))):=zH fun V hV=>ih (l.length-q) (by omega) _ _ V hlb (hb.keep hS hV) (fun b h=>PH (hS b h) hV.size) (PY hbase hV.size) (by omega)
  rw[hjs];obtain⟨gf,hgf⟩:∃gf,jns (l.take q)=gf:=⟨_,rfl⟩;obtain⟨gb,hgb⟩:∃gb,jns (l.drop q)=gb:=⟨_,rfl⟩;rw[hgf]at IF n1⊢;rw[hgb]at IB n2⊢;have HJ:Hid (∀V x y,JR S base V x gf→JR S base V y gb→Calls Tryz.prog 127 #[x,y] V fun e w'=> ∃z,e=.returned z∧aW V.heap.size w' z (jn gf gb)∧Below V.heap.size V w'):=zH fun V x y hx hy=>qf gf gb x y V hx.1 hy.1 (by omega)
  have HS:=zH hS;have H0:=zH (PG W.heap.size W).drew;have hd:((l.length:Int)).tdiv 2=(q:Int):=by rw[←hq];rfl
  have hnq:(l.length:Int)≠0:=by omega
  obtain⟨m,hm⟩:∃m,(l.length:Int)=m:=⟨_,rfl⟩;have k0:(m==0)=false:=by simp;omega
  have k1:(m==1)=false:=by simp;omega
  have hw1:IntKind.i64.wrap (q:Int)=(q:Int):=gU (by omega) (by omega);rw[hm]at hd;have HQ:=zH hrf;have hsl:∀cap,Value.slice a l.length cap=.slice a l.length cap:=fun _=>rfl
  clear ih hv hf hb hspl hls hjs hlf hlb n1 n2 hgf hgb hle hl hn hS hnq hl2 HQ hsl hq;go_enter Tryz.func198,Tryz.ntmps198
  go_wp2_with fail
  first | (go_region_with (first
   | (go_at_call 198;(with_reducible refine(IF.out _ H0.out).mono ?_);rintro e w1 ⟨xf,rfl,f1,b1⟩;have F1:=zH f1;have B1:=zH b1;have HX1:=zH (H0.out.trans (b1.mono H0.out.size));clear f1 b1)
   | (go_at_call 198;(with_reducible refine(IB.out _ H0.out).mono ?_);rintro e w1 ⟨xb,rfl,f1,b1⟩;have F1:=zH f1;have B1:=zH b1;have HX1:=zH (H0.out.trans (b1.mono H0.out.size));clear f1 b1)
   | (go_at_call 198;(with_reducible refine(IF.out _ HX1.out).mono ?_);rintro e w2 ⟨xf,rfl,f2,b2⟩;have F2:=zH f2;have B2:=zH b2;clear f2 b2;have FF:=zH F2.out;have FB:=zH (F1.out.keep (fun b h=>PH (HS.out b h) HX1.out.size) B2.out);have HX2:=zH (HX1.out.trans (B2.out.mono HX1.out.size)))
   | (go_at_call 198;(with_reducible refine(IB.out _ HX1.out).mono ?_);rintro e w2 ⟨xb,rfl,f2,b2⟩;have F2:=zH f2;have B2:=zH b2;clear f2 b2;have FB:=zH F2.out;have FF:=zH (F1.out.keep (fun b h=>PH (HS.out b h) HX1.out.size) B2.out);have HX2:=zH (HX1.out.trans (B2.out.mono HX1.out.size)))
   | (go_at_call 127;(with_reducible refine(HJ.out _ _ _ FF.out FB.out).mono ?_);rintro e w3 ⟨xz,rfl,f3,b3⟩;have F3:=zH f3;have HX3:=zH (HX2.out.trans (b3.mono HX2.out.size));clear f3 b3)))| skip
  all_goals
   have hz:=HX2.out.size;have hw2:base≤w2.heap.size:=PY hbase hz;go_wp2_with fail
   go_ret;exact⟨_,rfl,JR.own F3.out hw2,HX3.out⟩
end
end Go.Proofs.YtebabjnngdjceaaGreatDoor

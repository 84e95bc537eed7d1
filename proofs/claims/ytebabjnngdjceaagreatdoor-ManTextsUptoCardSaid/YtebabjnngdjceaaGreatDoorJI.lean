/- Rows of texts that came in, with the sum of their lengths. styles.Words and Turns: arguments, set one behind the other. styles.Words, Turns; man's set, at. How much is read of a table's lines: plain maths. How much is told of a table's lines: plain maths. -/
import Derived.Test.YtebabjnngdjceaaGreatDoorRD
import Derived.Test.YtebabjnngdjceaaGreatDoorBr
import Derived.Test.YtebabjnngdjceaaGreatDoorY3
import Derived.Test.YtebabjnngdjceaaGreatDoorZ0
import Derived.Test.YtebabjnngdjceaaGreatDoorHa
import Derived.Test.YtebabjnngdjceaaGreatDoorBs
import Derived.Test.YtebabjnngdjceaaGreatDoorDa
import Derived.Test.YtebabjnngdjceaaGreatDoorH2
import Derived.Test.YtebabjnngdjceaaGreatDoorBe
import Derived.Test.YtebabjnngdjceaaGreatDoorJA
set_option linter.unusedVariables false
set_option linter.unusedSimpArgs false
set_option maxRecDepth 100000
set_option maxHeartbeats 4000000
namespace Go.Proofs.YtebabjnngdjceaaGreatDoor
open Go.RowKit
section
open Go.ChangeShapes Go.WideShapes Go.ChangeAt Go.RowKit
def lnT (l:List (List UInt8)):Nat:=(l.map (fun b=>b.length+1)).sum
theorem iP (b:List UInt8) (l:List (List UInt8)):lnT (b::l)=b.length+1+lnT l:=by simp[lnT]
theorem Lc (l m:List (List UInt8)):lnT (l++m)=lnT l+lnT m:=by simp[lnT]
theorem ry: ∀l:List (List UInt8),l.length≤lnT l
 | []=>Qr _
 | b::l=>by have:=ry l;rw[iP,Pe];omega
theorem yj {l:List (List UInt8)} {b:List UInt8} (h:b∈l):b.length+1≤lnT l:=by
 induction l with
 | nil=>simp at h
 | cons x l ih=>
  rw[iP];rcases P6.1 h with rfl | h
  ·omega
  ·have:=ih h;omega
theorem jH (l:List (List UInt8)) (j:Nat):lnT (l.take j)≤lnT l:=by
 have:=Lc (l.take j) (l.drop j);rw[Qv]at this;omega
section
variable {H:Type} {enc:TypeId×Value→H} {w:World} {held:Bool}
theorem He {fuel:Nat} {v:Value} {x:DataW H×List MemPlace} (h:DataW.trod enc Tryz.prog w 0 (fun _=>true) held fuel 22 [v]=some x):
  ∃l:List (List UInt8),FsS (fun b=>b<w.heap.size) 1 oq w v l∧1+lnT l≤Rows.uptoBulk x.1:=by
 rcases DK Tryz.underlying22 h with⟨rfl,hx⟩| ⟨a,len,cap,n,ys,rest,-,rfl,hl,hyl,hx,hi⟩
 ·exact⟨[],FsS.nil _ _ _ _,by rw[hx];simp[Rows.uptoBulk,lnT]⟩
 ·rw[Ju]at hi
  obtain⟨L,l,h1,h2,h3⟩:=pM (fun i (g:List UInt8) (_:Unit)=>(∀(j:Nat) c,(oq g)[j]? =some c→w.cell? (a.add (i*1+j))=some c)∧ ∃y,ys[i]? =some y∧g.length+1≤Rows.uptoBulk y.1) len (fun i hil=>by
   obtain⟨cs,y,hy,hcl,hc,ht⟩:=hi i hil;rcases cs with _ | ⟨c,_ | ⟨d,cs⟩⟩
   ·simp at hcl
   ·obtain⟨b,rfl,hb⟩:=Km ht
    exact⟨b,(),hc,y,hy,by omega⟩
   ·simp at hcl)
  refine⟨L,I8 dh (by decide) h1 hl (fun i x hx j c hj=>?_),?_⟩
  ·have hil:=(OV.1 hx).1
   obtain⟨u,hu⟩:=nO h2 (j:=i) (by omega);exact(h3 i x u hx hu).1 j c hj
  ·have hs:=AU (fun b:List UInt8=>b.length+1) L (ys.map (·.1)) (by rw[Qe,h1,hyl]) (fun i r d hr hd=>by
    obtain⟨u,hu⟩:=nO h2 (j:=i) (by have:=(OV.1 hr).1;omega);obtain⟨y,hy,hb⟩:=(h3 i r u hr hu).2;rw[Qf,hy]at hd;simp at hd;subst hd;exact hb)
   rw[hx];simp only[Rows.uptoBulk,lnT];omega
theorem Bu {r:Reach} {b0:Nat} {v:Value} {d:DataW H} {p:List MemPlace} (hval:Value.okWide Tryz.prog w r b0 22 v) (h:DataW.Trod enc Tryz.prog w 0 (fun _=>true) true 22 v d p):
  ∃l:List (List UInt8),FsS (fun b=>b<w.heap.size) 1 oq w v l∧1+lnT l≤Rows.uptoBulk d:=by
 obtain⟨a,len,cap,rfl⟩:=okWide_slice Tryz.underlying22 hval;obtain⟨fu,hf⟩:=h;exact He hf
end
end
def bC (l:List (Int×Int)):List Dg:=l.map (fun q=>(q.1,0,q.2))
theorem sD: ∀(n p:Nat) (s:List Int),∀d∈(iK n p s).2,d.2.1=0
 | 0,p,s,d,h=>by simp[iK]at h
 | n+1,p,s,d,h=>by
  unfold iK at h
  split at h
  ·simp at h
  ·simp only[QP]at h
   rcases h with h | h
   ·unfold dgs at h
    obtain⟨k,hk,rfl⟩:=QF.1 h;rfl
   ·exact sD n _ _ d h
theorem ym (f:Int) (s:Txt):(bK 0 (dec s)).2=bC (lgS f s).2:=by
 unfold lgS bC;simp only[List.map_map];have h: ∀l:List Dg,(∀d∈l,d.2.1=0)→l=l.map ((fun q:Int×Int=>((q.1,0,q.2):Dg))∘ fun d:Dg=>(d.1,d.2.2)):=fun l=>by
  induction l with
  | nil=>intro _;rfl
  | cons x l ih=>
   intro hl;rw[PL,←ih (fun d hd=>hl d (Qc _ hd))];have:=hl x Rf;obtain⟨a,b,c⟩:=x;simp only at this;subst this;rfl
 exact h _ (fun d hd=>sD _ _ _ d hd)
theorem mJ (f:Int) (s:Txt):(lgS f s).1.length≤s.length∧(lgS f s).2.length≤s.length:=by
 have h1:=ow (dec s);have h2:=l6 s;have h3:=pg (f,f) (bK 0 (dec s)).1;unfold lgS;simp only[Qe];omega
def rG (f:Int) (q:List Gly×List (Int×Int)) (s:Txt):List Gly×List (Int×Int):=(jn q.1 (lgS f s).1,q.2++(lgS f s).2)
def jk (a b:Int) (i:Nat):Int:=if i % 2=0 then a else b
def dC (f:Int) (l:List Txt):List Gly×List (Int×Int):=l.foldl (rG f) ([],[])
theorem ig (f:Int) (l:List Txt):df f l=dC f l:=rfl
theorem Bd {f:Int} {l:List Txt} {j:Nat} {s:Txt} (h:l[j]? =some s):dC f (l.take (j+1))=(jn (dC f (l.take j)).1 (lgS f s).1,(dC f (l.take j)).2++(lgS f s).2):=by
 unfold dC;rw[pR h,Q6];rfl
def bJ (a b:Int):Nat→List Txt→List Gly×List (Int×Int)
 | _,[]=>([],[])
 | i,s::l=>((lgS (jk a b i) s).1++(bJ a b (i+1) l).1,(lgS (jk a b i) s).2++(bJ a b (i+1) l).2)
theorem nV: ∀(l:List Txt) (a b:Int) (i:Nat),(i % 2=0→uU a b l=bJ a b i l)∧(i % 2=1→uU b a l=bJ a b i l)
 | [],a,b,i=>⟨fun _=>rfl,fun _=>rfl⟩
 | s::l,a,b,i=>by
  refine⟨fun h=>?_,fun h=>?_⟩
  ·have:=(nV l a b (i+1)).2 (by omega)
   unfold uU bJ;rw[this];unfold jk;rw[Pk h]
  ·have:=(nV l a b (i+1)).1 (by omega)
   unfold uU bJ;rw[this];unfold jk;rw[Pd (by omega)]
theorem vS (a b:Int): ∀(l m:List Txt) (i:Nat),bJ a b i (l++m)=((bJ a b i l).1++(bJ a b (i+l.length) m).1,(bJ a b i l).2++(bJ a b (i+l.length) m).2)
 | [],m,i=>by simp[bJ]
 | s::l,m,i=>by
  have:=vS a b l m (i+1);have e:i+(s::l).length=i+1+l.length:=by simp;omega
  rw[e];simp only[PR,bJ,this,Pw]
theorem Br {a b:Int} {l:List Txt} {j:Nat} {s:Txt} (h:l[j]? =some s):bJ a b 0 (l.take (j+1))=((bJ a b 0 (l.take j)).1++(lgS (jk a b j) s).1,(bJ a b 0 (l.take j)).2++(lgS (jk a b j) s).2):=by
 have hj:=(OV.1 h).1;rw[pR h,vS];have e:0+(l.take j).length=j:=by rw[Pg];omega
 rw[e];simp[bJ]
theorem Ev (f:Int) (q:List Gly×List (Int×Int)) (s:Txt):(rG f q s).1.length≤q.1.length+s.length+1∧(rG f q s).2.length≤q.2.length+s.length:=by
 have h:=mJ f s;have h2:=Nf q.1 (lgS f s).1;unfold rG;simp only[Pb]
 split at h2<;>omega
theorem dR (f:Int): ∀(l:List Txt) (q:List Gly×List (Int×Int)),(l.foldl (rG f) q).1.length≤q.1.length+lnT l∧(l.foldl (rG f) q).2.length≤q.2.length+lnT l
 | [],q=>by simp
 | s::l,q=>by
  have h1:=Ev f q s;have h2:=dR f l (rG f q s);rw[iP];simp only[Re];omega
theorem mi (a b:Int): ∀(l:List Txt) (i:Nat),(bJ a b i l).1.length≤lnT l∧(bJ a b i l).2.length≤lnT l
 | [],i=>by simp[bJ]
 | s::l,i=>by
  have h1:=mJ (jk a b i) s;have h2:=mi a b l (i+1);rw[iP];unfold bJ;simp only[Pb];omega
section
attribute [local go_sem ↓ high] cO aM
theorem Lv {base:Nat} {W W':World} {x:Value} {l:List Gly} (h:aI base W x l) (hg:W.grownBy W' x.ownBlock):Exc (fun k=>x.ownBlock=some k) W W':=
 ⟨hg.os,hg.tape,hg.output,hg.size,fun k hk hx=>hg.block k hk (fun e=>hx e.symm)⟩
theorem Bc (i a:Int) (F:Nat) (w:World) (c0:w.cell? ⟨F,0,none⟩=some (.int .u8 a)):
  Calls Tryz.prog 68 #[.int .i64 i,.pointer (some ⟨F,0,none⟩)] w fun e w'=>e= .returned (.int .u8 a)∧w=w':=by
 go_enter Tryz.func68,Tryz.ntmps68
 go_wp2_with fail
 go_ret;exact⟨rfl,rfl⟩
theorem Bn (i:Nat) (a b:Int) (F G:Nat) (w:World) (hi:i≤1000000) (c0:w.cell? ⟨F,0,none⟩=some (.int .u8 a)) (c1:w.cell? ⟨G,0,none⟩=some (.int .u8 b)):
  Calls Tryz.prog 71 #[.int .i64 (i:Int),.pointer (some ⟨F,0,none⟩),.pointer (some ⟨G,0,none⟩)] w fun e w'=>e= .returned (.int .u8 (jk a b i))∧w=w':=by
 have ht:Int.tmod (i:Int) 2=((i % 2:Nat):Int):=by rw[Int.tmod_eq_emod_of_nonneg (by omega)];omega
 by_cases he:i % 2=0
 ·rw[he]at ht
  unfold jk;rw[Pk he];go_enter Tryz.func71,Tryz.ntmps71
  go_wp2_with fail
  go_ret;exact⟨rfl,rfl⟩
 ·obtain ho:i % 2=1:=by omega
  rw[ho]at ht;unfold jk;rw[Pd he];clear he ho;go_enter Tryz.func71,Tryz.ntmps71
  go_wp2_with fail
  go_ret;exact⟨rfl,rfl⟩
theorem Bl (v:Value) (w:World):
  Calls Tryz.prog 72 #[v] w fun e w'=>e= .returned v∧w=w':=by
 go_enter Tryz.func72,Tryz.ntmps72
 go_wp2_with fail
 go_ret;exact⟨rfl,rfl⟩
theorem Bj {base:Nat} {x:Value} {l:List Gly} (w:World) (h:aI base w x l) (hb:base≤w.heap.size) (hl:l.length≤500000):
  Calls Tryz.prog 72 #[x] w fun e w'=> ∃x',e= .returned x'∧aI base w' x' (l++ [])∧Exc (fun k=>x.ownBlock=some k) w w':=
 (Bl x w).mono fun e w' ⟨h1,h2⟩=>⟨x,h1,by rw[Pn,←h2];exact h,by rw[←h2];exact Exc.refl _ _⟩
theorem Bb {base:Nat} {x:Value} {l:List Gly} (w:World) (h:aI base w x l) (hb:base≤w.heap.size) (hl:l.length≤500000):
  Calls Tryz.prog 69 #[x] w fun e w'=> ∃x',e= .returned x'∧aI base w' x' (l++ [(32,0)])∧Exc (fun k=>x.ownBlock=some k) w w':=by
 have b1:=af w (.cells (aX (32,0)).toArray 35);obtain⟨x',w2,hr,ho,hg,-⟩:=cB (h.keep b1) (bR ah w 35 [(32,0)]) (by simp;omega) (by simp;omega);have hr':(appG #[x,.slice (some ⟨w.heap.size,0,none⟩) 1 1]).run Tryz.prog (w.alloc (.cells #[.int .i32 32,.int .u8 0] 35))= .ok (.value x') w2:=hr;have HO:=zH ho;have HE:=zH ((Exc.of (X:=fun k=>x.ownBlock=some k) b1).then (Lv (h.keep b1) hg));clear hr ho hg h b1;go_enter Tryz.func69,Tryz.ntmps69
 go_wp2_with fail
 go_ret;exact⟨_,rfl,HO.out,HE.out⟩
theorem QTR {P:Prop}(h:P:=by
 have hx0:X.1.length=0:=by rw[hX0];rfl
 rw[hn1,hx0]at k2;obtain⟨sa',sc',rfl⟩:=(ag.sl ah p2).len;have P2:=zH p2;have D5:=zH hd5;have B5:=zH hb5;obtain⟨m5,hm5⟩: ∃m,(X.1++G.1).length=m:=⟨_,rfl⟩;rw[hm5]at k2 P2;rw[hn1,hm2,hx0];clear o1 o2 b1 bl s2 d2 B2 p1 g1 s3 x3 B3 HT HLn hQe HQ HD X3 S3' p2 g2 hd5 hb5 hn1 hm5 hX0 hx0 HS S3;go_wp2_with fail
 go_roundw
 case rel=>exact⟨j+1,by omega,by go_num,zH (by rw[hQ1.out];exact P2.out),D5,B5⟩
 case measure=>(simp[intOf];try omega)):P:=h
theorem QTS {P:Prop}(h:P:=by
 have hg0:G.1.length=0:=by rw[hG0];rfl
 obtain⟨n1,hn1⟩: ∃n,G.1.length=n:=⟨_,rfl⟩;rw[hn1]at hg0 o1;subst hg0;rw[hn1];clear o1 o2 b1 bl s2 d2 B2 p1 g1 s3 x3 B3 HT HLn hQe HQ HD X3 S3';rw[hm2];go_wp2_with fail
 go_roundw
 case rel=>exact⟨j+1,by omega,by go_num,zH (by rw[hQ1.out];exact S3.out),HP1,BB⟩
 case measure=>(simp[intOf];try omega)):P:=h
theorem QTT {P:Prop}(h:P:=by
 obtain rfl:j=L.length:=by omega
 have hlt': ¬(L.length:Int)<(L.length:Int):=by omega
 rw[PG]at HS HD;obtain⟨sa,sc,rfl⟩:=(ag.sl ah HS.out).len;obtain⟨da,dc,rfl⟩:=(ag.sl ai HD.out).len;go_wp2_with fail
 repeat(change Exit.noGoto _ Exit.ret _ _;rw[QA])
 go_ret2
 exact⟨_,_,rfl,HS.out,HD.out,HB.out⟩):P:=h
theorem Jm (f:Int) (F:Nat) (L:List Txt) (v:Value) (w:World) (hv:Ss w v L) (hl:lnT L≤40000) (hL: ∀s∈L,s.length≤2000) (c0:w.cell? ⟨F,0,none⟩=some (.int .u8 f)):
  Calls Tryz.prog 70 #[v,.func (.func 68) #[] #[.pointer (some ⟨F,0,none⟩)],.func (.func 69) #[] #[]] w
   fun e w'=> ∃x d,e= .returned (.tuple #[x,d])∧aI w.heap.size w' x (dC f L).1∧aL w.heap.size w' d (bC (dC f L).2)∧Below w.heap.size w w':=by
 obtain⟨a0,ca,rfl⟩:=hv.len;have hn:L.length≤40000:=by have:=ry L;omega
 have HV:=zH hv;have HLN:=zH hl;have HL:=zH hL;have hF:=Po w _ c0;simp only at hF;have HC:Hid (∀W,Below w.heap.size w W→W.cell? ⟨F,0,none⟩=some (.int .u8 f)):=zH (fun W hb=>(hb.cell (p:=⟨F,0,none⟩) hF).trans c0);clear c0 hF;clear hv hl hL;go_enter Tryz.func70,Tryz.ntmps70
 go_wp2_with fail
 go_step3
 go_wp2_with fail
 go_step3
 go_wp2_with fail
 go_loopw [8,9,18] (fun s d i wr=> ∃j:Nat,j≤L.length∧i= .int .i64 (j:Int)∧Hid (aI w.heap.size wr s (dC f (L.take j)).1)∧Hid (aL w.heap.size wr d (bC (dC f (L.take j)).2))∧Hid (Below w.heap.size w wr)) (fun _ _ i _=>L.length-(intOf i).toNat)
 case atStart=>exact⟨0,Qr _,rfl,zH (ag.nil _ _),zH (ag.nil _ _),zH (OX _ _)⟩
 case round=>
  obtain⟨j,hj,rfl,HS,HD,HB⟩:=hrel
  by_cases hlt:j<L.length
  ·obtain⟨s0,hs0⟩: ∃s0,L[j]? =some s0:=⟨L[j],OU hlt⟩
   have HQ:=zH (Bd (f:=f) hs0);have hlt':(j:Int)<(L.length:Int):=by omega
   have hj0:(0:Int)≤(j:Int):=by omega
   obtain⟨b0,o0,rfl,hc0⟩:=Ss.at (Fs.below HV.out HB.out) hs0;have hs2:s0.length≤2000:=HL.out s0 (P5 hs0);have HT:=zH (Bc (j:Int) f F wr (HC.out wr HB.out));have HLn:=zH (ui (f) (f) s0 wr hs2);unfold J4 at HLn;rw[ym (f) s0]at HLn;have hlg:(fO (f,f) (bK 0 (dec s0)).1).1=(lgS (f) s0).1:=rfl;rw[hlg]at HLn;obtain⟨fc,hfc⟩: ∃fc,(fO (f,f) (bK 0 (dec s0)).1).2=fc:=⟨_,rfl⟩;rw[hfc]at HLn;have hll:=mJ (f) s0;obtain⟨G,hG⟩: ∃G,lgS (f) s0=G:=⟨_,rfl⟩;rw[hG]at HLn hll HQ;obtain⟨n0,hn0⟩: ∃n0,(f)=n0:=⟨_,rfl⟩;rw[hn0]at HLn HT;have hXl:(dC f (L.take j)).1.length≤40000∧(dC f (L.take j)).2.length≤40000:=by
    have h1:=dR f (L.take j) ([],[]);have h2:=jH L j;have h3:=HLN.out
    try simp only[dC,Pm]at h1 ⊢
    omega
   obtain⟨X,hX⟩: ∃X,dC f (L.take j)=X:=⟨_,rfl⟩;rw[hX]at HS HD HQ hXl;have hdl: ∀l,(bC l).length=l.length:=fun l=>by unfold bC;simp
   have hd1:=hdl X.2;have hd2:=hdl G.2;obtain⟨sa,sc,rfl⟩:=(ag.sl ah HS.out).len;obtain⟨da,dc,rfl⟩:=(ag.sl ai HD.out).len;clear hlg hfc hG hn0 hX hs0 hdl;go_wp2_with fail
   refine HT.out.mono ?_;rintro e w9 ⟨rfl,rfl⟩;go_wp2_with fail
   refine HLn.out.mono ?_;rintro e w1 ⟨x,vd,rfl,o1,o2,b1⟩;have bl:=af w1 (.cells #[.int .u8 fc.1,.int .u8 fc.2] 28);have hz:=b1.size;have hz0:=HB.out.size;have s2:=(HS.out.keep b1).keep bl;have d2:=(HD.out.keep b1).keep bl;have B2:Below w.heap.size w (w1.alloc (.cells #[.int .u8 fc.1,.int .u8 fc.2] 28)):=(HB.out.trans (b1.mono hz0)).trans (bl.mono (by omega));obtain⟨d',w3,k1,p1,g1,-⟩:=gG d2 (ag.sl ai (o2.keep bl)) (by simp;omega) (by omega);have s3:aI w.heap.size w3 _ X.1:=ag.apart s2 g1 (bE s2 d2 (by decide));have x3:aI wr.heap.size w3 x G.1:=ag.apart (o1.keep bl) g1 (bE (o1.keep bl) d2 (by decide));have B3:Below w.heap.size w w3:=d2.below B2 (by simp;omega) g1;have z3:=g1.size;simp only[Pf]at z3;obtain⟨xa,xc,rfl⟩:=(ag.sl ah o1).len;obtain⟨va,vc,rfl⟩:=(ag.sl ai o2).len;obtain⟨da',dc',rfl⟩:=(ag.sl ai p1).len;have hQe:(dC f (L.take (j+1)))=(jn X.1 G.1,X.2++G.2):=HQ.out;have HP1:Hid (aL w.heap.size w3 (.slice da' (bC X.2++bC G.2).length dc') (bC (dC f (L.take (j+1))).2)):=zH (by
    rw[hQe];have e:bC (X.2++G.2)=bC X.2++bC G.2:=by unfold bC;simp
    show aL _ _ _ (bC (X.2++G.2));rw[e];exact p1)
   obtain⟨m2,hm2⟩: ∃m,(bC G.2).length=m:=⟨_,rfl⟩;obtain⟨m3,hm3⟩: ∃m,(bC X.2++bC G.2).length=m:=⟨_,rfl⟩;rw[hm3]at k1 HP1;rw[hd1,hm2]at k1;have HD':=zH HD.out;have S3:=zH s3;have X3:=zH x3;have BB:=zH B3;have S3':=S3;have hb3:=B3.size
   by_cases hG0:G.1=[]
   ·have hQ1:Hid ((dC f (L.take (j+1))).1=X.1):=zH (by
     rw[hQe];show jn X.1 G.1=X.1;rw[hG0];exact DY _)
    exact QTS
   ·have hg0:0<G.1.length:=PS.2 hG0
    obtain⟨n1,hn1⟩: ∃n,G.1.length=n:=⟨_,rfl⟩;rw[hn1]at hg0 o1 hll;have hgn: ¬(n1:Int)=0:=by omega
    have HN1:=zH hn1;have hB3s:w.heap.size≤w3.heap.size:=by omega
    by_cases hX0:X.1=[]
    ·obtain⟨s',w5,k2,p2,g2,-⟩:=cB s3 (ag.sl ah x3) hB3s (by omega)
     have hd5:aL w.heap.size w5 (.slice da' m3 dc') (bC (dC f (L.take (j+1))).2):=ag.apart HP1.out g2 (bE HP1.out s3 (by decide));have hb5:Below w.heap.size w w5:=s3.below B3 hB3s g2;have hQ1:Hid ((dC f (L.take (j+1))).1=X.1++G.1):=zH (by
      rw[hQe];show jn X.1 G.1=X.1++G.1;rw[hX0,Nc];rfl)
     exact QTR
    ·have hx0:0<X.1.length:=PS.2 hX0
     have HBT:=zH (Bb w3 S3.out hB3s (by omega));have HF:Hid (∀x' w4,aI w.heap.size w4 x' (X.1++ [(32,0)])→Exc (fun k=>(Value.slice sa X.1.length sc).ownBlock=some k) w3 w4→ ∃s' w5,(appG #[x',.slice xa n1 xc]).run Tryz.prog w4= .ok (.value s') w5∧Hid (aI w.heap.size w5 s' (dC f (L.take (j+1))).1)∧Hid (aL w.heap.size w5 (.slice da' m3 dc') (bC (dC f (L.take (j+1))).2))∧Hid (Below w.heap.size w w5)):=zH (fun x' w4 q1 q2=>by
      have lt3: ∀{α:Type} {e n base:Nat} {f:α→List Value} {v:Value} {l:List α},ag e n f base w3 v l→ ∀k,v.ownBlock=some k→k<w3.heap.size:=fun h k e=>by
       obtain⟨-,cur,hc⟩:=h.ty e;exact(O5.1 hc).1
      have x4:aI wr.heap.size w4 (.slice xa G.1.length xc) G.1:=x3.kp (fun k e=>q2.block k (lt3 x3 k e) (fun e2=>by
       have h1:=(x3.ty e).1;obtain⟨-,cur,hc⟩:=HS.out.ty e2;have:=(O5.1 hc).1;omega))
      have d4:aL w.heap.size w4 (.slice da' m3 dc') (bC (dC f (L.take (j+1))).2):=HP1.out.kp (fun k e=>q2.block k (lt3 HP1.out k e) (fun e2=>by
       rcases bE HP1.out s3 (by decide)with z | z
       ·rw[z]at e;cases e
       ·exact z (e.trans e2.symm)))
      have b4:Below w.heap.size w w4:=B3.trans (q2.below hB3s (fun k hk e=>by have:=(s3.ty e).1;omega));obtain⟨s',w5,k2,p2,g2,-⟩:=cB q1 (ag.sl ah x4) b4.size (by simp;omega);rw[hn1]at k2;refine⟨s',w5,k2,zH ?_,zH (ag.apart d4 g2 (bE d4 q1 (by decide))),zH (q1.below b4 b4.size g2)⟩;rw[hQe];show aI _ _ _ (jn X.1 G.1);unfold jn;rw[Pd hX0,Pd hG0];exact p2)
     have hxl:(0:Int)<(X.1.length:Int):=by omega
     obtain⟨nx,hnx⟩: ∃n,X.1.length=n:=⟨_,rfl⟩;rw[hnx]at hxl HBT HF;rw[hn1,hm2];clear o1 o2 b1 bl s2 d2 B2 p1 g1 s3 x3 B3 HT HLn hQe HQ HD X3 S3' hn1 hX0 hx0 HS S3;rw[hnx];clear hnx;go_wp2_with fail
     refine HBT.out.mono ?_;rintro e w4 ⟨x',rfl,q1,q2⟩;obtain⟨s',w5,k2,P2,D5,B5⟩:=HF.out x' w4 q1 q2;obtain⟨xa',xc',rfl⟩:=(ag.sl ah q1).len;obtain⟨sa',sc',rfl⟩:=(ag.sl ah P2.out).len;obtain⟨m6,hm6⟩: ∃m,(X.1++ [(32,0)]).length=m:=⟨_,rfl⟩;obtain⟨m7,hm7⟩: ∃m,(dC f (L.take (j+1))).1.length=m:=⟨_,rfl⟩;rw[hm6,hm7]at k2;rw[hm6];rw[hm7]at P2;clear q1 q2 HF HBT hm6 hm7;go_wp2_with fail
     go_roundw
     case rel=>exact⟨j+1,by omega,by go_num,P2,D5,B5⟩
     case measure=>(simp[intOf];try omega)
  ·exact QTT
theorem Jn (a b:Int) (F G:Nat) (L:List Txt) (v:Value) (w:World) (hv:Ss w v L) (hl:lnT L≤40000) (hL: ∀s∈L,s.length≤2000) (c0:w.cell? ⟨F,0,none⟩=some (.int .u8 a)) (c1:w.cell? ⟨G,0,none⟩=some (.int .u8 b)):
  Calls Tryz.prog 70 #[v,.func (.func 71) #[] #[.pointer (some ⟨F,0,none⟩),.pointer (some ⟨G,0,none⟩)],.func (.func 72) #[] #[]] w
   fun e w'=> ∃x d,e= .returned (.tuple #[x,d])∧aI w.heap.size w' x (bJ a b 0 L).1∧aL w.heap.size w' d (bC (bJ a b 0 L).2)∧Below w.heap.size w w':=by
 obtain⟨a0,ca,rfl⟩:=hv.len;have hn:L.length≤40000:=by have:=ry L;omega
 have HV:=zH hv;have HLN:=zH hl;have HL:=zH hL;have hF:=Po w _ c0;have hG:=Po w _ c1;simp only at hF hG;have HC:Hid (∀W,Below w.heap.size w W→W.cell? ⟨F,0,none⟩=some (.int .u8 a)∧W.cell? ⟨G,0,none⟩=some (.int .u8 b)):=zH (fun W hb=>⟨(hb.cell (p:=⟨F,0,none⟩) hF).trans c0,(hb.cell (p:=⟨G,0,none⟩) hG).trans c1⟩);clear c0 c1 hF hG;clear hv hl hL;go_enter Tryz.func70,Tryz.ntmps70
 go_wp2_with fail
 go_step3
 go_wp2_with fail
 go_step3
 go_wp2_with fail
 go_loopw [8,9,18] (fun s d i wr=> ∃j:Nat,j≤L.length∧i= .int .i64 (j:Int)∧Hid (aI w.heap.size wr s (bJ a b 0 (L.take j)).1)∧Hid (aL w.heap.size wr d (bC (bJ a b 0 (L.take j)).2))∧Hid (Below w.heap.size w wr)) (fun _ _ i _=>L.length-(intOf i).toNat)
 case atStart=>exact⟨0,Qr _,rfl,zH (ag.nil _ _),zH (ag.nil _ _),zH (OX _ _)⟩
 case round=>
  obtain⟨j,hj,rfl,HS,HD,HB⟩:=hrel
  by_cases hlt:j<L.length
  ·obtain⟨s0,hs0⟩: ∃s0,L[j]? =some s0:=⟨L[j],OU hlt⟩
   have HQ:=zH (Br (a:=a) (b:=b) hs0);have hlt':(j:Int)<(L.length:Int):=by omega
   have hj0:(0:Int)≤(j:Int):=by omega
   obtain⟨b0,o0,rfl,hc0⟩:=Ss.at (Fs.below HV.out HB.out) hs0;have hs2:s0.length≤2000:=HL.out s0 (P5 hs0);have HT:=zH (Bn j a b F G wr (by omega) (HC.out wr HB.out).1 (HC.out wr HB.out).2);have HLn:=zH (ui (jk a b j) (jk a b j) s0 wr hs2);unfold J4 at HLn;rw[ym (jk a b j) s0]at HLn;have hlg:(fO (jk a b j,jk a b j) (bK 0 (dec s0)).1).1=(lgS (jk a b j) s0).1:=rfl;rw[hlg]at HLn;obtain⟨fc,hfc⟩: ∃fc,(fO (jk a b j,jk a b j) (bK 0 (dec s0)).1).2=fc:=⟨_,rfl⟩;rw[hfc]at HLn;have hll:=mJ (jk a b j) s0;obtain⟨G,hG⟩: ∃G,lgS (jk a b j) s0=G:=⟨_,rfl⟩;rw[hG]at HLn hll HQ;obtain⟨n0,hn0⟩: ∃n0,(jk a b j)=n0:=⟨_,rfl⟩;rw[hn0]at HLn HT;have hXl:(bJ a b 0 (L.take j)).1.length≤40000∧(bJ a b 0 (L.take j)).2.length≤40000:=by
    have h1:=mi a b (L.take j) 0;have h2:=jH L j;have h3:=HLN.out
    try simp only[bJ,Pm]at h1 ⊢
    omega
   obtain⟨X,hX⟩: ∃X,bJ a b 0 (L.take j)=X:=⟨_,rfl⟩;rw[hX]at HS HD HQ hXl;have hdl: ∀l,(bC l).length=l.length:=fun l=>by unfold bC;simp
   have hd1:=hdl X.2;have hd2:=hdl G.2;obtain⟨sa,sc,rfl⟩:=(ag.sl ah HS.out).len;obtain⟨da,dc,rfl⟩:=(ag.sl ai HD.out).len;clear hlg hfc hG hn0 hX hs0 hdl;go_wp2_with fail
   refine HT.out.mono ?_;rintro e w9 ⟨rfl,rfl⟩;go_wp2_with fail
   refine HLn.out.mono ?_;rintro e w1 ⟨x,vd,rfl,o1,o2,b1⟩;have bl:=af w1 (.cells #[.int .u8 fc.1,.int .u8 fc.2] 28);have hz:=b1.size;have hz0:=HB.out.size;have s2:=(HS.out.keep b1).keep bl;have d2:=(HD.out.keep b1).keep bl;have B2:Below w.heap.size w (w1.alloc (.cells #[.int .u8 fc.1,.int .u8 fc.2] 28)):=(HB.out.trans (b1.mono hz0)).trans (bl.mono (by omega));obtain⟨d',w3,k1,p1,g1,-⟩:=gG d2 (ag.sl ai (o2.keep bl)) (by simp;omega) (by omega);have s3:aI w.heap.size w3 _ X.1:=ag.apart s2 g1 (bE s2 d2 (by decide));have x3:aI wr.heap.size w3 x G.1:=ag.apart (o1.keep bl) g1 (bE (o1.keep bl) d2 (by decide));have B3:Below w.heap.size w w3:=d2.below B2 (by simp;omega) g1;have z3:=g1.size;simp only[Pf]at z3;obtain⟨xa,xc,rfl⟩:=(ag.sl ah o1).len;obtain⟨va,vc,rfl⟩:=(ag.sl ai o2).len;obtain⟨da',dc',rfl⟩:=(ag.sl ai p1).len;have hQe:(bJ a b 0 (L.take (j+1)))=(X.1++G.1,X.2++G.2):=HQ.out;have HP1:Hid (aL w.heap.size w3 (.slice da' (bC X.2++bC G.2).length dc') (bC (bJ a b 0 (L.take (j+1))).2)):=zH (by
    rw[hQe];have e:bC (X.2++G.2)=bC X.2++bC G.2:=by unfold bC;simp
    show aL _ _ _ (bC (X.2++G.2));rw[e];exact p1)
   obtain⟨m2,hm2⟩: ∃m,(bC G.2).length=m:=⟨_,rfl⟩;obtain⟨m3,hm3⟩: ∃m,(bC X.2++bC G.2).length=m:=⟨_,rfl⟩;rw[hm3]at k1 HP1;rw[hd1,hm2]at k1;have HD':=zH HD.out;have S3:=zH s3;have X3:=zH x3;have BB:=zH B3;have S3':=S3;have hb3:=B3.size
   by_cases hG0:G.1=[]
   ·have hQ1:Hid ((bJ a b 0 (L.take (j+1))).1=X.1):=zH (by
     rw[hQe];show X.1++G.1=X.1;rw[hG0,Pn])
    exact QTS
   ·have hg0:0<G.1.length:=PS.2 hG0
    obtain⟨n1,hn1⟩: ∃n,G.1.length=n:=⟨_,rfl⟩;rw[hn1]at hg0 o1 hll;have hgn: ¬(n1:Int)=0:=by omega
    have HN1:=zH hn1;have hB3s:w.heap.size≤w3.heap.size:=by omega
    by_cases hX0:X.1=[]
    ·obtain⟨s',w5,k2,p2,g2,-⟩:=cB s3 (ag.sl ah x3) hB3s (by omega)
     have hd5:aL w.heap.size w5 (.slice da' m3 dc') (bC (bJ a b 0 (L.take (j+1))).2):=ag.apart HP1.out g2 (bE HP1.out s3 (by decide));have hb5:Below w.heap.size w w5:=s3.below B3 hB3s g2;have hQ1:Hid ((bJ a b 0 (L.take (j+1))).1=X.1++G.1):=zH (by
      rw[hQe]
      try rfl)
     exact QTR
    ·have hx0:0<X.1.length:=PS.2 hX0
     have HBT:=zH (Bj w3 S3.out hB3s (by omega));have HF:Hid (∀x' w4,aI w.heap.size w4 x' (X.1++ [])→Exc (fun k=>(Value.slice sa X.1.length sc).ownBlock=some k) w3 w4→ ∃s' w5,(appG #[x',.slice xa n1 xc]).run Tryz.prog w4= .ok (.value s') w5∧Hid (aI w.heap.size w5 s' (bJ a b 0 (L.take (j+1))).1)∧Hid (aL w.heap.size w5 (.slice da' m3 dc') (bC (bJ a b 0 (L.take (j+1))).2))∧Hid (Below w.heap.size w w5)):=zH (fun x' w4 q1 q2=>by
      have lt3: ∀{α:Type} {e n base:Nat} {f:α→List Value} {v:Value} {l:List α},ag e n f base w3 v l→ ∀k,v.ownBlock=some k→k<w3.heap.size:=fun h k e=>by
       obtain⟨-,cur,hc⟩:=h.ty e;exact(O5.1 hc).1
      have x4:aI wr.heap.size w4 (.slice xa G.1.length xc) G.1:=x3.kp (fun k e=>q2.block k (lt3 x3 k e) (fun e2=>by
       have h1:=(x3.ty e).1;obtain⟨-,cur,hc⟩:=HS.out.ty e2;have:=(O5.1 hc).1;omega))
      have d4:aL w.heap.size w4 (.slice da' m3 dc') (bC (bJ a b 0 (L.take (j+1))).2):=HP1.out.kp (fun k e=>q2.block k (lt3 HP1.out k e) (fun e2=>by
       rcases bE HP1.out s3 (by decide)with z | z
       ·rw[z]at e;cases e
       ·exact z (e.trans e2.symm)))
      have b4:Below w.heap.size w w4:=B3.trans (q2.below hB3s (fun k hk e=>by have:=(s3.ty e).1;omega));obtain⟨s',w5,k2,p2,g2,-⟩:=cB q1 (ag.sl ah x4) b4.size (by simp;omega);rw[hn1]at k2;refine⟨s',w5,k2,zH ?_,zH (ag.apart d4 g2 (bE d4 q1 (by decide))),zH (q1.below b4 b4.size g2)⟩;rw[hQe];show aI _ _ _ (X.1++G.1);rw[Pn]at p2;exact p2)
     have hxl:(0:Int)<(X.1.length:Int):=by omega
     obtain⟨nx,hnx⟩: ∃n,X.1.length=n:=⟨_,rfl⟩;rw[hnx]at hxl HBT HF;rw[hn1,hm2];clear o1 o2 b1 bl s2 d2 B2 p1 g1 s3 x3 B3 HT HLn hQe HQ HD X3 S3' hn1 hX0 hx0 HS S3;rw[hnx];clear hnx;go_wp2_with fail
     refine HBT.out.mono ?_;rintro e w4 ⟨x',rfl,q1,q2⟩;obtain⟨s',w5,k2,P2,D5,B5⟩:=HF.out x' w4 q1 q2;obtain⟨xa',xc',rfl⟩:=(ag.sl ah q1).len;obtain⟨sa',sc',rfl⟩:=(ag.sl ah P2.out).len;obtain⟨m6,hm6⟩: ∃m,(X.1++ []).length=m:=⟨_,rfl⟩;obtain⟨m7,hm7⟩: ∃m,(bJ a b 0 (L.take (j+1))).1.length=m:=⟨_,rfl⟩;rw[hm6,hm7]at k2;rw[hm6];rw[hm7]at P2;clear q1 q2 HF HBT hm6 hm7;go_wp2_with fail
     go_roundw
     case rel=>exact⟨j+1,by omega,by go_num,P2,D5,B5⟩
     case measure=>(simp[intOf];try omega)
  ·exact QTT
end
def JZ (w:World) (q:List Gly×List (Int×Int)) (e:Ending) (w':World):Prop:= ∃x d,e= .returned (.tuple #[x,d])∧aI w.heap.size w' x q.1∧aL w.heap.size w' d (bC q.2)∧Below w.heap.size w w'
theorem QTU {P:Prop}(h:P:=by
 go_wp2_with fail
 refine HE.out.mono ?_;rintro e w1 ⟨x,d,rfl,o1,o2,b1⟩;have H3:=zH (HF.out x d w1 o1 o2 b1);clear o1 o2 b1 HE HF;go_wp2_with fail
 go_ret2
 exact⟨_,_,rfl,H3.out⟩):P:=h
theorem nG (f:Int) (L:List Txt) (v:Value) (w:World) (hv:Ss w v L) (hl:lnT L≤40000) (hL: ∀s∈L,s.length≤2000):
  Calls Tryz.prog 34 #[.int .u8 f,v] w (JZ w (df f L)):=by
 have b1:=af w (.cells #[.int .u8 f] 5);have hbk:Blk (w.alloc (.cells #[.int .u8 f] 5)) w.heap.size 5 [.int .u8 f]:=O9 w _;have HE:=zH (Jm f w.heap.size L v (w.alloc (.cells #[.int .u8 f] 5)) (Fs.below hv b1) hl hL (hbk.cell 0));rw[←ig]at HE;have hz:(w.alloc (.cells #[.int .u8 f] 5)).heap.size=w.heap.size+1:=Pf ..;have HF:Hid (∀x d w',aI (w.alloc (.cells #[.int .u8 f] 5)).heap.size w' x (df f L).1→aL (w.alloc (.cells #[.int .u8 f] 5)).heap.size w' d (bC (df f L).2)→Below (w.alloc (.cells #[.int .u8 f] 5)).heap.size (w.alloc (.cells #[.int .u8 f] 5)) w'→aI w.heap.size w' x (df f L).1∧aL w.heap.size w' d (bC (df f L).2)∧Below w.heap.size w w'):=
  zH (fun x d w' h1 h2 h3=>⟨h1.mono (by omega),h2.mono (by omega),b1.trans (h3.mono (by omega))⟩)
 obtain⟨a0,c0,rfl⟩:=hv.len;clear hv hl hL b1 hbk hz;go_enter Tryz.func34,Tryz.ntmps34
 exact QTU
theorem Bv (a b:Int) (L:List Txt) (v:Value) (w:World) (hv:Ss w v L) (hl:lnT L≤40000) (hL: ∀s∈L,s.length≤2000):
  Calls Tryz.prog 36 #[.int .u8 a,.int .u8 b,v] w (JZ w (uU a b L)):=by
 rw[(nV L a b 0).1 rfl];have hb:=gF w (.cells #[.int .u8 a] 5) (.cells #[.int .u8 b] 5);have HE:=zH (Jn a b w.heap.size (w.heap.size+1) L v ((w.alloc (.cells #[.int .u8 a] 5)).alloc (.cells #[.int .u8 b] 5)) (Fs.below hv hb) hl hL ((jP w [.int .u8 a] 5 (.cells #[.int .u8 b] 5)).cell 0) ((nR w (.cells #[.int .u8 a] 5) [.int .u8 b] 5).cell 0));have hz:((w.alloc (.cells #[.int .u8 a] 5)).alloc (.cells #[.int .u8 b] 5)).heap.size=w.heap.size+1+1:=by simp
 obtain⟨W2,hW2⟩: ∃W2,(w.alloc (.cells #[.int .u8 a] 5)).alloc (.cells #[.int .u8 b] 5)=W2:=⟨_,rfl⟩;rw[hW2]at hb HE hz;have HF:Hid (∀x d w',aI W2.heap.size w' x (bJ a b 0 L).1→aL W2.heap.size w' d (bC (bJ a b 0 L).2)→Below W2.heap.size W2 w'→aI w.heap.size w' x (bJ a b 0 L).1∧aL w.heap.size w' d (bC (bJ a b 0 L).2)∧Below w.heap.size w w'):=
  zH (fun x d w' h1 h2 h3=>⟨h1.mono (by omega),h2.mono (by omega),hb.trans (h3.mono (by omega))⟩)
 obtain⟨a0,c0,rfl⟩:=hv.len;clear hv hl hL hb hz;go_enter Tryz.func36,Tryz.ntmps36
 exact QTU
theorem tZ (w:World):Calls Tryz.prog 35 #[.int .u8 66] w fun e w'=>e= .returned (.int .u8 1)∧w=w':=by
 go_enter Tryz.func35,Tryz.ntmps35
 go_wp2_with fail
 go_ret;exact⟨rfl,rfl⟩
theorem tY (w:World):Calls Tryz.prog 35 #[.int .u8 73] w fun e w'=>e= .returned (.int .u8 2)∧w=w':=by
 go_enter Tryz.func35,Tryz.ntmps35
 go_wp2_with fail
 go_ret;exact⟨rfl,rfl⟩
theorem xU (w:World):Calls Tryz.prog 35 #[.int .u8 82] w fun e w'=>e= .returned (.int .u8 0)∧w=w':=by
 go_enter Tryz.func35,Tryz.ntmps35
 go_wp2_with fail
 go_ret;exact⟨rfl,rfl⟩
def atL (ln:Int) (D:List Dg):List Dg:=D.map (fun x=>(x.1,ln,x.2.2))
theorem LP (ln:Int) (l:List (Int×Int)):atL ln (bC l)=cK ln l:=by
 unfold atL bC cK;rw[List.map_map];rfl
theorem rE (ln:Int) (D:List Dg):(atL ln D).length=D.length:=by unfold atL;simp
def atJ (ln:Int) (D:List Dg) (j:Nat):List Dg:=atL ln (D.take j)++D.drop j
theorem LQ (ln:Int) (D:List Dg) (j:Nat):(atJ ln D j).length=D.length:=by unfold atJ;rw[Pb,rE,Pg,Pi];omega
theorem JJ (ln:Int) {D:List Dg} {j:Nat} {d:Dg} (h:D[j]? =some d):(atJ ln D j)[j]? =some d:=by
 have hj:=(OV.1 h).1;unfold atJ;rw[Ps (by rw[rE,Pg];omega),rE,Pg,Rc (by omega),Qn]
 simpa using h
theorem JI (ln:Int) {D:List Dg} {j:Nat} {d:Dg} (h:D[j]? =some d):(atJ ln D j).set j (d.1,ln,d.2.2)=atJ ln D (j+1):=by
 have hj:=(OV.1 h).1;have hl:(atL ln (D.take j)).length=j:=by rw[rE,Pg];omega
 have hd:D.drop j=d::D.drop (j+1):=by
  rw[PX hj]
  congr 1
  exact(OV.1 h).2
 unfold atJ;rw[Q9 _ _ (by omega),hl,QW,hd,pR h];unfold atL;simp
theorem oQ (ln:Int) {base:Nat} {v:Value} {D:List Dg} (w:World) (h:aL base w v D) (hl:D.length≤1000000):
  Calls Tryz.prog 37 #[.int .i64 ln,v] w fun e w'=>e= .returned v∧aL base w' v (atL ln D)∧Exc (fun k=>v.ownBlock=some k) w w':=by
 obtain⟨a0,c0,rfl⟩:=(ag.sl ai h).len;have H0:=zH h;clear h;go_enter Tryz.func37,Tryz.ntmps37
 go_wp2_with fail
 go_loopw [5,8] (fun _ i wr=> ∃j:Nat,j≤D.length∧i= .int .i64 (j:Int)∧Hid (aL base wr (.slice a0 D.length c0) (atJ ln D j))∧Hid (Exc (fun k=>(Value.slice a0 D.length c0).ownBlock=some k) w wr)) (fun _ i _=>D.length-(intOf i).toNat)
 case atStart=>exact⟨0,Qr _,rfl,zH (by unfold atJ atL;simpa using H0.out),zH (Exc.refl _ _)⟩
 case round=>
  obtain⟨j,hj,rfl,HS,HE⟩:=hrel
  by_cases hlt:j<D.length
  ·obtain⟨d,hd⟩: ∃d,D[j]? =some d:=⟨D[j],OU hlt⟩
   have hlt':(j:Int)<(D.length:Int):=by omega
   have hj0:(0:Int)≤(j:Int):=by omega
   obtain⟨g,rfl,-,-⟩:=HS.out.addr (by rw[LQ];omega);have hsa:=HS.out.slotA ai (JJ ln hd) (i:=1) rfl;have c1:=hsa.1;have f1:=hsa.2;have HN:=zH (ag.set1 ai HS.out (JJ ln hd) (s':=(d.1,ln,d.2.2)) (i:=1) (u:= .int .i64 ln) (by omega) rfl);rw[JI ln hd]at HN;have HX:=zH (HE.out.set (j*3+1) (.int .i64 ln) (g:=g) (fun _=>rfl));clear hsa hd HS HE H0;go_wp2_with fail
   go_roundw
   case rel=>exact⟨j+1,by omega,by go_num,HN,HX⟩
   case measure=>(simp[intOf];try omega)
  ·obtain rfl:j=D.length:=by omega
   have hlt': ¬(D.length:Int)<(D.length:Int):=by omega
   have e:atJ ln D D.length=atL ln D:=by unfold atJ;simp
   rw[e]at HS;go_wp2_with fail
   go_ret;exact⟨rfl,HS.out,HE.out⟩
theorem IQ (a b:List (List Gly)):lens (a++b)=lens a+lens b:=by simp[lens]
section
variable {lg:Lgf} (hg: ∀s,(lg s).1.length≤s.length)
include hg
omit hg in
omit hg in
omit hg in
omit hg in
omit hg in
end
theorem uD (ln:Int) (l:List (Int×Int)):(cK ln l).length=l.length:=by simp[cK]
section
variable {lg:Lgf} (hg: ∀s,(lg s).2.length≤s.length)
include hg
omit hg in
omit hg in
omit hg in
end
end Go.Proofs.YtebabjnngdjceaaGreatDoor

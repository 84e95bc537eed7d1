/- The program's own for documents: a table's row, mended. -/
import Derived.Test.YtebabjnngdjceaaGreatDoorBs
import Derived.Laws.CopyOwn
import Derived.Laws.MakeOwn
import Derived.Test.YtebabjnngdjceaaGreatDoorZ0
set_option linter.unusedVariables false
set_option linter.unusedSimpArgs false
set_option maxRecDepth 100000
set_option maxHeartbeats 4000000
namespace Go.Proofs.YtebabjnngdjceaaGreatDoor
open Go.RowKit
section
def iY {α:Type} (z:α) (n:Nat) (l:List α):List α:=l.take n++List.replicate (n-l.length) z
theorem lS {α:Type} (z:α) (n:Nat) (l:List α):(iY z n l).length=n:=by unfold iY;simp;omega
theorem nK: ∀(n:Nat) (l:List (List Gly)),eQ n l=(iY [] n l).map sqz
 | 0,l=>by simp[eQ,iY]
 | n+1,[]=>by
  have ih:=nK n [];unfold eQ;rw[ih];simp[iY,List.replicate_succ,Dx]
 | n+1,c::l=>by
  have ih:=nK n l;unfold eQ;rw[ih];simp[iY]
theorem KC {α β:Type} (z:α) (z':β) (n:Nat) {l:List α} {m:List β} (h:l.length=m.length) {i:Nat} {x:α} {y:β} (hx:(iY z n l)[i]? =some x) (hy:(iY z' n m)[i]? =some y):(l[i]? =some x∧m[i]? =some y)∨(x=z∧y=z'):=by
 unfold iY at hx hy
 by_cases hi:i<(l.take n).length
 ·rw[PE hi]at hx
  have hi':i<(m.take n).length:=by rw[Pg]at hi ⊢;omega
  rw[PE hi']at hy;rw[Pg]at hi;rw[QX (by omega)]at hx hy;exact .inl ⟨hx,hy⟩
 ·rw[Ps (by omega)]at hx
  have hi': ¬i<(m.take n).length:=by rw[Pg]at hi ⊢;omega
  rw[Ps (by omega)]at hy;rw[List.getElem?_replicate]at hx hy
  split at hx<;>split at hy<;>simp at hx hy
  exact .inr ⟨hx.symm,hy.symm⟩
theorem lI.mono {base base':Nat} {W:World} {v:Value} {l:List (List Gly)} (h:lI base W v l) (hb:base'≤base):lI base' W v l:=by
 obtain⟨L,S,hL,hl,hS,hE⟩:=h.own;exact⟨⟨L,S,hL.mono hb,hl,fun b q=>⟨Pp hb (hS b q).1,(hS b q).2⟩,hE⟩⟩
theorem mI (L:List PV):(aA aS L).length=L.length:=by rw[bP bO];omega
noncomputable def IJ (a b:Value):Sem Value:=Instr.makeSlice 53 a b
theorem Co (a b:Value):Instr.makeSlice 53 a b=IJ a b:=rfl
noncomputable def Eo (args:Array Value):Sem Next:=do pure (.value (←Builtin.copy_ #[53,53] 3 args))
theorem vD (cs:Array Bool) (args:Array Value):builtin .copy #[53,53] 3 cs args=Eo args:=rfl
theorem FK (W:World) (n:Nat) (hn:n≤100000):(IJ (.int .i64 (n:Int)) (.int .i64 (n:Int))).run Tryz.prog W= .ok (.slice (some ⟨W.heap.size,0,none⟩) n n) (W.alloc (.cells (aA aS (List.replicate n aj)).toArray 26)):=by
 obtain⟨i0,hi,hz0,hz1,hz2⟩:=PU yx;have:=run_makeSlice (P:=Tryz.prog) W 53 26 i0 _ Tryz.underlying53 hi hz0 .i64 .i64 (n:Int) (n:Int) (by omega) (Int.le_refl _) (by rw[hz1];simp;omega) (by rw[hz2];omega) (by omega);unfold IJ;rw[this];simp only[QS,hz1];have e:(Value.slice none 0 0).cells= #[.slice none 0 0]:=rfl;rw[e];have e2:madeCells #[Value.slice none 0 0] (n*1)=(aA aS (List.replicate n aj)).toArray:=by
  apply Array.ext';rw[toList_madeCells_one,pW,List.map_replicate,QU];rfl
 rw[e2]
theorem Gp {base g:Nat} {W:World} {n:Nat} {L:List PV} {v:Value} (hd:ag 26 1 aS base W (.slice (some ⟨g,0,none⟩) n n) (List.replicate n aj)) (hb:Blk W g 26 (aA aS (List.replicate n aj))) (hs:Fs 1 aS W v L) (hm:n≤maxLen) (hbg:base≤g):
  ∃W',(Eo #[.slice (some ⟨g,0,none⟩) n n,v]).run Tryz.prog W= .ok (.value (.int .i64 ((min L.length n:Nat):Int))) W'∧ag 26 1 aS base W' (.slice (some ⟨g,0,none⟩) n n) (iY aj n L)∧Exc (fun b=>b=g) W W':=by
 obtain⟨i0,hi,hz0,hz1,hz2⟩:=PU yx;obtain⟨a,c,rfl,hc,hr⟩:=hs
 cases a with
 | none=>
  obtain rfl:L=[]:=by
   cases L with
   | nil=>rfl
   | cons x l=>obtain⟨g,off,h0,_⟩:=hr 0 x rfl;cases h0
  refine⟨W,?_,by simpa[iY] using hd,Exc.refl _ _⟩;unfold Eo;simp[Builtin.copy_,PZ Tryz.underlying53,Builtin.lenOf,Builtin.firstCells,sizeOf,typeInfo,hi,hz1,Result.andThen,goInt,storeCells]
 | some a=>
  have hcells: ∀j v,(aA aS (L.take n))[j]? =some v→W.cell? (a.add j)=some v:=by
   intro j v hj;obtain⟨q,i,y,rfl,hq,hi⟩:=jM bO _ j v hj;have hq':L[q]? =some y:=by
    have:=(OV.1 hq).1;rw[Pg]at this
    rwa [QX (by omega)]at hq
   obtain⟨g,off,hg,h0⟩:=hr q y hq';obtain rfl:=Ph hg;rw[Qo];exact h0 i v hi
  have hlen:(aA aS (L.take n)).length=Nat.min L.length n*1:=by rw[mI,Pg];show min n L.length=min L.length n*1;omega
  have hl:=run_loadCells_list (P:=Tryz.prog) W a (aA aS (L.take n)) hcells;have hfit:(aA aS (L.take n)).length≤(aA aS (List.replicate n aj)).length:=by rw[mI,mI,Pg,List.length_replicate];omega
  have hst:=run_storeCells_at (P:=Tryz.prog) g 0 26 (aA aS (L.take n)) 0 (aA aS (List.replicate n aj)).toArray W hb (by simpa using hfit) (fun v hv=>by
   simp only[aA,List.mem_flatten,QF]at hv;obtain⟨ys,⟨y,_,rfl⟩,hy⟩:=hv;exact pV y v hy)
  simp only[PW,Qu]at hst;have hcell: ∀A:Array Value,Blk W g 26 (aA aS (List.replicate n aj))→(W.setRow g A).heap[g]? =some (.cells A 26 (0,0)):=fun A h=>setRow_heap _ _ _ _ _ _ h
  obtain⟨A,hA⟩: ∃A,A=((aA aS (List.replicate n aj)).take 0++aA aS (L.take n)++(aA aS (List.replicate n aj)).drop (aA aS (L.take n)).length).toArray:=⟨_,rfl⟩;have hEq:(aA aS (List.replicate n aj)).take 0++aA aS (L.take n)++(aA aS (List.replicate n aj)).drop (aA aS (L.take n)).length=aA aS (iY aj n L):=by
   have e3:(aA aS (L.take n)).length=min n L.length:=by rw[mI,Pg]
   have e4:(aA aS (List.replicate n aj)).drop (min n L.length)=aA aS (List.replicate (n-L.length) aj):=by
    rw[pW,pW,List.map_replicate,List.map_replicate,List.drop_replicate,show n-min n L.length=n-L.length by omega]
   rw[List.take_zero,Qa,e3,e4];unfold iY;rw[di]
  have hrow:Blk (W.setRow g A) g 26 (aA aS (iY aj n L)):=by
   have h1:=hcell A hb;rw[hA,hEq]at h1;rw[hA,hEq];exact h1
  refine⟨W.setRow g A,?_,?_,?_⟩
  ·unfold Eo
   rw[hA];simp[Builtin.copy_,PZ Tryz.underlying53,Builtin.lenOf,Builtin.firstCells,sizeOf,typeInfo,hi,hz1,←hlen,hl,hst,Result.andThen,goInt]
  ·have:=Blk.fown (base:=base) (l:=iY aj n L) bO hrow hbg (by rw[lS];exact hm)
   rw[lS]at this;exact this
  ·exact⟨rfl,rfl,rfl,by simp[World.setRow],fun k hk hx=>setRow_other W g k A (fun e=>hx (by omega))⟩
attribute [local go_sem ↓ high] Co vD
def Ov (b:Bool) (m:List (List Gly)) (w:World) (e:Ending) (w':World):Prop:= ∃s:PV,e= .returned (.agg (bY (b,s)).toArray)∧lI w.heap.size w' (pv s) m∧Below w.heap.size w w'
theorem xJ (S:Nat→Prop) (x:Bool×PV) (r:dm) (n:Nat) (w:World) (hx:x.1=r.1) (hv:GrS S w (pv x.2) r.2) (hS: ∀b,S b→b<w.heap.size) (h1:1≤n) (hn:n≤1000) (hl:r.2.length+lens r.2≤90000):
  Calls Tryz.prog 166 #[.agg (bY x).toArray,.int .i64 (n:Int)] w (Ov r.1 (fT n r).2 w):=by
 obtain⟨x1,⟨x2,x3,x4⟩⟩:=x;obtain⟨b,l⟩:=r;simp only at hx hv hl;subst hx;obtain⟨L,hLl,hLv,hLr⟩:=hv;have b2:=Nw w (.cells (bY (x1,(x2,x3,x4))).toArray 90) (.cells ([.bool false,.slice none 0 0]:List Value).toArray 90)
 cases x1
 ·have hmr:(fT n (false,l)).2=(iY [] n l).map sqz:=by rw[←nK];rfl
  rw[hmr];clear hmr;obtain⟨W1,hW1⟩: ∃W,W=(w.alloc (.cells (bY (false,(x2,x3,x4))).toArray 90)).alloc (.cells ([.bool false,.slice none 0 0]:List Value).toArray 90):=⟨_,rfl⟩;rw[←hW1]at b2;have hz1:W1.heap.size=w.heap.size+2:=by rw[hW1,Pf,Pf]
  have hX:Blk W1 w.heap.size 90 (bY (false,(x2,x3,x4))):=by rw[hW1];exact(Ql _ _ (by simp)).trans (O9 w _)
  have hR:Blk W1 (w.heap.size+1) 90 [.bool false,.slice none 0 0]:=by
   have:=O9 (w.alloc (.cells (bY (false,(x2,x3,x4))).toArray 90)) (.cells ([.bool false,.slice none 0 0]:List Value).toArray 90);rw[Pf,←hW1]at this;exact this
  have hmk:=FK W1 n (by omega);obtain⟨W2,hW2⟩: ∃W,W=W1.alloc (.cells (aA aS (List.replicate n aj)).toArray 26):=⟨_,rfl⟩;rw[←hW2]at hmk;have b3:Below W1.heap.size W1 W2:=by rw[hW2];exact af _ _
  have hB2:Blk W2 W1.heap.size 26 (aA aS (List.replicate n aj)):=by rw[hW2];exact O9 W1 _
  have hO2:ag 26 1 aS W1.heap.size W2 (.slice (some ⟨W1.heap.size,0,none⟩) n n) (List.replicate n aj):=by
   have:=jL (e:=26) bO W1 (OW _) (List.replicate n aj) (by rw[List.length_replicate];unfold maxLen;omega);rw[List.length_replicate,←hW2]at this;exact this
  have hs2:Fs 1 aS W2 (pv (x2,x3,x4)) L:=Fs.below (Fs.below hLv.1 b2) b3;obtain⟨W3,hcp,hO3,hE3⟩:=Gp hO2 hB2 hs2 (by unfold maxLen;omega) (OW _);have hX2:=hX.below b3;have x4':W2.cell? ⟨w.heap.size,1,none⟩=some (.slice x2 x3 x4):=hX2.cell 1;have hR3:=zH (hE3.blk (hR.below b3) (by omega));have hB3:Below w.heap.size w W3:=(b2.trans (b3.mono (by omega))).trans (hE3.below (by have:=b3.size;omega) (fun b hb e=>by omega));have HR0:Hid (nz S sqz W1.heap.size W3 (.slice (some ⟨W1.heap.size,0,none⟩) n n) (iY [] n l) 0):=zH ⟨fun b hb=>by have:=hS b hb;omega,by have:=b3.size;have:=hE3.size;omega,⟨iY aj n L,fun _=>False,hO3,by rw[lS,lS],fun _ h=>h.elim,fun i s r h=>by omega,fun i s r _ hs hr=>by
   rcases KC aj [] n hLl hs hr with⟨q1,q2⟩| ⟨rfl,rfl⟩
   ·exact(hLr i s r q1 q2).keep (Kp.below hB3 hS)
   ·exact FsS.nil _ _ _ _⟩⟩
  have hlens: ∀(j:Nat) r,(iY [] n l)[j]? =some r→r.length≤90000:=fun j r hr=>by
   unfold iY at hr;have hm:=P5 hr;rcases QP.1 hm with q | q
   ·obtain⟨i,hi⟩:=Qw.1 (Qb q)
    have:=kH hi;omega
   ·rw[(List.mem_replicate.1 q).2]
    simp
  have HLE:=zH hlens;have HB3:=zH hB3;have HZ1:=zH hz1;have hpl:(iY ([]:List Gly) n l).length=n:=lS _ _ _;have HPL:=zH hpl;obtain⟨M,hM⟩: ∃M,iY ([]:List Gly) n l=M:=⟨_,rfl⟩;rw[hM]at HR0 HLE HPL ⊢;obtain⟨G,hG⟩: ∃G,W1.heap.size=G:=⟨_,rfl⟩;rw[hG]at HR0 hmk hcp HZ1;simp only[bY,pv]at hW1 hcp ⊢;subst hW1;clear b2 b3 hX hR hB2 hO2 hO3 hE3 hX2 hB3 hs2 hLv hLr hS hW2 hlens hpl hz1 hM hG hLl hl;go_enter Tryz.func166,Tryz.ntmps166
  go_wp2_with fail
  go_loopw [6,7,19] (fun _ _ i wr=> ∃j:Nat,j≤n∧i= .int .i64 j∧Hid (nz S sqz G wr (.slice (some ⟨G,0,none⟩) n n) M j)∧Hid (Below w.heap.size w wr)∧Hid (Blk wr (w.heap.size+1) 90 [.bool false,.slice none 0 0])) (fun _ _ i _=>n-(intOf i).toNat)
  case atStart=>exact⟨0,by omega,rfl,HR0,HB3,hR3⟩
  case round=>
   obtain⟨j,hj,rfl,HR,BW,HRB⟩:=hrel;clear HR0 HB3 hR3
   by_cases hlt:j<n
   ·obtain⟨r,hr⟩: ∃r,M[j]? =some r:=⟨M[j]'(by rw[HPL.out];exact hlt),OU _⟩
    obtain⟨g,⟨s1,s2,s3⟩,hgg,c0,f0,hs⟩:=HR.out.at hr;injection hgg with hgg
    injection hgg with hgg
    subst hgg;simp only[pv]at c0 hs;have HG:=zH (oF r _ wr hs.1 (HLE.out j r hr));have hi0:(j:Int)<(n:Int):=by omega
    have hi1:(0:Int)≤(j:Int):=by omega
    have HRR:=zH hr;have HSZ:=zH (Po wr _ c0);clear hr hs;go_wp2_with fail
    refine HG.out.mono ?_;rintro e w2 ⟨u,rfl,ho,b2⟩;obtain⟨u1,u3,e2⟩:=(ag.sl ah ho).len;obtain⟨k1,k2⟩:=HR.out.step b2 HRR.out (s:=(u1,(sqz r).length,u3)) (by unfold pv;rw[←e2];exact ho);simp only[pv]at k1 k2;subst e2;have c2:w2.cell? ⟨G,j,none⟩=some (.slice s1 s2 s3):=(b2.cell (p:=⟨G,j,none⟩) HSZ.out).trans c0;have f2:w2.frozen? ⟨G,j,none⟩=false:=(b2.frozen (p:=⟨G,j,none⟩) HSZ.out).trans f0;have K1:=zH k1;have K2:=zH (BW.out.trans (k2.below BW.out.size (fun b hb e=>by have:=HZ1.out;omega)));have K3:=zH (k2.blk HRB.out (by have:=HZ1.out;omega));obtain⟨q,hq⟩: ∃q,(sqz r).length=q:=⟨_,rfl⟩;rw[hq]at K1 K2 K3 ⊢;clear k1 k2 ho b2 HG c0 f0 hq;go_wp2_with fail
    go_roundw
    case rel=>exact⟨j+1,by omega,by go_num,K1,K2,K3⟩
    case measure=>(simp[intOf];try omega)
   ·obtain rfl:j=n:=by omega
    have hlt': ¬(j:Int)<(j:Int):=by omega
    have hd:=HR.out;have hj2:Hid (nz S sqz G wr (.slice (some ⟨G,0,none⟩) j j) M M.length):=zH (by rw[HPL.out];exact hd);have HD:=zH hj2.out.done;have x0:=HRB.out.cell 0;have x1:=HRB.out.cell 1;have y0:wr.frozen? ⟨w.heap.size+1,0,none⟩=false:=HRB.out.frozen (by simp);have y1:wr.frozen? ⟨w.heap.size+1,1,none⟩=false:=HRB.out.frozen (by simp);simp only[OY,OZ]at x0 x1;have HBL:=zH ((HRB.out.set 0 (.bool false)).set 1 (.slice (some ⟨G,0,none⟩) j j));clear hd hj2 HR;go_wp2_with fail
    have B7:=HBL.out;have k0:=B7.cell 0;have k1:=B7.cell 1;simp at k0 k1;refine Pq (v:= .agg #[.bool false,.slice (some ⟨G,0,none⟩) j j]) (by simp[results,Tryz.results166,go_sem,k0,k1]) rfl ?_;refine⟨(some ⟨G,0,none⟩,j,j),rfl,?_,?_⟩
    ·have h1:=HRB.out
     have h2:=h1.set 0 (.bool false);exact((HD.out.mono (by have:=HZ1.out;omega)).sam (dw.set h1 (by decide) 0 _) (dw.set h1 (by decide) 0 _)).sam (dw.set h2 (by decide) 1 _) (dw.set h2 (by decide) 1 _)
    ·exact(BW.out.setCell (by show w.heap.size≤w.heap.size+1;omega) _).setCell (by show w.heap.size≤w.heap.size+1;omega) _
 ·have hmr:(fT n (true,l)).2=[]:=rfl
  rw[hmr];clear hmr;have B2:=zH b2;simp only[bY,pv]at B2 ⊢;clear hLv hLr hS hLl b2;go_enter Tryz.func166,Tryz.ntmps166
  go_wp2_with fail
  refine Pq (v:= .agg #[.bool true,.slice none 0 0]) (by simp[results,Tryz.results166,go_sem]) rfl ?_;refine⟨aj,rfl,lI.nil _ _,?_⟩;exact((OX _ w).alloc (OW _) _).alloc (by simp) _
end
end Go.Proofs.YtebabjnngdjceaaGreatDoor

/- The program's own for documents: a table's row, mended. -/
import Derived.Test.YtebabjnngdjceaaGreatDoorBs
import Derived.Laws.CopyOwn
import Derived.Laws.MakeOwn
import Derived.Test.YtebabjnngdjceaaGreatDoorZ0
set_option linter.unusedVariables false
set_option linter.unusedSimpArgs false
set_option maxRecDepth 100000
set_option maxHeartbeats 4000000
namespace Go.Proofs.YtebabjnngdjceaaGreatDoor
open Go.RowKit
section
def iN {α:Type} (z:α) (n:Nat) (l:List α):List α:=l.take n++List.replicate (n-l.length) z
theorem jZ {α:Type} (z:α) (n:Nat) (l:List α):(iN z n l).length=n:=by unfold iN;simp;omega
theorem l8: ∀(n:Nat) (l:List (List Gly)),fE n l=(iN [] n l).map sqz
 | 0,l=>by simp[fE,iN]
 | n+1,[]=>by
  have ih:=l8 n [];unfold fE;rw[ih];simp[iN,List.replicate_succ,Bz]
 | n+1,c::l=>by
  have ih:=l8 n l;unfold fE;rw[ih];simp[iN]
theorem IB {α β:Type} (z:α) (z':β) (n:Nat) {l:List α} {m:List β} (h:l.length=m.length) {i:Nat} {x:α} {y:β} (hx:(iN z n l)[i]? =some x) (hy:(iN z' n m)[i]? =some y):(l[i]? =some x∧m[i]? =some y)∨(x=z∧y=z'):=by
 unfold iN at hx hy
 by_cases hi:i<(l.take n).length
 ·rw[MV hi]at hx
  have hi':i<(m.take n).length:=by rw[ML]at hi ⊢;omega
  rw[MV hi']at hy;rw[ML]at hi;rw[List.getElem?_take_of_lt (by omega)]at hx hy;exact .inl ⟨hx,hy⟩
 ·rw[MR (by omega)]at hx
  have hi': ¬i<(m.take n).length:=by rw[ML]at hi ⊢;omega
  rw[MR (by omega)]at hy;rw[List.getElem?_replicate]at hx hy
  split at hx<;>split at hy<;>simp at hx hy
  exact .inr ⟨hx.symm,hy.symm⟩
theorem jS.mono {base base':Nat} {W:World} {v:Value} {l:List (List Gly)} (h:jS base W v l) (hb:base'≤base):jS base' W v l:=by
 obtain⟨L,S,hL,hl,hS,hE⟩:=h.own;exact⟨⟨L,S,hL.mono hb,hl,fun b q=>⟨MP hb (hS b q).1,(hS b q).2⟩,hE⟩⟩
theorem lw (L:List PV):(az aQ L).length=L.length:=by rw[bN bH];omega
noncomputable def FZ (a b:Value):Sem Value:=Instr.makeSlice 53 a b
theorem Ak (a b:Value):Instr.makeSlice 53 a b=FZ a b:=rfl
noncomputable def Ct (args:Array Value):Sem Next:=do pure (.value (←Builtin.copy_ #[53,53] 3 args))
theorem tF (cs:Array Bool) (args:Array Value):builtin .copy #[53,53] 3 cs args=Ct args:=rfl
theorem DF (W:World) (n:Nat) (hn:n≤100000):(FZ (.int .i64 (n:Int)) (.int .i64 (n:Int))).run Tryz.prog W= .ok (.slice (some ⟨W.heap.size,0,none⟩) n n) (W.alloc (.cells (az aQ (List.replicate n aj)).toArray 26)):=by
 obtain⟨i0,hi,hz0,hz1,hz2⟩:=Ng wh;have:=run_makeSlice (P:=Tryz.prog) W 53 26 i0 _ Tryz.underlying53 hi hz0 .i64 .i64 (n:Int) (n:Int) (by omega) (Int.le_refl _) (by rw[hz1];simp;omega) (by rw[hz2];omega) (by omega);unfold FZ;rw[this];simp only[Og,hz1];have e:(Value.slice none 0 0).cells= #[.slice none 0 0]:=rfl;rw[e];have e2:madeCells #[Value.slice none 0 0] (n*1)=(az aQ (List.replicate n aj)).toArray:=by
  apply Array.ext';rw[toList_madeCells_one,nZ,List.map_replicate,Oz];rfl
 rw[e2]
theorem Em {base g:Nat} {W:World} {n:Nat} {L:List PV} {v:Value} (hd:ag 26 1 aQ base W (.slice (some ⟨g,0,none⟩) n n) (List.replicate n aj)) (hb:Blk W g 26 (az aQ (List.replicate n aj))) (hs:Fs 1 aQ W v L) (hm:n≤maxLen) (hbg:base≤g):
  ∃W',(Ct #[.slice (some ⟨g,0,none⟩) n n,v]).run Tryz.prog W= .ok (.value (.int .i64 ((min L.length n:Nat):Int))) W'∧ag 26 1 aQ base W' (.slice (some ⟨g,0,none⟩) n n) (iN aj n L)∧Exc (fun b=>b=g) W W':=by
 obtain⟨i0,hi,hz0,hz1,hz2⟩:=Ng wh;obtain⟨a,c,rfl,hc,hr⟩:=hs
 cases a with
 | none=>
  obtain rfl:L=[]:=by
   cases L with
   | nil=>rfl
   | cons x l=>obtain⟨g,off,h0,_⟩:=hr 0 x rfl;cases h0
  refine⟨W,?_,by simpa[iN] using hd,Exc.refl _ _⟩;unfold Ct;simp[Builtin.copy_,Nt Tryz.underlying53,Builtin.lenOf,Builtin.firstCells,sizeOf,typeInfo,hi,hz1,Result.andThen,goInt,storeCells]
 | some a=>
  have hcells: ∀j v,(az aQ (L.take n))[j]? =some v→W.cell? (a.add j)=some v:=by
   intro j v hj;obtain⟨q,i,y,rfl,hq,hi⟩:=jk bH _ j v hj;have hq':L[q]? =some y:=by
    have:=(Mm.1 hq).1;rw[ML]at this
    rwa [List.getElem?_take_of_lt (by omega)]at hq
   obtain⟨g,off,hg,h0⟩:=hr q y hq';obtain rfl:=MH hg;rw[NS];exact h0 i v hi
  have hlen:(az aQ (L.take n)).length=Nat.min L.length n*1:=by rw[lw,ML];show min n L.length=min L.length n*1;omega
  have hl:=run_loadCells_list (P:=Tryz.prog) W a (az aQ (L.take n)) hcells;have hfit:(az aQ (L.take n)).length≤(az aQ (List.replicate n aj)).length:=by rw[lw,lw,ML,List.length_replicate];omega
  have hst:=run_storeCells_at (P:=Tryz.prog) g 0 26 (az aQ (L.take n)) 0 (az aQ (List.replicate n aj)).toArray W hb (by simpa using hfit) (fun v hv=>by
   simp only[az,List.mem_flatten,List.mem_map]at hv;obtain⟨ys,⟨y,_,rfl⟩,hy⟩:=hv;exact nY y v hy)
  simp only[Nq,N9]at hst;have hcell: ∀A:Array Value,Blk W g 26 (az aQ (List.replicate n aj))→(W.setRow g A).heap[g]? =some (.cells A 26 (0,0)):=fun A h=>setRow_heap _ _ _ _ _ _ h
  obtain⟨A,hA⟩: ∃A,A=((az aQ (List.replicate n aj)).take 0++az aQ (L.take n)++(az aQ (List.replicate n aj)).drop (az aQ (L.take n)).length).toArray:=⟨_,rfl⟩;have hEq:(az aQ (List.replicate n aj)).take 0++az aQ (L.take n)++(az aQ (List.replicate n aj)).drop (az aQ (L.take n)).length=az aQ (iN aj n L):=by
   have e3:(az aQ (L.take n)).length=min n L.length:=by rw[lw,ML]
   have e4:(az aQ (List.replicate n aj)).drop (min n L.length)=az aQ (List.replicate (n-L.length) aj):=by
    rw[nZ,nZ,List.map_replicate,List.map_replicate,List.drop_replicate,show n-min n L.length=n-L.length by omega]
   rw[List.take_zero,Nk,e3,e4];unfold iN;rw[cB]
  have hrow:Blk (W.setRow g A) g 26 (az aQ (iN aj n L)):=by
   have h1:=hcell A hb;rw[hA,hEq]at h1;rw[hA,hEq];exact h1
  refine⟨W.setRow g A,?_,?_,?_⟩
  ·unfold Ct
   rw[hA];simp[Builtin.copy_,Nt Tryz.underlying53,Builtin.lenOf,Builtin.firstCells,sizeOf,typeInfo,hi,hz1,←hlen,hl,hst,Result.andThen,goInt]
  ·have:=Blk.fown (base:=base) (l:=iN aj n L) bH hrow hbg (by rw[jZ];exact hm)
   rw[jZ]at this;exact this
  ·exact⟨rfl,rfl,rfl,by simp[World.setRow],fun k hk hx=>setRow_other W g k A (fun e=>hx (by omega))⟩
attribute [local go_sem ↓ high] Ak tF
def LM (b:Bool) (m:List (List Gly)) (w:World) (e:Ending) (w':World):Prop:= ∃s:PV,e= .returned (.agg (bU (b,s)).toArray)∧jS w.heap.size w' (pv s) m∧Below w.heap.size w w'
theorem vJ (S:Nat→Prop) (x:Bool×PV) (r:dC) (n:Nat) (w:World) (hx:x.1=r.1) (hv:GrS S w (pv x.2) r.2) (hS: ∀b,S b→b<w.heap.size) (h1:1≤n) (hn:n≤1000) (hl:r.2.length+lens r.2≤90000):
  Calls Tryz.prog 166 #[.agg (bU x).toArray,.int .i64 (n:Int)] w (LM r.1 (iD n r).2 w):=by
 obtain⟨x1,⟨x2,x3,x4⟩⟩:=x;obtain⟨b,l⟩:=r;simp only at hx hv hl;subst hx;obtain⟨L,hLl,hLv,hLr⟩:=hv;have b2:=KM w (.cells (bU (x1,(x2,x3,x4))).toArray 90) (.cells ([.bool false,.slice none 0 0]:List Value).toArray 90)
 cases x1
 ·have hmr:(iD n (false,l)).2=(iN [] n l).map sqz:=by rw[←l8];rfl
  rw[hmr];clear hmr;obtain⟨W1,hW1⟩: ∃W,W=(w.alloc (.cells (bU (false,(x2,x3,x4))).toArray 90)).alloc (.cells ([.bool false,.slice none 0 0]:List Value).toArray 90):=⟨_,rfl⟩;rw[←hW1]at b2;have hz1:W1.heap.size=w.heap.size+2:=by rw[hW1,MG,MG]
  have hX:Blk W1 w.heap.size 90 (bU (false,(x2,x3,x4))):=by rw[hW1];exact(Nw _ _ (by simp)).trans (Mw w _)
  have hR:Blk W1 (w.heap.size+1) 90 [.bool false,.slice none 0 0]:=by
   have:=Mw (w.alloc (.cells (bU (false,(x2,x3,x4))).toArray 90)) (.cells ([.bool false,.slice none 0 0]:List Value).toArray 90);rw[MG,←hW1]at this;exact this
  have hmk:=DF W1 n (by omega);obtain⟨W2,hW2⟩: ∃W,W=W1.alloc (.cells (az aQ (List.replicate n aj)).toArray 26):=⟨_,rfl⟩;rw[←hW2]at hmk;have b3:Below W1.heap.size W1 W2:=by rw[hW2];exact af _ _
  have hB2:Blk W2 W1.heap.size 26 (az aQ (List.replicate n aj)):=by rw[hW2];exact Mw W1 _
  have hO2:ag 26 1 aQ W1.heap.size W2 (.slice (some ⟨W1.heap.size,0,none⟩) n n) (List.replicate n aj):=by
   have:=fF (e:=26) bH W1 (Mo _) (List.replicate n aj) (by rw[List.length_replicate];unfold maxLen;omega);rw[List.length_replicate,←hW2]at this;exact this
  have hs2:Fs 1 aQ W2 (pv (x2,x3,x4)) L:=Fs.below (Fs.below hLv.1 b2) b3;obtain⟨W3,hcp,hO3,hE3⟩:=Em hO2 hB2 hs2 (by unfold maxLen;omega) (Mo _);have hX2:=hX.below b3;have x4':W2.cell? ⟨w.heap.size,1,none⟩=some (.slice x2 x3 x4):=hX2.cell 1;have hR3:=zH (hE3.blk (hR.below b3) (by omega));have hB3:Below w.heap.size w W3:=(b2.trans (b3.mono (by omega))).trans (hE3.below (by have:=b3.size;omega) (fun b hb e=>by omega));have HR0:Hid (lU S sqz W1.heap.size W3 (.slice (some ⟨W1.heap.size,0,none⟩) n n) (iN [] n l) 0):=zH ⟨fun b hb=>by have:=hS b hb;omega,by have:=b3.size;have:=hE3.size;omega,⟨iN aj n L,fun _=>False,hO3,by rw[jZ,jZ],fun _ h=>h.elim,fun i s r h=>by omega,fun i s r _ hs hr=>by
   rcases IB aj [] n hLl hs hr with⟨q1,q2⟩| ⟨rfl,rfl⟩
   ·exact(hLr i s r q1 q2).keep (Kp.below hB3 hS)
   ·exact FsS.nil _ _ _ _⟩⟩
  have hlens: ∀(j:Nat) r,(iN [] n l)[j]? =some r→r.length≤90000:=fun j r hr=>by
   unfold iN at hr;have hm:=NN hr;rcases List.mem_append.1 hm with q | q
   ·obtain⟨i,hi⟩:=NH.1 (NZ q)
    have:=nC hi;omega
   ·rw[(List.mem_replicate.1 q).2]
    simp
  have HLE:=zH hlens;have HB3:=zH hB3;have HZ1:=zH hz1;have hpl:(iN ([]:List Gly) n l).length=n:=jZ _ _ _;have HPL:=zH hpl;obtain⟨M,hM⟩: ∃M,iN ([]:List Gly) n l=M:=⟨_,rfl⟩;rw[hM]at HR0 HLE HPL ⊢;obtain⟨G,hG⟩: ∃G,W1.heap.size=G:=⟨_,rfl⟩;rw[hG]at HR0 hmk hcp HZ1;simp only[bU,pv]at hW1 hcp ⊢;subst hW1;clear b2 b3 hX hR hB2 hO2 hO3 hE3 hX2 hB3 hs2 hLv hLr hS hW2 hlens hpl hz1 hM hG hLl hl;go_enter Tryz.func166,Tryz.ntmps166
  go_wp2_with fail
  go_loopw [6,7,19] (fun _ _ i wr=> ∃j:Nat,j≤n∧i= .int .i64 j∧Hid (lU S sqz G wr (.slice (some ⟨G,0,none⟩) n n) M j)∧Hid (Below w.heap.size w wr)∧Hid (Blk wr (w.heap.size+1) 90 [.bool false,.slice none 0 0])) (fun _ _ i _=>n-(intOf i).toNat)
  case atStart=>exact⟨0,by omega,rfl,HR0,HB3,hR3⟩
  case round=>
   obtain⟨j,hj,rfl,HR,BW,HRB⟩:=hrel;clear HR0 HB3 hR3
   by_cases hlt:j<n
   ·obtain⟨r,hr⟩: ∃r,M[j]? =some r:=⟨M[j]'(by rw[HPL.out];exact hlt),Mq _⟩
    obtain⟨g,⟨s1,s2,s3⟩,hgg,c0,f0,hs⟩:=HR.out.at hr;injection hgg with hgg
    injection hgg with hgg
    subst hgg;simp only[pv]at c0 hs;have HG:=zH (mR r _ wr hs.1 (HLE.out j r hr));have hi0:(j:Int)<(n:Int):=by omega
    have hi1:(0:Int)≤(j:Int):=by omega
    have HRR:=zH hr;have HSZ:=zH (MN wr _ c0);clear hr hs;go_wp2_with fail
    refine HG.out.mono ?_;rintro e w2 ⟨u,rfl,ho,b2⟩;obtain⟨u1,u3,e2⟩:=(ag.sl ai ho).len;obtain⟨k1,k2⟩:=HR.out.step b2 HRR.out (s:=(u1,(sqz r).length,u3)) (by unfold pv;rw[←e2];exact ho);simp only[pv]at k1 k2;subst e2;have c2:w2.cell? ⟨G,j,none⟩=some (.slice s1 s2 s3):=(b2.cell (p:=⟨G,j,none⟩) HSZ.out).trans c0;have f2:w2.frozen? ⟨G,j,none⟩=false:=(b2.frozen (p:=⟨G,j,none⟩) HSZ.out).trans f0;have K1:=zH k1;have K2:=zH (BW.out.trans (k2.below BW.out.size (fun b hb e=>by have:=HZ1.out;omega)));have K3:=zH (k2.blk HRB.out (by have:=HZ1.out;omega));obtain⟨q,hq⟩: ∃q,(sqz r).length=q:=⟨_,rfl⟩;rw[hq]at K1 K2 K3 ⊢;clear k1 k2 ho b2 HG c0 f0 hq;go_wp2_with fail
    go_roundw
    case rel=>exact⟨j+1,by omega,by go_num,K1,K2,K3⟩
    case measure=>(simp[intOf];try omega)
   ·obtain rfl:j=n:=by omega
    have hlt': ¬(j:Int)<(j:Int):=by omega
    have hd:=HR.out;have hj2:Hid (lU S sqz G wr (.slice (some ⟨G,0,none⟩) j j) M M.length):=zH (by rw[HPL.out];exact hd);have HD:=zH hj2.out.done;have x0:=HRB.out.cell 0;have x1:=HRB.out.cell 1;have y0:wr.frozen? ⟨w.heap.size+1,0,none⟩=false:=HRB.out.frozen (by simp);have y1:wr.frozen? ⟨w.heap.size+1,1,none⟩=false:=HRB.out.frozen (by simp);simp only[Ml,Mk]at x0 x1;have HBL:=zH ((HRB.out.set 0 (.bool false)).set 1 (.slice (some ⟨G,0,none⟩) j j));clear hd hj2 HR;go_wp2_with fail
    have B7:=HBL.out;have k0:=B7.cell 0;have k1:=B7.cell 1;simp at k0 k1;refine Nf (v:= .agg #[.bool false,.slice (some ⟨G,0,none⟩) j j]) (by simp[results,Tryz.results166,go_sem,k0,k1]) rfl ?_;refine⟨(some ⟨G,0,none⟩,j,j),rfl,?_,?_⟩
    ·have h1:=HRB.out
     have h2:=h1.set 0 (.bool false);exact((HD.out.mono (by have:=HZ1.out;omega)).sam (cK.set h1 (by decide) 0 _) (cK.set h1 (by decide) 0 _)).sam (cK.set h2 (by decide) 1 _) (cK.set h2 (by decide) 1 _)
    ·exact(BW.out.setCell (by show w.heap.size≤w.heap.size+1;omega) _).setCell (by show w.heap.size≤w.heap.size+1;omega) _
 ·have hmr:(iD n (true,l)).2=[]:=rfl
  rw[hmr];clear hmr;have B2:=zH b2;simp only[bU,pv]at B2 ⊢;clear hLv hLr hS hLl b2;go_enter Tryz.func166,Tryz.ntmps166
  go_wp2_with fail
  refine Nf (v:= .agg #[.bool true,.slice none 0 0]) (by simp[results,Tryz.results166,go_sem]) rfl ?_;refine⟨aj,rfl,jS.nil _ _,?_⟩;exact((Mr _ w).alloc (Mo _) _).alloc (by simp) _
end
end Go.Proofs.YtebabjnngdjceaaGreatDoor

/- The program's builder: Text. -/
import Derived.Test.YtebabjnngdjceaaGreatDoorCf
import Derived.Test.YtebabjnngdjceaaGreatDoorBs
import Derived.Test.YtebabjnngdjceaaGreatDoorDa
import Derived.Deep.RegionHeld3
import Derived.Test.YtebabjnngdjceaaGreatDoorZ0
set_option linter.unusedVariables false
set_option linter.unusedSimpArgs false
set_option maxRecDepth 100000
set_option maxHeartbeats 8000000
namespace Go.Proofs.YtebabjnngdjceaaGreatDoor
open Go.RowKit
section
theorem BM.begin {X R:Nat→Prop} {w:World} {b:Nat} {t:Bt} (h:BM true X R w b t) (hh:t.has=false) (i:Int):
  w.frozen? ⟨b,6,none⟩=false∧AfC true X R b {t with has:=true,line:=i} w ((w.setCell ⟨b,6,none⟩ (.pointer (some ⟨w.heap.size,0,none⟩))).alloc (.cells (ae (iN i aj)).toArray 58)):=by
 obtain⟨kv,ov,pa,LO,lab,h1,h2⟩:=h;obtain⟨rfl,ht,hl⟩:pa= .pointer none∧t.text=[]∧t.line=0:=by
  rcases h1.para with⟨-,q⟩| ⟨q,-⟩
  ·exact q
  ·rw[hh]at q;cases q
 refine⟨h1.box.frozen (by simp[bM]),?_⟩;obtain⟨W0,hW0⟩: ∃W,w.setCell ⟨b,6,none⟩ (.pointer (some ⟨w.heap.size,0,none⟩))=W:=⟨_,rfl⟩;have hz0:W0.heap.size=w.heap.size:=by rw[←hW0];exact fF _ _ _
 have box0:=h1.box.set 6 (.pointer (some ⟨w.heap.size,0,none⟩));have eb:(bM t.nm kv ov (.pointer none)).set 6 (.pointer (some ⟨w.heap.size,0,none⟩))=bM t.nm kv ov (.pointer (some ⟨w.heap.size,0,none⟩)):=rfl;rw[eb,hW0]at box0;rw[hW0];obtain⟨F,hFF⟩: ∃F,W0.alloc (.cells (ae (iN i aj)).toArray 58)=F:=⟨_,rfl⟩;have hb0:Below W0.heap.size W0 F:=by rw[←hFF];exact af _ _
 have box':=box0.below hb0;have hkF:Blk F w.heap.size 58 (ae (iN i aj)):=by rw[←hFF,←hz0];exact O9 W0 _
 have hblt:=h1.box.lt;have hz:=hkF.lt;have hFs:F.heap.size=F.heap.size:=rfl;have hE0:Exc (fun k=>k=b) w W0:=by rw[←hW0];exact(Exc.refl (fun k=>k=b) w).set 6 _ (fun _=>rfl)
 have hEF:Exc (fun k=>k=b) w F:=hE0.trans (Exc.of (X:=fun _=>False) hb0) (fun _ _ q=>q.elim);rw[hFF];have kS: ∀k,k<w.heap.size→lab k≠1→F.heap[k]? =w.heap[k]? :=fun k q1 q2=>hEF.block k q1 (fun e=>q2 (by rw[e];exact h1.lb))
 have kR:Kp R w F:=fun k q=>kS k (h1.rl k q) (by rw[h1.sep k q];decide)
 have kz: ∀z,z≠0→z≠1→Kp (fun k=>lab k=z) w F:=fun z a0 a1 k q=>kS k (h1.ll k (by rw[show lab k=z from q];exact a0)) (by rw[show lab k=z from q];exact a1)
 have ne: ∀k,lab k≠0→k≠w.heap.size:=fun k q e=>by have:=h1.ll k q;omega
 have ln: ∀k z,z≠0→lab k=z→(if k=w.heap.size then 4 else lab k)=z:=fun k z a0 q=>by rw[Pd (ne k (by omega)),q]
 refine⟨fun k=>(if k=w.heap.size then 4 else lab k)≠0,R,⟨kv,ov,.pointer (some ⟨w.heap.size,0,none⟩),LO,fun k=>if k=w.heap.size then 4 else lab k,⟨fun k q=>?_,fun k q=>O0 (h1.rl k q) hEF.size,fun k q=>?_,ln b 1 (by decide) h1.lb,box',?_,h1.opn.kp (fun k e=>kz 3 (by decide) (by decide) k (h1.opb k e)),fun k e=>ln k 3 (by decide) (h1.opb k e),h1.ol,fun j x2 y2 p q=>?_,?_⟩,fun k=>Ri⟩,hEF.mono (fun k _ q=>(h2 k).2 (by rw[q,h1.lb];decide)),fun k q=>?_,fun k q=> .inl q⟩
 ·by_cases e:k=w.heap.size
  ·rw[e];exact hz
  ·simp only[Pd e]at q
   exact O0 (h1.ll k q) hEF.size
 ·have e:k≠w.heap.size:=fun e=>by have:=h1.rl k q;omega
  simp only[Pd e,h1.sep k q]
 ·exact(h1.kids.keep kR (kz 2 (by decide) (by decide))).mono (fun k q=>q) (fun k q=>ln k 2 (by decide) q)
 ·obtain⟨q1,q2⟩:=h1.on j x2 y2 p q
  exact⟨q1.keep kR,(q2.keep kR (kz _ (by omega) (by omega))).mono (fun k q=>q) (fun k z=>ln k _ (by omega) z)⟩
 ·refine .inr ⟨rfl,w.heap.size,aj,rfl,hkF,.inl ⟨rfl,by simp,?_,fun k e=>by cases e⟩⟩
  show ag _ _ _ _ _ _ t.text;rw[ht];exact ag.nil _ _
 ·by_cases e:k=w.heap.size
  ·exact .inr (by omega)
  ·simp only[Pd e]at q
   exact .inl ((h2 k).2 q)
theorem BM.txt {X R:Nat→Prop} {w:World} {b:Nat} {t:Bt} (h:BM true X R w b t) (hh:t.has=true):
  ∃g a c,w.cell? ⟨b,6,none⟩=some (.pointer (some ⟨g,0,none⟩))∧w.cell? ⟨g,3,none⟩=some (.slice a t.text.length c)∧ag 35 2 aX 0 w (.slice a t.text.length c) t.text∧
   ∀(W w':World) (a':Option Addr) (c':Nat) (L:List Gly),Below w.heap.size w W→ag 35 2 aX 0 w' (.slice a' L.length c') L→W.grownBy w' (Value.slice a t.text.length c).ownBlock→((Value.slice a' L.length c').ownBlock=(Value.slice a t.text.length c).ownBlock∨(Value.slice a' L.length c').ownBlock=some W.heap.size)→
    w'.cell? ⟨b,6,none⟩=some (.pointer (some ⟨g,0,none⟩))∧w'.cell? ⟨g,3,none⟩=some (.slice a t.text.length c)∧w'.frozen? ⟨g,3,none⟩=false∧g≠b∧AfC true X R b {t with text:=L} w (w'.setCell ⟨g,3,none⟩ (.slice a' L.length c')):=by
 obtain⟨kv,ov,pa,LO,lab,h1,h2⟩:=h;rcases h1.para with⟨q,-⟩| ⟨-,g,tv,rfl,hg,hp⟩
 ·rw[hh]at q;cases q
 obtain⟨hg4,hto,htb⟩:lab g=4∧ag 35 2 aX 0 w (pv tv) t.text∧ ∀k,(pv tv).ownBlock=some k→lab k=5:=by
  rcases hp with⟨-,q⟩| ⟨q,-⟩
  ·exact q
  ·cases q
 obtain⟨a,c,et,-⟩:=ag.sl ah hto;have hg3:=hg.cell 3;rw[et]at hto htb;refine⟨g,a,c,h1.box.cell 6,by rw[hg3,←et];rfl,hto,fun W w' a' c' L hb hF hgr hob=>?_⟩;have hgb:g≠b:=fun e=>by rw[e,h1.lb]at hg4;omega
 have hE:Exc (fun k=>lab k=5) w w':=(Exc.of (X:=fun k=>lab k=5) hb).trans (Y:=fun k=>lab k=5) ⟨hgr.os,hgr.tape,hgr.output,hgr.size,fun k q1 q2=>hgr.block k q1 (fun e=>q2 (htb k e.symm))⟩ (fun _ _ q=>q);have hg':Blk w' g 58 (ae (iN t.line tv)):=hE.blk hg (by rw[hg4];decide);have box':Blk w' b 116 (bM t.nm kv ov (.pointer (some ⟨g,0,none⟩))):=hE.blk h1.box (by rw[h1.lb];decide);have hg2:=hg'.set 3 (.slice a' L.length c');have eb:(ae (iN t.line tv)).set 3 (.slice a' L.length c')=ae (iN t.line (a',L.length,c')):=rfl;rw[eb]at hg2;obtain⟨F,hFF⟩: ∃F,w'.setCell ⟨g,3,none⟩ (.slice a' L.length c')=F:=⟨_,rfl⟩;have hgF:Blk F g 58 (ae (iN t.line (a',L.length,c'))):=by rw[←hFF];exact hg2
 have hEF:Exc (fun k=>lab k=5∨lab k=4) w F:=by
  rw[←hFF];exact(hE.mono (fun k _ q=> .inl q)).set 3 _ (fun _=> .inr hg4)
 have hFs:F.heap.size=w'.heap.size:=by rw[←hFF,fF]
 have c3:w'.cell? ⟨g,3,none⟩=some (.slice a t.text.length c):=by rw[hg'.cell 3,←et];rfl
 refine⟨box'.cell 6,c3,hg'.frozen (by rw[ay];decide),hgb,?_⟩;rw[hFF];have hlV: ∀k,(Value.slice a' L.length c').ownBlock=some k→lab k=5∨w.heap.size≤k:=fun k e=>hob.elim (fun q=> .inl (htb k (q▸e))) (fun q=> .inr (by rw[q]at e;have:=Ph e;have:=hb.size;omega))
 have hlV2: ∀k,(Value.slice a' L.length c').ownBlock=some k→k<w'.heap.size:=fun k e=>hF.ltb e
 have kS: ∀k,k<w.heap.size→lab k≠5→lab k≠4→F.heap[k]? =w.heap[k]? :=fun k q1 q2 q3=>hEF.block k q1 (fun e=>e.elim q2 q3)
 have kR:Kp R w F:=fun k q=>kS k (h1.rl k q) (by rw[h1.sep k q];decide) (by rw[h1.sep k q];decide)
 have kz: ∀z,z≠0→z≠5→z≠4→Kp (fun k=>lab k=z) w F:=fun z a0 a1 a2 k q=>kS k (h1.ll k (by rw[show lab k=z from q];exact a0)) (by rw[show lab k=z from q];exact a1) (by rw[show lab k=z from q];exact a2)
 have ln: ∀k z,z≠0→z≠5→lab k=z→(if(Value.slice a' L.length c').ownBlock=some k then 5 else lab k)=z:=fun k z a0 a5 q=>by
  rw[Pd (fun e=>(hlV k e).elim (fun z=>by omega) (fun z=>by have:=h1.ll k (by omega);omega)),q]
 refine⟨fun k=>(if(Value.slice a' L.length c').ownBlock=some k then 5 else lab k)≠0,R,⟨kv,ov,.pointer (some ⟨g,0,none⟩),LO,fun k=>if(Value.slice a' L.length c').ownBlock=some k then 5 else lab k,⟨fun k q=>?_,fun k q=>O0 (h1.rl k q) hEF.size,fun k q=>?_,ln b 1 (by decide) (by decide) h1.lb,?_,?_,h1.opn.kp (fun k e=>kz 3 (by decide) (by decide) (by decide) k (h1.opb k e)),fun k e=>ln k 3 (by decide) (by decide) (h1.opb k e),h1.ol,fun j x2 y2 p q=>?_,?_⟩,fun k=>Ri⟩,hEF.mono (fun k _ q=>(h2 k).2 (by omega)),fun k q=>?_,fun k q=> .inl q⟩
 ·by_cases e:(Value.slice a' L.length c').ownBlock=some k
  ·rw[hFs];exact hlV2 k e
  ·simp only[Pd e]at q
   exact O0 (h1.ll k q) hEF.size
 ·have e:(Value.slice a' L.length c').ownBlock≠some k:=fun e=>(hlV k e).elim (fun z=>by have:=h1.sep k q;omega) (fun z=>by have:=h1.rl k q;omega)
  simp only[Pd e,h1.sep k q]
 ·exact(kz 1 (by decide) (by decide) (by decide) b h1.lb).trans h1.box
 ·exact(h1.kids.keep kR (kz 2 (by decide) (by decide) (by decide))).mono (fun k q=>q) (fun k q=>ln k 2 (by decide) (by decide) q)
 ·obtain⟨q1,q2⟩:=h1.on j x2 y2 p q
  exact⟨q1.keep kR,(q2.keep kR (kz _ (by omega) (by omega) (by omega))).mono (fun k q=>q) (fun k z=>ln k _ (by omega) (by omega) z)⟩
 ·refine .inr ⟨hh,g,(a',L.length,c'),rfl,hgF,.inl ⟨rfl,ln g 4 (by decide) (by decide) hg4,hF.kp (fun k e=>?_),fun k e=>?_⟩⟩
  ·rw[←hFF]
   refine O8 _ ⟨g,3,none⟩ _ _ (fun e2=>?_);have e3:k=g:=e2;subst e3;exact(hlV k e).elim (fun z=>by omega) (fun z=>by have:=h1.ll k (by omega);omega)
  ·have e':(Value.slice a' L.length c').ownBlock=some k:=e
   simp only[Pk e']
 ·by_cases e:(Value.slice a' L.length c').ownBlock=some k
  ·exact(hlV k e).imp (fun z=>(h2 k).2 (by omega)) id
  ·simp only[Pd e]at q
   exact .inl ((h2 k).2 q)
theorem DZ (a l:List Gly):a.take (a.length-1)++jn (a.drop (a.length-1)) l=jn a l:=by
 rcases QQ a with e | ⟨r,z,e⟩
 ·subst e;rfl
 ·have e':a=r++ [z]:=by simpa using e
  subst e';have h1:(r++ [z]).length-1=r.length:=by simp
  rw[h1,List.take_left,List.drop_left];unfold jn
  by_cases hl:l=[]
  ·simp[hl]
  ·simp[hl]
attribute [local go_sem ↓ high] fG lL gN
theorem QUa {P:Prop}(h:P:=by
 obtain⟨X1,R1,hB,hE,hX,hR⟩:=hcut;obtain⟨W1,hW1⟩: ∃W,wc=W:=⟨_,rfl⟩;rw[hW1]at hB hE ⊢;obtain⟨g,a,c,c6,c3,hto,hT⟩:=hB.txt rfl;simp only at c3 hto hT;have hvl:Gs W1 (.slice va ll vc) l:=(HV.out.keep (fun k q=>hE.block k (HS.out k q).1 (HS.out k q).2)).1;obtain⟨tx,htx⟩: ∃q,t.text=q:=⟨_,rfl⟩;rw[htx]at c3 hto hT;have HLT:Hid (tx.length+l.length≤80000):=zH (by rw[←htx,HLN.out];exact HLL.out);have htl:=HLT.out;obtain⟨last,hlast⟩: ∃n,tx.length-1=n:=⟨_,rfl⟩;have hlt:last≤tx.length:=by omega
 obtain⟨u2,f2,s2⟩:=wR (ag.sl ah hto) last hlt;obtain⟨u1,f1,s1,e1⟩:=kQ (ag.sl ah hto) last hlt;have e1':=e1 _ _ _ rfl;subst e1';have hcut:=hto.cut ah (k:=last) hlt;have HJ:Hid (∀W,Below W1.heap.size W1 W→Calls Tryz.prog 127 #[u2,.slice va ll vc] W fun e w'=> ∃x,e= .returned x∧aI W.heap.size w' x (jn (tx.drop last) l)∧Below W.heap.size W w'):=zH (fun W hb=>vT (tx.drop last) l u2 _ W (Fs.below s2 hb) (Fs.below hvl hb) (by rw[Pi];omega));have HAP:Hid (∀w2 x,aI W1.heap.size w2 x (jn (tx.drop last) l)→Below W1.heap.size W1 w2→ ∃a' c' n' w',(Builtin.append_ #[26,26] 26 #[.slice a last c,x]).run Tryz.prog w2= .ok (.slice a' n' c') w'∧w'.cell? ⟨b,6,none⟩=some (.pointer (some ⟨g,0,none⟩))∧w'.cell? ⟨g,3,none⟩=some (.slice a tx.length c)∧w'.frozen? ⟨g,3,none⟩=false∧g≠b∧AfC true X R b (gP t l i) w (w'.setCell ⟨g,3,none⟩ (.slice a' n' c'))):=zH (fun w2 x ho hb2=>by
  obtain⟨i0,hi,hz0,hz1,hz2⟩:=PU qK;have hj:=qc (tx.drop last) l;rw[Pi]at hj;have htk:(tx.take last).length=last:=by rw[Pg];omega
  obtain⟨x',w',hr,ho',hgr,hq⟩:=lX (P:=Tryz.prog) (t:=26) ah mP (by decide) Tryz.underlying26 hi hz0 hz1 hz2 rfl (by decide) (hcut.keep hb2) (ag.sl ah ho) (Qr _) (by rw[htk];omega);rw[←hlast,DZ]at ho';have eob:(Value.slice a last c).ownBlock=(Value.slice a tx.length c).ownBlock:=by cases a<;>rfl
  rw[eob]at hgr hq;obtain⟨a',c',e⟩:=(ag.sl ah ho').len;subst e;obtain⟨k1,k2,k3,k4,k5⟩:=hT w2 w' a' c' (jn tx l) hb2 ho' hgr hq;refine⟨a',c',_,w',hr,k1,k2,k3,k4,?_⟩;have ebt:gP t l i={({t with has:=true,line:=if t.has then t.line else i}:Bt)with text:=jn tx l}:=by
   unfold gP;rw[htx]
  rw[ebt];exact AfC.step hE hX hR k5)
 have ml:=ru ((tx.length:Int)-1) 0 (last:Int) (by split<;>omega);have hlast0:(0:Int)≤(last:Int):=by omega
 have htl9:tx.length≤80000:=by omega
 obtain⟨N,hN⟩: ∃n,tx.length=n:=⟨_,rfl⟩;rw[hN]at c3 ml HAP hlt htl9 f2 f1;clear hB hE hX hR hto hT hvl htx s2 s1 e1 hcut hW1 HP6 HV HS HB htl HLT hlast HLL;go_wp2_with fail
 refine wp_region_held_drew (S:=(fun W'=>W'.cell? ⟨b,6,none⟩=some (.pointer (some ⟨g,0,none⟩)))) (by kernel_rfl) ?_ (fun hHeld=>?_)
 ·exact c6
 refine zK (i:=0) (v:=dW b) rfl ?_;simp only[zT,zS,zZ,Act.put,yT,yZ,yS];refine zK (i:=1) (v:=dW b) rfl ?_;simp only[zT,zS,zZ,Act.put,yT,yZ,yS];refine zK (i:=2) (v:= .pointer (some ⟨b,6,none⟩)) rfl ?_;simp only[zT,zS,zZ,Act.put,yT,yZ,yS];refine zK (i:=3) (v:= .pointer (some ⟨g,0,none⟩)) rfl ?_;simp only[zT,zS,zZ,Act.put,yT,yZ,yS];refine zK (i:=4) (v:= .slice a N c) rfl ?_;simp only[zT,zS,zZ,Act.put,yT,yZ,yS];refine zK (i:=5) (v:= .int .i64 (last:Int)) rfl ?_;simp only[zT,zS,zZ,Act.put,yT,yZ,yS];refine zK (i:=6) (v:= .slice a last c) rfl ?_;simp only[zT,zS,zZ,Act.put,yT,yZ,yS];refine zK (i:=7) (v:= .slice a N c) rfl ?_;simp only[zT,zS,zZ,Act.put,yT,yZ,yS];refine zK (i:=8) (v:= .int .i64 (last:Int)) rfl ?_;simp only[zT,zS,zZ,Act.put,yT,yZ,yS];refine zK (i:=9) (v:=u2) rfl ?_;simp only[zT,zS,zZ,Act.put,yT,yZ,yS];refine zK (i:=10) (v:= .slice va ll vc) rfl ?_;simp only[zT,zS,zZ,Act.put,yT,yZ,yS];refine wpAnyH_ready (rs:=[11]) (by kernel_rfl) (by simp) ?_;refine AllReadyH.cons rfl (fun K hK=>?_) AllReadyH.nil
 try simp only[zT,zS,zZ]
 go_simp;go_at_call 127
 refine(HJ.out _ (OX W1.heap.size W1).drew).mono ?_;rintro e w2 ⟨x,rfl,ho,hb2⟩;have hb2':Below W1.heap.size W1 w2:=(OX W1.heap.size W1).drew.trans hb2;obtain⟨a',c',n',w',hr,k1,k2,k3,k4,hA⟩:=HAP.out w2 x ho hb2';have HA:=zH hA;have c6':w2.cell? ⟨b,6,none⟩=some (.pointer (some ⟨g,0,none⟩)):=aD hb2' c6;clear hA ho hb2 hb2';go_wp2_with fail
 refine hK.out _ _ ?_ (fun hHeld=>?_)
 ·exact c6'
 clear hK K
 try simp only[zT,zS,zZ,Act.put,yT,yZ,yS]
 refine wpAnyH_ready (rs:=[12]) (by kernel_rfl) (by simp) ?_;refine AllReadyH.cons rfl (fun K hK=>?_) AllReadyH.nil
 try simp only[zT,zS,zZ]
 rw[Pk (by kernel_rfl)];refine wp_append_run (.tmp 38) (.tmp 43) 26 26 rfl _ _ rfl rfl hr ?_;refine hK.out _ _ ?_ (fun hHeld=>?_)
 ·exact k1
 clear hK K
 try simp only[zT,zS,zZ,Act.put,yT,yZ,yS]
 refine zK (i:=13) (v:= .pointer (some ⟨g,0,none⟩)) rfl ?_;simp only[zT,zS,zZ,Act.put,yT,yZ,yS];refine zK (i:=14) (v:= .pointer (some ⟨g,3,none⟩)) rfl ?_;simp only[zT,zS,zZ,Act.put,yT,yZ,yS];refine wpAnyH_ready (rs:=[15]) (by kernel_rfl) (by simp) ?_;refine AllReadyH.cons rfl (fun K hK=>?_) AllReadyH.nil
 try simp only[zT,zS,zZ]
 go_simp;refine hK.out _ _ ?_ (fun hHeld=>?_)
 ·rw[aR (O8 w' ⟨g,3,none⟩ _ b (fun e=>k4 e.symm))];exact k1
 clear hK K
 try simp only[zT,zS,zZ,Act.put,yT,yZ,yS]
 refine PK (by kernel_rfl) ?_ _;go_wp2_with fail
 go_end0;exact⟨rfl,HA.out⟩):P:=h
theorem Gv {X R S:Nat→Prop} {w:World} {b:Nat} {t:Bt} {v:Value} (h:BM true X R w b t) (l:List Gly) (i:Int) (hv:FsS S 2 aX w v l) (hS: ∀k,S k→k<w.heap.size∧ ¬X k) (hb:btl t+l.length≤80000):
  Calls Tryz.prog 92 #[dW b,v,.int .i64 i] w (wT true X R b (gP t l i) w):=by
 obtain⟨va,vc,rfl⟩:=hv.1.len;have hself:=h.self;have hblt:=h.lt b (.inl hself);have hsm:=eO (show btl t≤80000 by omega);have HB:=zH h;have HV:=zH hv;have HS:=zH hS;have HLL:Hid (t.text.length+l.length≤80000):=zH (by unfold btl at hb;omega);obtain⟨ll,hll⟩: ∃n,l.length=n:=⟨_,rfl⟩;rw[hll]at HV HLL ⊢;have HLN:=zH hll;obtain⟨hs,hhs⟩: ∃d,t.has=d:=⟨_,rfl⟩;have HHS:=zH hhs;have HP6:Hid (if hs then(∃g,w.cell? ⟨b,6,none⟩=some (.pointer (some ⟨g,0,none⟩))) else(w.cell? ⟨b,6,none⟩=some (.pointer none)∧w.frozen? ⟨b,6,none⟩=false)):=by
  cases hs with
  | true=>
   obtain⟨g,a,c,q,-⟩:=h.txt hhs;exact zH ⟨g,q⟩
  | false=>exact zH ⟨(h.none6 hhs).1,(h.begin hhs i).1⟩
 clear h hv hS hb hself hsm hll hhs;go_enter Tryz.func92,Tryz.ntmps92
 have hP6:=HP6.out
 cases hs with
 | true=>
  obtain⟨g0,d6⟩: ∃g,w.cell? ⟨b,6,none⟩=some (.pointer (some ⟨g,0,none⟩)):=hP6;go_upto_if 14 with fail
  go_cut [] (fun wx=>AfC true X R b {t with has:=true,line:=if t.has then t.line else i} w wx)
  case first=>
   go_wp2_with fail
   go_meet
   have e:({t with has:=true,line:=if t.has then t.line else i}:Bt)=t:=by
    have:=HHS.out
    cases t
    simp only at this;subst this;rfl
   rw[e];exact AfC.refl HB.out
  case rest=>
  exact QUa
 | false=>
  obtain⟨d6,e6⟩:w.cell? ⟨b,6,none⟩=some (.pointer none)∧w.frozen? ⟨b,6,none⟩=false:=hP6;go_upto_if 14 with fail
  go_cut [] (fun wx=>AfC true X R b {t with has:=true,line:=if t.has then t.line else i} w wx)
  case first=>
   go_wp2_with fail
   go_meet
   have e:({t with has:=true,line:=if t.has then t.line else i}:Bt)={t with has:=true,line:=i}:=by
    rw[HHS.out];rfl
   rw[e];exact(HB.out.begin HHS.out i).2
  case rest=>
  exact QUa
end
end Go.Proofs.YtebabjnngdjceaaGreatDoor

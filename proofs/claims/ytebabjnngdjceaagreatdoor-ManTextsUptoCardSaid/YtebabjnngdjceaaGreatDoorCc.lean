/- The program's builder: New, Depth, put. The program's builder: Title, find, Inside. The program's builder: slices.Delete of the last of a row of nodes; what becomes of the builder. The program's builder: closeTo. The program's builder: End, Close, Shut. The program's builder: Close, Shut. The progra -/
import Derived.Test.YtebabjnngdjceaaGreatDoorBe
import Derived.BigRegion
import Derived.Deep.RegionWith
import Derived.Deep.RegionHeld3
import Derived.Deep.RegionLaw
import Derived.Deep.DeepCutAuto
import Derived.StillTailTactics
import Derived.Test.YtebabjnngdjceaaGreatDoorZ0
import Derived.Test.YtebabjnngdjceaaGreatDoorBs
set_option linter.unusedVariables false
set_option linter.unusedSimpArgs false
set_option maxRecDepth 100000
set_option maxHeartbeats 4000000
namespace Go.Proofs.YtebabjnngdjceaaGreatDoor
open Go.RowKit
theorem aR {W W':World} {g:Nat} {j:Nat} (h:W'.heap[g]? =W.heap[g]?):W'.cell? ⟨g,j,none⟩=W.cell? ⟨g,j,none⟩:=by simp only[World.cell?,h]
theorem xC (W:World) {g p:Nat} (h:g≠p) (i j:Nat) (u v:Value):(W.setCell ⟨g,i,none⟩ u).setCell ⟨p,j,none⟩ v=(W.setCell ⟨p,j,none⟩ v).setCell ⟨g,i,none⟩ u:=by
 simp only[World.setCell]
 congr 1
 apply Array.ext_getElem?;intro k;simp only[Array.getElem?_modify]
 by_cases h1:g=k
 ·have h2: ¬p=k:=fun e=>h (h1.trans e.symm)
  simp only[Pk h1,Pd h2]
 ·by_cases h2:p=k
  ·simp only[Pd h1,Pk h2]
  ·simp only[Pd h1,Pd h2]
theorem bT {g p:Nat} (h:g≠p) (j:Nat) (v:Value): ∀(vs:List Value) (o:Nat) (W:World),(W.setCells g o vs).setCell ⟨p,j,none⟩ v=(W.setCell ⟨p,j,none⟩ v).setCells g o vs
 | [],_,_=>rfl
 | u::vs,o,W=>(bT h j v vs (o+1) _).trans (Pj (fun w=>World.setCells w g (o+1) vs) (xC W h o j u v))
theorem wp_append_run {P:Program} {o:Oper} {a:Act} {w:World} {K:Act→World→Prop} {Q:Exit→Act→World→Prop}
  (d s:Operand) (t t':TypeId) (hop:o.op=Op.call {callee:=Callee.builtin Builtin.append,args:= #[d,s],argTypes:= #[t,t'] })
  (vd vs:Value) (hd:a.eval d=vd) (hs:a.eval s=vs) {v':Value} {w':World} (hrun:(Builtin.append_ #[t,t'] o.type #[vd,vs]).run P w= .ok v' w') (hK:K (a.put o.dst v') w'):Oper.wp P o a w K Q:=by
 unfold Oper.wp;have hb:builtin .append #[t,t'] o.type=fun _ args=>(do pure (.value (←Builtin.append_ #[t,t'] o.type args)):Sem Next):=rfl
 simp[execOp,hop,resolve,invoke,hb,hd,hs,hrun,Result.andThen];exact hK
abbrev dW (b:Nat):Value:= .pointer (some ⟨b,0,none⟩)
theorem kY {m:Bool} {X R:Nat→Prop} {w:World} {b:Nat} {t:Bt} (h:BM m X R w b t):
  Calls Tryz.prog 96 #[dW b] w fun e w'=>e= .returned (.int .i64 (t.opn.length:Int))∧w=w':=by
 obtain⟨kv,ov,pa,LO,lab,h1,h2⟩:=h;obtain⟨a,c,e,-⟩:=h1.olen;have c5:w.cell? ⟨b,5,none⟩=some (.slice a t.opn.length c):=by rw[h1.box.cell 5,←e];rfl
 clear h1 h2;go_enter Tryz.func96,Tryz.ntmps96
 go_wp2_with fail
 go_ret;exact⟨rfl,rfl⟩
def Oj:Bt:=⟨⟨[],[],[],[]⟩,[],[],[],0,false⟩
theorem JC (w:World):Calls Tryz.prog 24 #[] w fun e w'=>e= .returned (dW w.heap.size)∧BM true (fun k=>k=w.heap.size) (fun _=>False) w' w.heap.size Oj∧Below w.heap.size w w':=by
 have hb:=af w (.cells (bM ⟨[],[],[],[]⟩ aj aj (.pointer none)).toArray 116);have hB:Hid (BM true (fun k=>k=w.heap.size) (fun _=>False) (w.alloc (.cells (bM ⟨[],[],[],[]⟩ aj aj (.pointer none)).toArray 116)) w.heap.size Oj):=zH (by
  refine⟨aj,aj,.pointer none,[],fun k=>if k=w.heap.size then 1 else 0,⟨fun k q=>?_,fun k q=>q.elim,fun k q=>q.elim,by simp,O9 w _,RwN.nil _ _ _,ag.nil _ _,(fun k e=>by cases e),rfl,(fun i x y q=>by simp at q),.inl ⟨rfl,rfl,rfl,rfl⟩⟩,fun k=>by by_cases e:k=w.heap.size<;>simp[e]⟩
  by_cases e:k=w.heap.size
  ·rw[e];simp
  ·simp[e]at q)
 have HB:=zH hb;clear hb;go_enter Tryz.func24,Tryz.ntmps24
 go_wp2_with fail
 go_ret;exact⟨rfl,hB.out,HB.out⟩
def AfB (m:Bool) (X R:Nat→Prop) (b:Nat) (t':Bt) (w w':World):Prop:= ∃X',BM m X' R w' b t'∧Exc X w w'∧ ∀k,X' k→X k∨w.heap.size≤k
def Oy (m:Bool) (X R:Nat→Prop) (b:Nat) (t':Bt) (w:World) (e:Ending) (w':World):Prop:=e= .returned (.tuple #[])∧AfB m X R b t' w w'
def OO (pb po:Nat) (c:Value) (w wx:World):Prop:=c= .pointer (some ⟨pb,po,none⟩)∧w=wx
theorem QTX {P:Prop}(h:P:=by
 refine wpAnyH_ready (rs:=[6]) (by kernel_rfl) (by simp) ?_;refine AllReadyH.cons rfl (fun K hK=>?_) AllReadyH.nil
 try simp only[zT,zS,zZ]
 rw[Pk (by kernel_rfl)];refine wp_append_run (.tmp 27) (.tmp 30) 36 36 rfl _ _ rfl rfl hr ?_;refine hK.out _ _ ?_ (fun hHeld=>?_)
 ·exact HSX.out _ HSW.out
 clear hK K
 try simp only[zT,zS,zZ,Act.put,yT,yZ,yS]
 refine zK (i:=7) (v:= .pointer (some ⟨g,kn*10,none⟩)) rfl ?_;simp only[zT,zS,zZ,Act.put,yT,yZ,yS];refine zK (i:=9) (v:= .pointer (some ⟨pb,po,none⟩)) rfl ?_;simp only[zT,zS,zZ,Act.put,yT,yZ,yS];refine wpAnyH_ready (rs:=[8,10]) (by kernel_rfl) (by simp) ?_;refine AllReadyH.cons rfl (fun K hK=>?_) (AllReadyH.cons rfl (fun K hK=>?_) AllReadyH.nil)
 ·try simp only[zT,zS,zZ]
  go_simp;refine hK.out _ _ ?_ (fun hHeld=>?_)
  ·exact HSX.out (w'.setCells g (kn*10) [.int .i64 xk,.int .i64 xl,.int .i64 xn,.slice t1 t2 t3,.slice k1 k2 k3,.slice r1 r2 r3,.string ⟨xc.toArray⟩,.slice q1 q2 q3,.bool xb,.bool xa]) ((aC hgw _ _ _).trans HSW.out)
  clear hK K
  try simp only[zT,zS,zZ,Act.put,yT,yZ,yS]
  refine wpAnyH_ready (rs:=[10]) (by kernel_rfl) (by simp) ?_;refine AllReadyH.cons rfl (fun K hK=>?_) AllReadyH.nil
  try simp only[zT,zS,zZ]
  go_simp;refine hK.out _ _ ?_ (fun hHeld=>?_)
  ·exact HSX.out ((w'.setCells g (kn*10) [.int .i64 xk,.int .i64 xl,.int .i64 xn,.slice t1 t2 t3,.slice k1 k2 k3,.slice r1 r2 r3,.string ⟨xc.toArray⟩,.slice q1 q2 q3,.bool xb,.bool xa]).setCell ⟨pb,po,none⟩ (.slice (some ⟨g,0,none⟩) (kn+1) c)) ((O8 _ ⟨pb,po,none⟩ _ _ HPB.out).trans ((aC hgw _ _ _).trans HSW.out))
  clear hK K
  try simp only[zT,zS,zZ,Act.put,yT,yZ,yS]
  refine PK (by kernel_rfl) ?_ _;go_wp2_with fail
  go_end0;exact⟨rfl,HFF.out⟩
 ·try simp only[zT,zS,zZ]
  go_simp;refine hK.out _ _ ?_ (fun hHeld=>?_)
  ·exact HSX.out (w'.setCell ⟨pb,po,none⟩ (.slice (some ⟨g,0,none⟩) (kn+1) c)) ((O8 _ ⟨pb,po,none⟩ _ _ HPB.out).trans HSW.out)
  clear hK K
  try simp only[zT,zS,zZ,Act.put,yT,yZ,yS]
  refine wpAnyH_ready (rs:=[8]) (by kernel_rfl) (by simp) ?_;refine AllReadyH.cons rfl (fun K hK=>?_) AllReadyH.nil
  try simp only[zT,zS,zZ]
  go_simp;refine hK.out _ _ ?_ (fun hHeld=>?_)
  ·exact HSX.out ((w'.setCell ⟨pb,po,none⟩ (.slice (some ⟨g,0,none⟩) (kn+1) c)).setCells g (kn*10) [.int .i64 xk,.int .i64 xl,.int .i64 xn,.slice t1 t2 t3,.slice k1 k2 k3,.slice r1 r2 r3,.string ⟨xc.toArray⟩,.slice q1 q2 q3,.bool xb,.bool xa]) ((aC hgw _ _ _).trans ((O8 _ ⟨pb,po,none⟩ _ _ HPB.out).trans HSW.out))
  clear hK K
  try simp only[zT,zS,zZ,Act.put,yT,yZ,yS]
  refine PK (by kernel_rfl) ?_ _;go_wp2_with fail
  go_end0;refine⟨rfl,?_⟩;have q:=HFF.out;rw[bT hgp]at q;exact q):P:=h
theorem uM {m:Bool} {X R:Nat→Prop} {w:World} {b:Nat} {t:Bt} (h:BM m X R w b t) {x:NV} {y:Nd} (hx:bV R w x y.hd) (hk:NsS R w (pv x.kids) y.kids) (hl:t.kids.length≤400000) (ho: ∀y∈t.opn,y.kids.length≤400000) (hol:t.opn.length≤400000):
  Calls Tryz.prog 95 #[dW b,.agg (ae x).toArray] w (Oy m X R b (jS t y) w):=by
 have HLAY: ∃pb po ka kn kc,ND m X R w b t (jS t y) x pb po ka kn kc∧((t.opn.length=0∧pb=b∧po=4)∨(∃n oc,t.opn.length=n+1∧w.cell? ⟨b,5,none⟩=some (.slice (some ⟨pb,0,none⟩) (n+1) oc)∧po=n*10+4)):=by
  rcases dF t.opn with e | ⟨l,y0,e⟩
  ·obtain⟨ka,kn,kc,q⟩:=h.lay0 e hl hx hk
   exact⟨b,4,ka,kn,kc,q,.inl ⟨by rw[e];rfl,rfl,rfl⟩⟩
  ·obtain⟨og,oc,ka,kn,kc,q0,q⟩:=h.lay1 e (ho y0 (by rw[e];simp)) hx hk
   exact⟨og,_,ka,kn,kc,q,.inr ⟨l.length,oc,by rw[e];simp,q0,rfl⟩⟩
 obtain⟨pb,po,ka,kn,kc,⟨hXp,hpc,hL⟩,hcase⟩:=HLAY;obtain⟨W0,hW0⟩: ∃W,W=w.alloc (.cells (ae x).toArray 58):=⟨_,rfl⟩;have b0:Below w.heap.size w W0:=by rw[hW0];exact af _ _
 have kx:Blk W0 w.heap.size 58 (ae x):=by rw[hW0];exact O9 w _
 have bz:=af W0 (.cells zNd.toArray 58);have hplt:=Po w _ hpc;obtain⟨g,c,w',hr,hc,hkn,hcell,d1,f1,d0,f0,hgp,hgww,HF⟩:=hL W0 (W0.alloc (.cells zNd.toArray 58)).drew b0 bz.drew (O9 W0 _);obtain⟨hgw0,hww0⟩:=hgww w.heap.size (OW _) kx.lt;have hgw0:w.heap.size≠g:=hgw0;have p0:W0.cell? ⟨pb,po,none⟩=some (.slice ka kn kc):=(b0.cell (p:=⟨pb,po,none⟩) hplt).trans hpc;have HOP:Hid (∃a oc,w.cell? ⟨b,5,none⟩=some (.slice a t.opn.length oc)):=by
  obtain⟨kv,ov,pa,LO,lab,h1,-⟩:=h;obtain⟨a,oc,e,-⟩:=h1.olen;exact zH ⟨a,oc,by rw[h1.box.cell 5,←e];rfl⟩
 have hblt:b<w.heap.size:=h.lt b (.inl h.self);have HGW:Hid (w.heap.size≠g):=zH hgw0;have HWW:Hid (w'.heap[w.heap.size]? =W0.heap[w.heap.size]?):=zH hww0;have HPB:Hid (w.heap.size≠pb):=zH (fun e=>by rw[←e]at hplt;exact Nat.lt_irrefl _ hplt);have HGW:Hid (w.heap.size≠g):=zH hgw0;have HWW:Hid (w'.heap[w.heap.size]? =W0.heap[w.heap.size]?):=zH hww0;have HPB:Hid (w.heap.size≠pb):=zH (fun e=>by rw[←e]at hplt;exact Nat.lt_irrefl _ hplt);have HGW:Hid (w.heap.size≠g):=zH hgw0;have HWW:Hid (w'.heap[w.heap.size]? =W0.heap[w.heap.size]?):=zH hww0;have HPB:Hid (w.heap.size≠pb):=zH (fun e=>by rw[←e]at hplt;exact Nat.lt_irrefl _ hplt);have HGW:Hid (w.heap.size≠g):=zH hgw0;have HWW:Hid (w'.heap[w.heap.size]? =W0.heap[w.heap.size]?):=zH hww0;have HPB:Hid (w.heap.size≠pb):=zH (fun e=>by rw[←e]at hplt;exact Nat.lt_irrefl _ hplt);have HGW:Hid (w.heap.size≠g):=zH hgw0;have HWW:Hid (w'.heap[w.heap.size]? =W0.heap[w.heap.size]?):=zH hww0;have HPB:Hid (w.heap.size≠pb):=zH (fun e=>by rw[←e]at hplt;exact Nat.lt_irrefl _ hplt);have HK:=zH kx;have HFF:=zH HF;have HW0:=zH hW0;have HB0:=zH b0;obtain⟨tl,htl⟩: ∃tl,t.opn.length=tl:=⟨_,rfl⟩;rw[htl]at hcase HOP hol;clear HF hL h hx hk hl ho bz b0 kx hXp htl hW0;obtain⟨xk,xl,xn,⟨t1,t2,t3⟩,⟨k1,k2,k3⟩,⟨r1,r2,r3⟩,xc,⟨q1,q2,q3⟩,xb,xa⟩:=x;simp only[ae,pv]at HK hr HFF d1 f1;have x0:=HK.out.cell 0;have x1:=HK.out.cell 1;have x2:=HK.out.cell 2;have x3:=HK.out.cell 3;have x4:=HK.out.cell 4;have x5:=HK.out.cell 5;have x6:=HK.out.cell 6;have x7:=HK.out.cell 7;have x8:=HK.out.cell 8;have x9:=HK.out.cell 9;simp only[OY,OZ]at x0 x1 x2 x3 x4 x5 x6 x7 x8 x9;simp only[ae,pv]at HW0 ⊢;go_enter Tryz.func95,Tryz.ntmps95
 go_upto_region 1 with fail
 rw[←HW0.out];obtain⟨oa,oc,o5⟩:=HOP.out;have o5':W0.cell? ⟨b,5,none⟩=some (.slice oa tl oc):=(HB0.out.cell (p:=⟨b,5,none⟩) hblt).trans o5;go_upto_if 16 with fail
 go_cut [4] (fun c wx=>OO pb po c W0 wx)
 case first=>
  clear hr hcell d1 f1 d0 f0 x0 x1 x2 x3 x4 x5 x6 x7 x8 x9;rcases hcase with⟨rfl,rfl,rfl⟩| ⟨n,oc',rfl,e5,rfl⟩
  ·go_wp2_with fail
   go_meet
   exact⟨rfl,rfl⟩
  ·rw[o5]at e5
   injection e5 with e5
   injection e5 with e5 e6 e7
   subst e5;have hn2:(0:Int)≤(n:Int):=by omega
   go_wp2_with fail
   go_meet
   exact⟨rfl,rfl⟩
 case rest=>
 obtain⟨rfl,rfl⟩:=hcut;clear hcase HOP;have HSX:Hid (∀W:World,W.heap[w.heap.size]? =W0.heap[w.heap.size]? →W.cell? ⟨w.heap.size,0,none⟩=some (.int .i64 xk)∧W.cell? ⟨w.heap.size,1,none⟩=some (.int .i64 xl)∧W.cell? ⟨w.heap.size,2,none⟩=some (.int .i64 xn)∧W.cell? ⟨w.heap.size,3,none⟩=some (.slice t1 t2 t3)∧W.cell? ⟨w.heap.size,4,none⟩=some (.slice k1 k2 k3)∧W.cell? ⟨w.heap.size,5,none⟩=some (.slice r1 r2 r3)∧W.cell? ⟨w.heap.size,6,none⟩=some (.string ⟨xc.toArray⟩)∧W.cell? ⟨w.heap.size,7,none⟩=some (.slice q1 q2 q3)∧W.cell? ⟨w.heap.size,8,none⟩=some (.bool xb)∧W.cell? ⟨w.heap.size,9,none⟩=some (.bool xa)):=zH (fun W e=>⟨(aR e).trans x0,(aR e).trans x1,(aR e).trans x2,(aR e).trans x3,(aR e).trans x4,(aR e).trans x5,(aR e).trans x6,(aR e).trans x7,(aR e).trans x8,(aR e).trans x9⟩);have hwl:w.heap.size<W0.heap.size:=HK.out.lt;have p1:(W0.alloc (.cells #[.int .i64 0,.int .i64 0,.int .i64 0,.slice none 0 0,.slice none 0 0,.slice none 0 0,.string ⟨#[]⟩,.slice none 0 0,.bool false,.bool false] 58)).cell? ⟨pb,po,none⟩=some (.slice ka kn kc):=(Below.cell (af W0 _) (p:=⟨pb,po,none⟩) (Po W0 _ p0)).trans p0;have hgw:w.heap.size≠g:=HGW.out;have HSW:Hid (w'.heap[w.heap.size]? =W0.heap[w.heap.size]?):=zH HWW.out;have z0:w'.cell? ⟨g,kn*10,none⟩=some (.int .i64 0):=(hcell 0 _ rfl).1;have z1:w'.cell? ⟨g,kn*10+1,none⟩=some (.int .i64 0):=(hcell 1 _ rfl).1;have z2:w'.cell? ⟨g,kn*10+2,none⟩=some (.int .i64 0):=(hcell 2 _ rfl).1;have z3:w'.cell? ⟨g,kn*10+3,none⟩=some (.slice none 0 0):=(hcell 3 _ rfl).1;have z4:w'.cell? ⟨g,kn*10+4,none⟩=some (.slice none 0 0):=(hcell 4 _ rfl).1;have z5:w'.cell? ⟨g,kn*10+5,none⟩=some (.slice none 0 0):=(hcell 5 _ rfl).1;have z6:w'.cell? ⟨g,kn*10+6,none⟩=some (.string ⟨#[]⟩):=(hcell 6 _ rfl).1;have z7:w'.cell? ⟨g,kn*10+7,none⟩=some (.slice none 0 0):=(hcell 7 _ rfl).1;have z8:w'.cell? ⟨g,kn*10+8,none⟩=some (.bool false):=(hcell 8 _ rfl).1;have z9:w'.cell? ⟨g,kn*10+9,none⟩=some (.bool false):=(hcell 9 _ rfl).1;have v0:w'.frozen? ⟨g,kn*10,none⟩=false:=(hcell 0 _ rfl).2;have v1:w'.frozen? ⟨g,kn*10+1,none⟩=false:=(hcell 1 _ rfl).2;have v2:w'.frozen? ⟨g,kn*10+2,none⟩=false:=(hcell 2 _ rfl).2;have v3:w'.frozen? ⟨g,kn*10+3,none⟩=false:=(hcell 3 _ rfl).2;have v4:w'.frozen? ⟨g,kn*10+4,none⟩=false:=(hcell 4 _ rfl).2;have v5:w'.frozen? ⟨g,kn*10+5,none⟩=false:=(hcell 5 _ rfl).2;have v6:w'.frozen? ⟨g,kn*10+6,none⟩=false:=(hcell 6 _ rfl).2;have v7:w'.frozen? ⟨g,kn*10+7,none⟩=false:=(hcell 7 _ rfl).2;have v8:w'.frozen? ⟨g,kn*10+8,none⟩=false:=(hcell 8 _ rfl).2;have v9:w'.frozen? ⟨g,kn*10+9,none⟩=false:=(hcell 9 _ rfl).2;have hk0:(0:Int)≤(kn:Int):=by omega
 have hk1:(kn:Int)<(kn:Int)+1:=by omega
 have hk2:(kn:Int)<((kn+1:Nat):Int):=by omega
 have hk3:(kn:Int)≤400000:=by omega
 have hgp':pb≠g:=fun e=>hgp e.symm
 clear hcell d1 f1;go_wp2_with fail
 refine wp_region_held_drew (S:=(fun W'=>W'.cell? ⟨w.heap.size,0,none⟩=some (.int .i64 xk)∧W'.cell? ⟨w.heap.size,1,none⟩=some (.int .i64 xl)∧W'.cell? ⟨w.heap.size,2,none⟩=some (.int .i64 xn)∧W'.cell? ⟨w.heap.size,3,none⟩=some (.slice t1 t2 t3)∧W'.cell? ⟨w.heap.size,4,none⟩=some (.slice k1 k2 k3)∧W'.cell? ⟨w.heap.size,5,none⟩=some (.slice r1 r2 r3)∧W'.cell? ⟨w.heap.size,6,none⟩=some (.string ⟨xc.toArray⟩)∧W'.cell? ⟨w.heap.size,7,none⟩=some (.slice q1 q2 q3)∧W'.cell? ⟨w.heap.size,8,none⟩=some (.bool xb)∧W'.cell? ⟨w.heap.size,9,none⟩=some (.bool xa))) (by kernel_rfl) ?_ (fun hHeld=>?_)
 ·exact HSX.out _ rfl
 refine zK (i:=0) (v:= .pointer (some ⟨pb,po,none⟩)) rfl ?_;simp only[zT,zS,zZ,Act.put,yT,yZ,yS];refine zK (i:=1) (v:= .pointer (some ⟨pb,po,none⟩)) rfl ?_;simp only[zT,zS,zZ,Act.put,yT,yZ,yS];refine zK (i:=3) (v:= .agg #[.int .i64 xk,.int .i64 xl,.int .i64 xn,.slice t1 t2 t3,.slice k1 k2 k3,.slice r1 r2 r3,.string ⟨xc.toArray⟩,.slice q1 q2 q3,.bool xb,.bool xa]) rfl ?_;simp only[zT,zS,zZ,Act.put,yT,yZ,yS];refine wpAnyH_ready (rs:=[2,5]) (by kernel_rfl) (by simp) ?_;refine AllReadyH.cons rfl (fun K hK=>?_) (AllReadyH.cons rfl (fun K hK=>?_) AllReadyH.nil)
 ·try simp only[zT,zS,zZ]
  go_simp;refine hK.out _ _ ?_ (fun hHeld=>?_)
  ·exact HSX.out _ rfl
  clear hK K
  try simp only[zT,zS,zZ,Act.put,yT,yZ,yS]
  refine zK (i:=4) (v:= .int .i64 (kn:Int)) rfl ?_;simp only[zT,zS,zZ,Act.put,yT,yZ,yS];refine wpAnyH_ready (rs:=[5]) (by kernel_rfl) (by simp) ?_;refine AllReadyH.cons rfl (fun K hK=>?_) AllReadyH.nil
  try simp only[zT,zS,zZ]
  go_simp;refine hK.out _ _ ?_ (fun hHeld=>?_)
  ·exact HSX.out _ (Ql W0.drew _ hwl)
  clear hK K
  try simp only[zT,zS,zZ,Act.put,yT,yZ,yS]
  exact QTX
 ·try simp only[zT,zS,zZ]
  go_simp;refine hK.out _ _ ?_ (fun hHeld=>?_)
  ·exact HSX.out _ (Ql W0.drew _ hwl)
  clear hK K
  try simp only[zT,zS,zZ,Act.put,yT,yZ,yS]
  refine wpAnyH_ready (rs:=[2]) (by kernel_rfl) (by simp) ?_;refine AllReadyH.cons rfl (fun K hK=>?_) AllReadyH.nil
  try simp only[zT,zS,zZ]
  go_simp;refine hK.out _ _ ?_ (fun hHeld=>?_)
  ·exact HSX.out _ (Ql W0.drew _ hwl)
  clear hK K
  try simp only[zT,zS,zZ,Act.put,yT,yZ,yS]
  refine zK (i:=4) (v:= .int .i64 (kn:Int)) rfl ?_;simp only[zT,zS,zZ,Act.put,yT,yZ,yS];exact QTX
theorem BM.title {m:Bool} {X R:Nat→Prop} {w:World} {b:Nat} {t:Bt} (h:BM m X R w b t) (n:Nm):
  BM m X R ((((w.setCell ⟨b,0,none⟩ (.string ⟨n.a.toArray⟩)).setCell ⟨b,1,none⟩ (.string ⟨n.b.toArray⟩)).setCell ⟨b,2,none⟩ (.string ⟨n.c.toArray⟩)).setCell ⟨b,3,none⟩ (.string ⟨n.d.toArray⟩)) b {t with nm:=n}∧
  Exc X w ((((w.setCell ⟨b,0,none⟩ (.string ⟨n.a.toArray⟩)).setCell ⟨b,1,none⟩ (.string ⟨n.b.toArray⟩)).setCell ⟨b,2,none⟩ (.string ⟨n.c.toArray⟩)).setCell ⟨b,3,none⟩ (.string ⟨n.d.toArray⟩)):=by
 have hs:=h.self;obtain⟨kv,ov,pa,LO,lab,h1,h2⟩:=h;have hE:Exc (fun k=>k=b) w ((((w.setCell ⟨b,0,none⟩ (.string ⟨n.a.toArray⟩)).setCell ⟨b,1,none⟩ (.string ⟨n.b.toArray⟩)).setCell ⟨b,2,none⟩ (.string ⟨n.c.toArray⟩)).setCell ⟨b,3,none⟩ (.string ⟨n.d.toArray⟩)):=
  ((((Exc.refl (fun k=>k=b) w).set 0 _ (fun _=>rfl)).set 1 _ (fun _=>rfl)).set 2 _ (fun _=>rfl)).set 3 _ (fun _=>rfl)
 have hbox:=(((h1.box.set 0 (.string ⟨n.a.toArray⟩)).set 1 (.string ⟨n.b.toArray⟩)).set 2 (.string ⟨n.c.toArray⟩)).set 3 (.string ⟨n.d.toArray⟩);obtain⟨F,hF⟩: ∃F,(((w.setCell ⟨b,0,none⟩ (.string ⟨n.a.toArray⟩)).setCell ⟨b,1,none⟩ (.string ⟨n.b.toArray⟩)).setCell ⟨b,2,none⟩ (.string ⟨n.c.toArray⟩)).setCell ⟨b,3,none⟩ (.string ⟨n.d.toArray⟩)=F:=⟨_,rfl⟩;rw[hF]at hE hbox ⊢;have kS: ∀k,k<w.heap.size→lab k≠1→F.heap[k]? =w.heap[k]? :=fun k q1 q2=>hE.block k q1 (fun e=>q2 (by rw[e];exact h1.lb))
 have kR:Kp R w F:=fun k q=>kS k (h1.rl k q) (by rw[h1.sep k q];decide)
 have kz: ∀z,z≠0→z≠1→Kp (fun k=>lab k=z) w F:=fun z a0 a1 k q=>kS k (h1.ll k (by rw[show lab k=z from q];exact a0)) (by rw[show lab k=z from q];exact a1)
 refine⟨⟨kv,ov,pa,LO,lab,⟨fun k q=>O0 (h1.ll k q) hE.size,fun k q=>O0 (h1.rl k q) hE.size,h1.sep,h1.lb,hbox,h1.kids.keep kR (kz 2 (by decide) (by decide)),h1.opn.kp (fun k e=>kz 3 (by decide) (by decide) k (h1.opb k e)),h1.opb,h1.ol,
  fun i x y p q=>⟨(h1.on i x y p q).1.keep kR,(h1.on i x y p q).2.keep kR (kz _ (by omega) (by omega))⟩,lG.keep (t:=t) h1.para kR (fun k q=>q.elim (kz 4 (by decide) (by decide) k) (kz 5 (by decide) (by decide) k))⟩,h2⟩,hE.mono (fun k _ e=>by rw[e];exact hs)⟩
theorem Dc {m:Bool} {X R:Nat→Prop} {w:World} {b:Nat} {t:Bt} (h:BM m X R w b t) (n:Nm):
  Calls Tryz.prog 82 #[dW b,.string ⟨n.a.toArray⟩,.string ⟨n.b.toArray⟩,.string ⟨n.c.toArray⟩,.string ⟨n.d.toArray⟩] w fun e w'=>e= .returned (.tuple #[])∧BM m X R w' b {t with nm:=n}∧Exc X w w':=by
 have HF:=zH (h.title n);obtain⟨kv,ov,pa,LO,lab,h1,h2⟩:=h;have c0:=h1.box.cell 0;have c1:=h1.box.cell 1;have c2:=h1.box.cell 2;have c3:=h1.box.cell 3;simp only[bM,OY,OZ]at c0 c1 c2 c3;have f0:w.frozen? ⟨b,0,none⟩=false:=h1.box.frozen (by simp[bM]);have f1:w.frozen? ⟨b,1,none⟩=false:=h1.box.frozen (by simp[bM]);have f2:w.frozen? ⟨b,2,none⟩=false:=h1.box.frozen (by simp[bM]);have f3:w.frozen? ⟨b,3,none⟩=false:=h1.box.frozen (by simp[bM]);clear h1 h2;go_enter Tryz.func82,Tryz.ntmps82
 go_wp2_with fail
 go_end0;exact⟨rfl,HF.out⟩
def Ox (l:List Nd) (k:Int) (r:Int):Prop:=(r= -1∧ ∀y∈l,y.hd.kind≠k)∨ ∃p y,r=((p:Nat):Int)∧l[p]? =some y∧y.hd.kind=k∧ ∀q z,p<q→l[q]? =some z→z.hd.kind≠k
theorem Gy {m:Bool} {X R:Nat→Prop} {w:World} {b:Nat} {t:Bt} (h:BM m X R w b t) (k:Int) (hl:t.opn.length≤400000):
  Calls Tryz.prog 125 #[dW b,.int .i64 k] w fun e w'=> ∃r,e= .returned (.int .i64 r)∧Ox t.opn k r∧w=w':=by
 have HD:=zH (kY h);obtain⟨kv,ov,pa,LO,lab,h1,h2⟩:=h;obtain⟨oa,oc,eo,hoc⟩:=h1.olen;have c5:w.cell? ⟨b,5,none⟩=some (.slice oa t.opn.length oc):=by rw[h1.box.cell 5,←eo];rfl
 have HAT:Hid (∀(i:Nat) y,t.opn[i]? =some y→ ∃g,oa=some ⟨g,0,none⟩∧w.cell? ⟨g,i*10,none⟩=some (.int .i64 y.hd.kind)):=zH (fun i y hy=>by
  obtain⟨g,c,x,e,-,-,-,hc,hH,-⟩:=h1.at hy;rw[eo]at e;injection e with e1
  refine⟨g,e1,?_⟩;have:=(hc 0 _ rfl).1;rw[hH.kind]at this;exact this)
 obtain⟨l,hl0⟩: ∃l,t.opn=l:=⟨_,rfl⟩;rw[hl0]at HD c5 HAT hl ⊢;clear h1 h2 eo hoc hl0;go_enter Tryz.func125,Tryz.ntmps125
 go_wp2_with fail
 refine HD.out.mono ?_;rintro e w1 ⟨rfl,rfl⟩;clear HD;go_wp2_with fail
 go_loopw [5] (fun s wr=> ∃n:Nat,n≤l.length∧s= .int .i64 ((n:Int)-1)∧Hid (∀q z,n≤q→l[q]? =some z→z.hd.kind≠k)∧w=wr) (fun s _=>(intOf s+1).toNat)
 case atStart=>exact⟨l.length,OW _,by go_num,zH (fun q z hq hz=>by rw[Ra hq]at hz;cases hz),rfl⟩
 case round=>
  obtain⟨n,hn,rfl,HN,rfl⟩:=hrel
  by_cases h0:0<n
  ·obtain⟨p,rfl⟩: ∃p,n=p+1:=⟨n-1,by omega⟩
   obtain⟨y,hy⟩: ∃y,l[p]? =some y:=⟨l[p]'(by omega),OU _⟩;obtain⟨g,rfl,c0⟩:=HAT.out p y hy;have HY:=zH hy;have hi0:(p:Int)<(l.length:Int):=by omega
   have hi1:(0:Int)≤(p:Int):=by omega
   have e1:((p+1:Nat):Int)-1=(p:Int):=by omega
   rw[e1];obtain⟨z,hz⟩: ∃z,y.hd.kind=z:=⟨_,rfl⟩;rw[hz]at c0;have HZ:=zH hz;clear hy hz e1
   by_cases hk:z=k
   ·subst hk
    go_wp2_with fail
    go_ret;exact⟨_,rfl,.inr ⟨p,y,rfl,HY.out,HZ.out,fun q x hq hx=>HN.out q x (by omega) hx⟩,rfl⟩
   ·have hq:(z==k)=false:=by simpa using hk
    have HK:=zH hk;go_wp2_with fail
    go_roundw
    case rel=>exact⟨p,by omega,by go_num,zH (fun q x hq hx=>by
     by_cases e:q=p
     ·subst e
      rw[HY.out]at hx;obtain rfl:=Ph hx;rw[HZ.out];exact HK.out
     ·exact HN.out q x (by omega) hx),by first | trivial | rfl⟩
    case measure=>(simp[intOf];try omega)
  ·obtain rfl:n=0:=by omega
   go_wp2_with fail
   go_ret;exact⟨-1,rfl,.inl ⟨rfl,fun y hy=>by
    obtain⟨q,hq⟩:=Qw.1 hy;exact HN.out q y (Qr _) hq⟩,rfl⟩
section
noncomputable def yB (x hi:Value):Sem Value:=Instr.slice 36 x none (some hi) none
theorem xB (x hi:Value):Instr.slice 36 x none (some hi) none=yB x hi:=rfl
noncomputable def JH (x lo:Value):Sem Value:=Instr.slice 36 x (some lo) none none
theorem zm (x lo:Value):Instr.slice 36 x (some lo) none none=JH x lo:=rfl
noncomputable def KV (x lo hi:Value):Sem Value:=Instr.slice 36 x (some lo) (some hi) none
theorem BA (x lo hi:Value):Instr.slice 36 x (some lo) (some hi) none=KV x lo hi:=rfl
noncomputable def MH (x lo hi mx:Value):Sem Value:=Instr.slice 36 x (some lo) (some hi) (some mx)
theorem Bw (x lo hi mx:Value):Instr.slice 36 x (some lo) (some hi) (some mx)=MH x lo hi mx:=rfl
noncomputable def LH (args:Array Value):Sem Next:=do pure (.value (←Builtin.clear_ #[36] 0 args))
theorem yJ (cs:Array Bool) (args:Array Value):builtin .clear #[36] 0 cs args=LH args:=rfl
theorem NL (w:World):(zeroValue 58).run Tryz.prog w= .ok (.agg zNd.toArray) w:=by kernel_rfl
theorem F9 (g N c k:Nat) (hk:k≤c) (W:World):(yB (.slice (some ⟨g,0,none⟩) N c) (.int .i64 (k:Int))).run Tryz.prog W= .ok (.slice (some ⟨g,0,none⟩) k c) W:=by
 obtain⟨i0,hi,hz0,hz1,hz2⟩:=PU kJ;unfold yB;simp[Instr.slice,Instr.sliceBounds,Instr.sliceBound,asIntOf,PZ Tryz.underlying36,hk,sizeOf,typeInfo,hi];intro _;rfl
theorem JG (g N c:Nat) (hc:N≤c): ∃u,(∀W,(JH (.slice (some ⟨g,0,none⟩) N c) (.int .i64 (N:Int))).run Tryz.prog W= .ok (.slice (some u) 0 (c-N)) W):=by
 obtain⟨i0,hi,hz0,hz1,hz2⟩:=PU kJ;refine⟨if c=N then⟨g,0,none⟩ else(⟨g,0,none⟩:Addr).add (N*10),fun W=>?_⟩;unfold JH
 by_cases hcn:c=N
 ·subst hcn
  simp[Instr.slice,Instr.sliceBounds,Instr.sliceBound,asIntOf,PZ Tryz.underlying36,sizeOf,typeInfo,hi,hz1]
 ·simp[Instr.slice,Instr.sliceBounds,Instr.sliceBound,asIntOf,PZ Tryz.underlying36,hc,hcn,sizeOf,typeInfo,hi,hz1]
theorem KU (g N c lo hi':Nat) (h0:lo<hi') (h1:hi'≤c) (W:World):(KV (.slice (some ⟨g,0,none⟩) N c) (.int .i64 (lo:Int)) (.int .i64 (hi':Int))).run Tryz.prog W= .ok (.slice (some ⟨g,lo*10,none⟩) (hi'-lo) (c-lo)) W:=by
 obtain⟨i0,hi,hz0,hz1,hz2⟩:=PU kJ;have h2: ¬c=lo:=by omega
 have h3:lo≤hi':=by omega
 unfold KV;simp[Instr.slice,Instr.sliceBounds,Instr.sliceBound,asIntOf,PZ Tryz.underlying36,h1,h2,h3,sizeOf,typeInfo,hi,hz1,Qo]
theorem Kh (g N c lo hi' mx:Nat) (h0:lo≤hi') (h1:hi'≤mx) (h2:mx≤c) (W:World): ∃u,(MH (.slice (some ⟨g,0,none⟩) N c) (.int .i64 (lo:Int)) (.int .i64 (hi':Int)) (.int .i64 (mx:Int))).run Tryz.prog W= .ok u W:=by
 obtain⟨i0,hi,hz0,hz1,hz2⟩:=PU kJ;unfold MH;simp[Instr.slice,Instr.sliceBounds,Instr.sliceBound,asIntOf,PZ Tryz.underlying36,h0,h1,h2,sizeOf,typeInfo,hi,hz1]
theorem GG (a:Option Addr) (u:Addr) (n c c':Nat) (h:n≤c) (W:World):(yP #[.slice a n c,.slice (some u) 0 c']).run Tryz.prog W= .ok (.value (.slice a n c)) W:=by
 obtain⟨i0,hi,hz0,hz1,hz2⟩:=PU kJ;have hf:=run_firstCells_some (P:=Tryz.prog) W i0.size 0 u 0 c' [] (by simp) (by intro _ _ h';simp at h');unfold yP
 cases a<;>simp[Builtin.append_,PZ Tryz.underlying36,sizeOf,typeInfo,hi,Builtin.lenOf,h,hf,storeCells]
theorem tO {g N c:Nat} {L:List NV}: ∀(vs:List Value) (q:Nat) (W:World),ag 58 10 ae 0 W (.slice (some ⟨g,0,none⟩) N c) L→L.length*10≤q→ag 58 10 ae 0 (W.setCells g q vs) (.slice (some ⟨g,0,none⟩) N c) L
 | [],_,_,h,_=>h
 | v::vs,q,W,h,hq=>tO vs (q+1) _ (h.behind ay hq) (by omega)
theorem Js {W:World} {g n c c':Nat} {L:List NV} {x:NV} (h:ag 58 10 ae 0 W (.slice (some ⟨g,0,none⟩) (n+1) c) (L++ [x])) (hl:L.length=n):
  (LH #[.slice (some ⟨g,n*10,none⟩) 1 c']).run Tryz.prog W= .ok (.value (.tuple #[])) (W.setCells g (n*10) zNd):=by
 have hc: ∀j,j<10→(W.cell? ⟨g,n*10+0+j,none⟩).isSome=true∧W.frozen? ⟨g,n*10+0+j,none⟩=false:=fun j hj=>by
  obtain⟨u,hu⟩: ∃u,(ae x)[j]? =some u:=⟨(ae x)[j]'(by rw[ay];exact hj),OU _⟩;have hx:(L++ [x])[n]? =some x:=by rw[←hl];simp
  obtain⟨q1,q2⟩:=h.slotA ay hx hu;rw[PW];exact⟨by rw[q1];rfl,q2⟩
 have hst:=run_storeCells_cells (P:=Tryz.prog) g (n*10) zNd 0 W (fun j hj=>(hc j hj).1) (fun j hj=>(hc j hj).2) (fun v hv=>by
  have hv':v∈ae (⟨0,0,0,aj,aj,aj,[],aj,false,false⟩:NV):=hv;exact jF _ v hv')
 rw[PW]at hst;have hz:(Builtin.zeroCells #[.int .i64 0,.int .i64 0,.int .i64 0,.slice none 0 0,.slice none 0 0,.slice none 0 0,.string ⟨#[]⟩,.slice none 0 0,.bool false,.bool false] 1).toList=zNd:=by kernel_rfl
 unfold LH;simp[Builtin.clear_,PZ Tryz.underlying36,NL,Value.cells,hz,hst]
def NH (g n c:Nat) (L:List NV) (w:World) (e:Ending) (w':World):Prop:=e= .returned (.slice (some ⟨g,0,none⟩) n c)∧ag 58 10 ae 0 w' (.slice (some ⟨g,0,none⟩) n c) L∧Exc (· =g) w w'
attribute [local go_sem ↓ high] xB zm BA Bw yJ eH
theorem AX {w:World} {g n c:Nat} {L:List NV} {x:NV} (h:ag 58 10 ae 0 w (.slice (some ⟨g,0,none⟩) (n+1) c) (L++ [x])) (hl:L.length=n) (hn:n≤400000):
  Calls Tryz.prog 97 #[.slice (some ⟨g,0,none⟩) (n+1) c,.int .i64 (n:Int),.int .i64 ((n:Int)+1)] w (NH g n c L w):=by
 have hc:n+1≤c:=by
  obtain⟨a,c',e,hc',-⟩:=ag.sl ay h;injection e with e1 e2 e3
  subst e3;rw[Pb,hl]at hc';exact hc'
 have HFIN:Hid (NH g n c L w (.returned (.slice (some ⟨g,0,none⟩) n c)) (w.drew.setCells g (n*10) zNd)):=zH (by
  refine⟨rfl,?_,?_⟩
  ·have k:=h.cut ay (k:=n) (by rw[Pb,hl];omega)
   rw[←hl,List.take_left]at k;rw[hl]at k;exact tO zNd (n*10) w.drew (k.kp (fun _ _=>rfl)) (by omega)
  ·have k0:Exc (· =g) w w.drew:=⟨rfl,rfl,rfl,OW _,fun _ _ _=>rfl⟩
   exact iT (X:=(· =g)) (a:=w) (g:=g) (fun _=>rfl) zNd (n*10) w.drew k0)
 have e1:((n+1:Nat):Int)=(n:Int)+1:=by omega
 obtain⟨tr,ft⟩:=Kh g (n+1) c n (n+1) (n+1) (by omega) (by omega) hc w;have ff: ∀W:World,(yB (.slice (some ⟨g,0,none⟩) (n+1) c) (.int .i64 (n:Int))).run Tryz.prog W= .ok (.slice (some ⟨g,0,none⟩) n c) W:=fun W=>F9 g _ c n (by omega) W
 obtain⟨u,fb⟩:=JG g (n+1) c hc;have fa: ∀W:World,(yP #[.slice (some ⟨g,0,none⟩) n c,.slice (some u) 0 (c-(n+1))]).run Tryz.prog W= .ok (.value (.slice (some ⟨g,0,none⟩) n c)) W:=fun W=>GG _ u n c _ (by omega) W
 have fm: ∀W:World,(KV (.slice (some ⟨g,0,none⟩) n c) (.int .i64 (n:Int)) (.int .i64 ((n+1:Nat):Int))).run Tryz.prog W= .ok (.slice (some ⟨g,n*10,none⟩) (n+1-n) (c-n)) W:=fun W=>KU g _ c n (n+1) (by omega) hc W
 rw[e1]at ft fm fb;rw[show n+1-n=1 by omega]at fm;have fc:(LH #[.slice (some ⟨g,n*10,none⟩) 1 (c-n)]).run Tryz.prog w.drew= .ok (.value (.tuple #[])) (w.drew.setCells g (n*10) zNd):=Js (h.kp (fun _ _=>rfl)) hl;have hne: ¬(n:Int)=(n:Int)+1:=by omega
 obtain⟨F,hF⟩: ∃F,w.drew.setCells g (n*10) zNd=F:=⟨_,rfl⟩;rw[hF]at fc HFIN;clear h hF;go_enter Tryz.func97,Tryz.ntmps97
 go_wp2_with fail
 go_region
 all_goals
  go_wp2_with fail
  go_ret;exact HFIN.out
end
theorem BM.drop {m:Bool} {X R:Nat→Prop} {w:World} {b:Nat} {t:Bt} (h:BM m X R w b t) {l:List Nd} {y:Nd} (ho:t.opn=l++ [y]):
  ∃g c L x,w.cell? ⟨b,5,none⟩=some (.slice (some ⟨g,0,none⟩) (l.length+1) c)∧ag 58 10 ae 0 w (.slice (some ⟨g,0,none⟩) (l.length+1) c) (L++ [x])∧L.length=l.length∧l.length+1≤c∧
   (∀(j:Nat) u,(ae x)[j]? =some u→w.cell? ⟨g,l.length*10+j,none⟩=some u)∧g≠b∧g<w.heap.size∧b<w.heap.size∧
   ∀W w',Below w.heap.size w W→ag 58 10 ae 0 w' (.slice (some ⟨g,0,none⟩) l.length c) L→Exc (· =g) W w'→
    w'.cell? ⟨b,5,none⟩=some (.slice (some ⟨g,0,none⟩) (l.length+1) c)∧w'.frozen? ⟨b,5,none⟩=false∧
    ∃X' R',BM m X' R' (w'.setCell ⟨b,5,none⟩ (.slice (some ⟨g,0,none⟩) l.length c)) b {t with opn:=l}∧bV R' (w'.setCell ⟨b,5,none⟩ (.slice (some ⟨g,0,none⟩) l.length c)) x y.hd∧NsS R' (w'.setCell ⟨b,5,none⟩ (.slice (some ⟨g,0,none⟩) l.length c)) (pv x.kids) y.kids∧
     Exc X w (w'.setCell ⟨b,5,none⟩ (.slice (some ⟨g,0,none⟩) l.length c))∧(∀k,X' k→X k)∧ ∀k,R' k→R k∨X k:=by
 obtain⟨kv,ov,pa,LO,lab,h1,h2⟩:=h;have hy0:t.opn[l.length]? =some y:=by rw[ho];simp
 obtain⟨g,c,x,eo,hoc,hog,hx0,hcel,hH0,hK0⟩:=h1.at hy0;have htl:t.opn.length=l.length+1:=by rw[ho];simp
 rw[htl]at eo hoc;obtain⟨L,x',hLO⟩: ∃L x',LO=L++ [x']:=by
  rcases QQ LO with e | ⟨r,z,e⟩
  ·subst e
   simp at hx0
  ·exact⟨r,z,by simpa using e⟩
 have hLl:L.length=l.length:=by
  have:=h1.ol;rw[hLO,htl]at this
  simpa using this
 have hxx:x'=x:=by
  rw[hLO,←hLl]at hx0
  simpa using hx0
 subst hxx;have hbg:g≠b:=fun e=>by
  have:=h1.lb;rw[←e,hog]at this;omega
 have hglt:g<w.heap.size:=h1.ll g (by omega);have hblt:b<w.heap.size:=h1.box.lt;have ho1:=h1.opn;rw[eo,hLO]at ho1;refine⟨g,c,L,x',by rw[h1.box.cell 5,←eo];rfl,ho1,hLl,hoc,fun j u hu=>(hcel j u hu).1,hbg,hglt,hblt,fun W w' hb hF hE=>?_⟩;have hEw:Exc (fun k=>k=g) w w':=(Exc.of (X:=fun k=>k=g) hb).trans hE (fun _ _ q=>q);have box':Blk w' b 116 (bM t.nm kv ov pa):=hEw.blk h1.box (fun e=>hbg e.symm);have box2:=box'.set 5 (.slice (some ⟨g,0,none⟩) l.length c);have eb:(bM t.nm kv ov pa).set 5 (.slice (some ⟨g,0,none⟩) l.length c)=bM t.nm kv (some ⟨g,0,none⟩,l.length,c) pa:=rfl;rw[eb]at box2;refine⟨by rw[box'.cell 5,←eo];rfl,box'.frozen (by simp[bM]),?_⟩;obtain⟨F,hFF⟩: ∃F,w'.setCell ⟨b,5,none⟩ (.slice (some ⟨g,0,none⟩) l.length c)=F:=⟨_,rfl⟩;have hEF:Exc (fun k=>k=g∨k=b) w F:=by
  rw[←hFF];exact(hEw.mono (fun k _ q=> .inl q)).set 5 _ (fun _=> .inr rfl)
 have hFo:ag 58 10 ae 0 F (.slice (some ⟨g,0,none⟩) l.length c) L:=hF.kp (fun k e=>by
  obtain rfl:=Ph e;rw[←hFF];exact O8 _ ⟨b,5,none⟩ _ _ hbg)
 rw[hFF]at box2 ⊢;have kS: ∀k,k<w.heap.size→lab k≠3→lab k≠1→F.heap[k]? =w.heap[k]? :=fun k q1 q2 q3=>hEF.block k q1 (fun e=>e.elim (fun e=>q2 (by rw[e];exact hog)) (fun e=>q3 (by rw[e];exact h1.lb)))
 have kR:Kp R w F:=fun k q=>kS k (h1.rl k q) (by rw[h1.sep k q];decide) (by rw[h1.sep k q];decide)
 have kz: ∀z,z≠0→z≠3→z≠1→Kp (fun k=>lab k=z) w F:=fun z a0 a1 a2 k q=>kS k (h1.ll k (by rw[show lab k=z from q];exact a0)) (by rw[show lab k=z from q];exact a1) (by rw[show lab k=z from q];exact a2)
 have hrr: ∀k,R k→R k∨lab k=6+l.length:=fun k q=> .inl q
 have ln: ∀k z,z≠6+l.length→lab k=z→(if lab k=6+l.length then 0 else lab k)=z:=fun k z hz q=>by rw[Pd (by omega),q]
 refine⟨fun k=>(if lab k=6+l.length then 0 else lab k)≠0,fun k=>R k∨lab k=6+l.length,⟨kv,(some ⟨g,0,none⟩,l.length,c),pa,L,fun k=>if lab k=6+l.length then 0 else lab k,⟨fun k q=>?_,fun k q=>?_,fun k q=>?_,ln b 1 (by omega) h1.lb,box2,?_,hFo,fun k e=>?_,hLl,fun i x2 y2 p q=>?_,?_⟩,fun k=>Ri⟩,(hH0.keep kR).mono hrr,?_,hEF.mono (fun k _ q=>(h2 k).2 ?_),fun k q=>(h2 k).2 ?_,fun k q=>?_⟩
 ·refine O0 (h1.ll k fun e=>q ?_) hEF.size
  simp only[e];rw[Pd (by omega)]
 ·exact O0 (q.elim (h1.rl k) (fun q=>h1.ll k (by omega))) hEF.size
 ·rcases q with q | q
  ·have:=h1.sep k q
   exact ln k 0 (by omega) this
  ·simp only[q];simp
 ·exact(h1.kids.keep kR (kz 2 (by decide) (by decide) (by decide))).mono hrr (fun k q=>ln k 2 (by omega) q)
 ·obtain rfl:=Ph e
  exact ln _ 3 (by omega) hog
 ·have hil:i<l.length:=(OV.1 q).1
  obtain⟨q1,q2⟩:=h1.on i x2 y2 (by rw[hLO,PE (by omega)];exact p) (by rw[ho,PE hil];exact q);exact⟨(q1.keep kR).mono hrr,(q2.keep kR (kz _ (by omega) (by omega) (by omega))).mono hrr (fun k z=>ln k _ (by omega) z)⟩
 ·have:=lG.keep (t:={t with opn:=l}) h1.para kR (fun k q=>q.elim (kz 4 (by decide) (by decide) (by decide) k) (kz 5 (by decide) (by decide) (by decide) k))
  exact lG.relab this hrr (fun k q=>ln k 4 (by omega) q) (fun k q=>ln k 5 (by omega) q)
 ·exact(hK0.keep kR (kz _ (by omega) (by omega) (by omega))).nss
 ·rcases q with q | q
  ·rw[q];omega
  ·rw[q,h1.lb];omega
 ·intro e
  apply q;simp only[e];rw[Pd (by omega)]
 ·exact q.imp id (fun q=>(h2 k).2 (by omega))
def AfC (m:Bool) (X R:Nat→Prop) (b:Nat) (t':Bt) (w w':World):Prop:= ∃X' R',BM m X' R' w' b t'∧Exc X w w'∧(∀k,X' k→X k∨w.heap.size≤k)∧ ∀k,R' k→R k∨X k∨w.heap.size≤k
theorem AfB.c {m:Bool} {X R:Nat→Prop} {b:Nat} {t':Bt} {w w':World} (h:AfB m X R b t' w w'):AfC m X R b t' w w':=by
 obtain⟨X',h1,h2,h3⟩:=h;exact⟨X',R,h1,h2,h3,fun k q=> .inl q⟩
theorem AfC.refl {m:Bool} {X R:Nat→Prop} {b:Nat} {t:Bt} {w:World} (h:BM m X R w b t):AfC m X R b t w w:=⟨X,R,h,Exc.refl _ _,fun k q=> .inl q,fun k q=> .inl q⟩
theorem AfC.step {m:Bool} {X R X1 R1:Nat→Prop} {b:Nat} {t1:Bt} {w w1 w2:World} (hE:Exc X w w1) (hX: ∀k,X1 k→X k∨w.heap.size≤k) (hR: ∀k,R1 k→R k∨X k∨w.heap.size≤k) (h:AfC m X1 R1 b t1 w1 w2):AfC m X R b t1 w w2:=by
 obtain⟨X',R',h1,h2,h3,h4⟩:=h;have hs:=hE.size;refine⟨X',R',h1,hE.trans h2 (fun k q z=>(hX k z).elim id (fun z=>by omega)),fun k q=>(h3 k q).elim (hX k) (fun z=> .inr (by omega)),fun k q=>?_⟩;rcases h4 k q with z | z | z
 ·exact hR k z
 ·exact .inr (hX k z)
 ·exact .inr (.inr (by omega))
def jE:Nat→Bt→Bt
 | 0,t=>t
 | n+1,t=>jE n (jR t)
theorem iE: ∀(n:Nat) (t:Bt),jE (n+1) t=jR (jE n t)
 | 0,t=>rfl
 | n+1,t=>iE n (jR t)
theorem tF: ∀(n:Nat) (t:Bt),(jE n t).opn.length=t.opn.length-n
 | 0,t=>rfl
 | n+1,t=>by rw[iE,oH,tF n t];omega
theorem tH: ∀(n:Nat) (t:Bt),btl (jE n t)=btl t
 | 0,t=>rfl
 | n+1,t=>by rw[iE,rD,tH n t]
theorem zF: ∀(n:Nat) (t:Bt),lh (jE n t)=lh t
 | 0,t=>rfl
 | n+1,t=>by rw[iE,KA,zF n t]
theorem tC: ∀(n:Nat) (t:Bt),qz t (jE n t)
 | 0,t=>⟨rfl,rfl,rfl,rfl⟩
 | n+1,t=>by rw[iE];exact(tC n t).trans (EZ _)
theorem xQ: ∀l:List Nd,l.length≤nlL l:=fun l=>by
 have:=mW l;have:=mV l;omega
theorem eO {t:Bt} {N:Nat} (h:btl t≤N):t.kids.length≤N∧t.opn.length≤N∧(∀y∈t.opn,y.kids.length≤N)∧t.text.length≤N:=by
 unfold btl at h;have h1:=xQ t.kids;have h2:=xQ t.opn;refine⟨by omega,by omega,fun y hy=>?_,by omega⟩;obtain⟨q,hq⟩:=Qw.1 hy;have h3:=wu hq;have h4:=xQ y.kids;omega
def wT (m:Bool) (X R:Nat→Prop) (b:Nat) (t':Bt) (w:World) (e:Ending) (w':World):Prop:=e= .returned (.tuple #[])∧AfC m X R b t' w w'
theorem kZ {m:Bool} {X R:Nat→Prop} {w:World} {b:Nat} {t:Bt} (h:BM m X R w b t) (d:Nat) (hb:btl t≤200000) (hd:d≤200000):
  Calls Tryz.prog 64 #[dW b,.int .i64 (d:Int)] w (wT m X R b (jE (t.opn.length-d) t) w):=by
 have HD:=zH (kY h);have H0:=zH (AfC.refl h);have HBT:=zH hb;have hol:=(eO hb).2.1;obtain⟨N,hN⟩: ∃N,t.opn.length=N:=⟨_,rfl⟩;have HN:=zH hN;rw[hN]at HD hol ⊢;clear h hb hN;go_enter Tryz.func64,Tryz.ntmps64
 go_wp2_with fail
 refine HD.out.mono ?_;rintro e w1 ⟨rfl,rfl⟩;clear HD;go_wp2_with fail
 go_loopw [4,5] (fun s _ wr=> ∃n:Nat,n≤N∧s= .int .i64 (n:Int)∧(n=N∨d≤n)∧Hid (AfC m X R b (jE (N-n) t) w wr)) (fun s _ _=>(intOf s).toNat)
 case atStart=>exact⟨N,OW _,rfl,.inl rfl,by rw[QW];exact H0⟩
 case round=>
  obtain⟨n,hn,rfl,hnd,HA⟩:=hrel
  by_cases hlt:d<n
  ·obtain⟨p,rfl⟩: ∃p,n=p+1:=⟨n-1,by omega⟩
   obtain⟨X1,R1,hB,hE,hX,hR⟩:=HA.out;have hbl:=tH (N-(p+1)) t;have hlen:=tF (N-(p+1)) t;have hsm:=eO (show btl (jE (N-(p+1)) t)≤200000 by rw[hbl];exact HBT.out);have hpop:=iE (N-(p+1)) t;rw[show N-(p+1)+1=N-p by omega]at hpop;obtain⟨tj,htj⟩: ∃tj,jE (N-(p+1)) t=tj:=⟨_,rfl⟩;rw[htj]at hB hlen hsm hpop;rw[HN.out]at hlen;obtain⟨l,y,ho⟩: ∃l y,tj.opn=l++ [y]:=by
    rcases dF tj.opn with e | q
    ·rw[e]at hlen;simp at hlen;omega
    ·exact q
   have hl:l.length=p:=by
    rw[ho]at hlen;simp at hlen;omega
   rw[jD ho]at hpop;obtain⟨g,c,L,x,c5,hOW,hLl,hgc,hcel,hgb,hgl,hbl2,hDR⟩:=hB.drop ho;rw[hl]at c5 hOW hLl hgc hcel hDR;have hcl:=HN;obtain⟨W1,hW1⟩: ∃W,W=wr.alloc (.cells (ae x).toArray 58):=⟨_,rfl⟩;have b1:Below wr.heap.size wr W1:=by rw[hW1];exact af _ _
   have kx:Blk W1 wr.heap.size 58 (ae x):=by rw[hW1];exact O9 wr _
   have hOW1:ag 58 10 ae 0 W1 (.slice (some ⟨g,0,none⟩) (p+1) c) (L++ [x]):=hOW.kp (fun k e=>by
    obtain rfl:=Ph e;exact b1.block _ hgl)
   have HDEL:=zH (AX (n:=p) hOW1 hLl (by omega));have d5:W1.cell? ⟨b,5,none⟩=some (.slice (some ⟨g,0,none⟩) (p+1) c):=(b1.cell (p:=⟨b,5,none⟩) hbl2).trans c5;have HPUT:Hid (∀w2,NH g p c L W1 (.returned (.slice (some ⟨g,0,none⟩) p c)) w2→w2.cell? ⟨b,5,none⟩=some (.slice (some ⟨g,0,none⟩) (p+1) c)∧w2.frozen? ⟨b,5,none⟩=false∧
     (∀(j:Nat) u,(ae x)[j]? =some u→(w2.setCell ⟨b,5,none⟩ (.slice (some ⟨g,0,none⟩) p c)).cell? ⟨wr.heap.size,j,none⟩=some u)∧
     Calls Tryz.prog 95 #[dW b,.agg (ae x).toArray] (w2.setCell ⟨b,5,none⟩ (.slice (some ⟨g,0,none⟩) p c)) fun e w'=>e= .returned (.tuple #[])∧AfC m X R b (jE (N-p) t) w w'):=zH (fun w2 ⟨_,q1,q2⟩=>by
    obtain⟨e5,f5,X2,R2,hB2,hH2,hK2,hE2,hX2,hR2⟩:=hDR W1 w2 b1 q1 q2;refine⟨e5,f5,fun j u hu=>?_,?_⟩
    ·have hne:wr.heap.size≠b:=by omega
     have hne2:wr.heap.size≠g:=by omega
     rw[aR ((O8 w2 ⟨b,5,none⟩ _ _ hne).trans (q2.block _ kx.lt hne2)),kx.cell j];exact hu
    ·have hs2:({tj with opn:=l}:Bt).kids.length≤400000:=by show tj.kids.length≤_;omega
     refine(uM hB2 hH2 hK2 hs2 (fun z hz=>?_) (by show l.length≤_;omega)).mono ?_
     ·have:=hsm.2.2.1 z (by rw[ho];exact List.mem_append_left _ hz)
      omega
     ·rintro e w' ⟨h1,h2⟩
      refine⟨h1,?_⟩;rw[hpop];refine AfC.step hE hX hR (AfC.step hE2 (fun k q=> .inl (hX2 k q)) (fun k q=>(hR2 k q).elim .inl (fun q=> .inr (.inl q))) h2.c))
   have hi0:(d:Int)<(p:Int)+1:=by omega
   have hi1:(0:Int)≤(p:Int):=by omega
   have hi2:(p:Int)≤200000:=by omega
   have hi3:(d:Int)<((p+1:Nat):Int):=by omega
   obtain⟨xk,xl,xn,⟨t1,t2,t3⟩,⟨k1,k2,k3⟩,⟨r1,r2,r3⟩,xc,⟨q1,q2,q3⟩,xb,xa⟩:=x;simp only[ae,pv]at hcel hW1 HPUT;have x0:=hcel 0 _ rfl;have x1:=hcel 1 _ rfl;have x2:=hcel 2 _ rfl;have x3:=hcel 3 _ rfl;have x4:=hcel 4 _ rfl;have x5:=hcel 5 _ rfl;have x6:=hcel 6 _ rfl;have x7:=hcel 7 _ rfl;have x8:=hcel 8 _ rfl;have x9:=hcel 9 _ rfl;simp only[PW]at x0;have HW1:=zH hW1;have HWW:=zH (show wr.heap.size<W1.heap.size from kx.lt);clear hcel hW1 b1 kx hOW1 hOW hDR hB hE hX hR hpop hbl hlen hsm ho hcl hgb hgl hbl2 HA hol;go_upto_region 4 with fail
   rw[←HW1.out];clear x0 x1 x2 x3 x4 x5 x6 x7 x8 x9 c5;go_wp2_with fail
   refine HDEL.out.mono ?_;rintro e w2 ⟨rfl,hq1,hq2⟩;obtain⟨e5,f5,hxc,hcall⟩:=HPUT.out w2 ⟨rfl,hq1,hq2⟩;have x0:=hxc 0 _ rfl;have x1:=hxc 1 _ rfl;have x2:=hxc 2 _ rfl;have x3:=hxc 3 _ rfl;have x4:=hxc 4 _ rfl;have x5:=hxc 5 _ rfl;have x6:=hxc 6 _ rfl;have x7:=hxc 7 _ rfl;have x8:=hxc 8 _ rfl;have x9:=hxc 9 _ rfl;have HC:=zH hcall;clear hcall hxc hq1 hq2 HDEL HPUT;go_wp2_with fail
   refine HC.out.mono ?_;rintro e w3 ⟨rfl,hA⟩;have HA3:=zH hA;clear hA HC x0 x1 x2 x3 x4 x5 x6 x7 x8 x9 e5 f5;go_wp2_with fail
   go_roundw
   case rel=>exact⟨p,by omega,by go_num,.inr (by omega),HA3⟩
   case measure=>(simp[intOf];try omega)
  ·have hnd': ¬(d:Int)<(n:Int):=by omega
   have HE:Hid (N-n=N-d):=zH (by omega);go_wp2_with fail
   go_end0;exact⟨rfl,HE.out▸HA.out⟩
theorem aD {W W':World} (hb:Below W.heap.size W W') {g j:Nat} {v:Value} (h:W.cell? ⟨g,j,none⟩=some v):W'.cell? ⟨g,j,none⟩=some v:=(hb.cell (p:=⟨g,j,none⟩) (Po W _ h)).trans h
theorem qw: ∀l:List Gly,trm l=[]↔ink l=[]
 | []=>by simp[trm,ink]
 | g::l=>by
  have ih:=qw l;rw[fE]
  by_cases hg:g.1=32
  ·have e:ink (g::l)=ink l:=by simp[ink,hg]
   rw[e,←ih]
   by_cases ht:trm l=[]
   ·simp[ht,hg]
   ·simp[ht]
  ·have e:ink (g::l)=g::ink l:=by simp[ink,hg]
   rw[e];simp[hg]
theorem BM.flat {m:Bool} {X R:Nat→Prop} {w:World} {b:Nat} {t:Bt} (h:BM m X R w b t) (hh:t.has=true):
  ∃g tv,w.cell? ⟨b,6,none⟩=some (.pointer (some ⟨g,0,none⟩))∧w.frozen? ⟨b,6,none⟩=false∧b<w.heap.size∧g<w.heap.size∧(∀(j:Nat) u,(ae (iN t.line tv))[j]? =some u→w.cell? ⟨g,j,none⟩=some u)∧
   ∀W,Below w.heap.size w W→ ∃X' R',BM m X' R' (W.setCell ⟨b,6,none⟩ (.pointer none)) b (l8 t)∧FsS R' 2 aX (W.setCell ⟨b,6,none⟩ (.pointer none)) (pv tv) t.text∧Exc X w (W.setCell ⟨b,6,none⟩ (.pointer none))∧(∀k,X' k→X k)∧ ∀k,R' k→R k∨X k:=by
 obtain⟨kv,ov,pa,LO,lab,h1,h2⟩:=h;rcases h1.para with⟨q,-⟩| ⟨-,g,tv,rfl,hg,hp⟩
 ·rw[hh]at q;cases q
 refine⟨g,tv,h1.box.cell 6,h1.box.frozen (by simp[bM]),h1.box.lt,hg.lt,fun j u hu=>by rw[hg.cell j];exact hu,fun W hb=>?_⟩;have box':=(h1.box.below hb).set 6 (.pointer none);have eb:(bM t.nm kv ov (.pointer (some ⟨g,0,none⟩))).set 6 (.pointer none)=bM t.nm kv ov (.pointer none):=rfl;rw[eb]at box';obtain⟨F,hFF⟩: ∃F,W.setCell ⟨b,6,none⟩ (.pointer none)=F:=⟨_,rfl⟩;have hEF:Exc (fun k=>k=b) w F:=by
  rw[←hFF];exact(Exc.of (X:=fun k=>k=b) hb).set 6 _ (fun _=>rfl)
 rw[hFF]at box' ⊢;have kS: ∀k,k<w.heap.size→lab k≠1→F.heap[k]? =w.heap[k]? :=fun k q1 q2=>hEF.block k q1 (fun e=>q2 (by rw[e];exact h1.lb))
 have kR:Kp R w F:=fun k q=>kS k (h1.rl k q) (by rw[h1.sep k q];decide)
 have kz: ∀z,z≠0→z≠1→Kp (fun k=>lab k=z) w F:=fun z a0 a1 k q=>kS k (h1.ll k (by rw[show lab k=z from q];exact a0)) (by rw[show lab k=z from q];exact a1)
 have ln: ∀k z,z≠5→lab k=z→(if lab k=5 then 0 else lab k)=z:=fun k z hz q=>by rw[Pd (by omega),q]
 refine⟨fun k=>(if lab k=5 then 0 else lab k)≠0,fun k=>R k∨lab k=5,⟨kv,ov,.pointer none,LO,fun k=>if lab k=5 then 0 else lab k,⟨fun k q=>?_,fun k q=>?_,fun k q=>?_,ln b 1 (by omega) h1.lb,box',?_,h1.opn.kp (fun k e=>kz 3 (by decide) (by decide) k (h1.opb k e)),fun k e=>ln k 3 (by omega) (h1.opb k e),h1.ol,fun i x2 y2 p q=>?_,.inl ⟨rfl,rfl,rfl,rfl⟩⟩,fun k=>Ri⟩,?_,hEF.mono (fun k _ q=>(h2 k).2 (by rw[q,h1.lb];decide)),fun k q=>(h2 k).2 ?_,fun k q=>?_⟩
 ·refine O0 (h1.ll k fun e=>q ?_) hEF.size
  simp only[e];rw[Pd (by omega)]
 ·exact O0 (q.elim (h1.rl k) (fun q=>h1.ll k (by omega))) hEF.size
 ·rcases q with q | q
  ·have:=h1.sep k q
   exact ln k 0 (by omega) this
  ·simp only[q];simp
 ·exact(h1.kids.keep kR (kz 2 (by decide) (by decide))).mono (fun k q=> .inl q) (fun k q=>ln k 2 (by omega) q)
 ·obtain⟨q1,q2⟩:=h1.on i x2 y2 p q
  exact⟨(q1.keep kR).mono (fun k q=> .inl q),(q2.keep kR (kz _ (by omega) (by omega))).mono (fun k q=> .inl q) (fun k z=>ln k _ (by omega) z)⟩
 ·rcases hp with⟨-,-,ho,hob⟩| ⟨-,-,hf⟩
  ·exact(oK ah (ho.kp (fun k e=>kz 5 (by decide) (by decide) k (hob k e)))).mono (fun k e=> .inr (hob k e))
  ·exact(hf.keep kR).mono (fun k q=> .inl q)
 ·intro e
  apply q;simp only[e];rw[Pd (by omega)]
 ·exact q.imp id (fun q=>(h2 k).2 (by omega))
theorem BM.none6 {m:Bool} {X R:Nat→Prop} {w:World} {b:Nat} {t:Bt} (h:BM m X R w b t) (hh:t.has=false):w.cell? ⟨b,6,none⟩=some (.pointer none)∧Mm t:=by
 obtain⟨kv,ov,pa,LO,lab,h1,h2⟩:=h;rcases h1.para with⟨-,rfl,q1,q2⟩| ⟨q,-⟩
 ·exact⟨h1.box.cell 6,q1,q2,hh⟩
 ·rw[hh]at q;cases q
theorem jQ {m:Bool} {X R:Nat→Prop} {w:World} {b:Nat} {t:Bt} (h:BM m X R w b t) (hb:btl t≤90000):
  Calls Tryz.prog 63 #[dW b] w (wT m X R b (bH t) w):=by
 cases hh:t.has with
 | false=>
  obtain⟨c6,hf⟩:=h.none6 hh;have HA:Hid (AfC m X R b (bH t) w w):=zH (by rw[Nt hf];exact AfC.refl h);have hblt:=h.lt b (.inl h.self);clear h hb hh hf;go_enter Tryz.func63,Tryz.ntmps63
  go_wp2_with fail
  go_end0;exact⟨rfl,HA.out⟩
 | true=>
  obtain⟨g,tv,c6,f6,hbl,hgl,hcel,hFL⟩:=h.flat hh;have hsm:=eO hb;obtain⟨W1,hW1⟩: ∃W,W=w.alloc (.cells (ae (iN t.line tv)).toArray 58):=⟨_,rfl⟩;have b1:Below w.heap.size w W1:=by rw[hW1];exact af _ _
  have kx:Blk W1 w.heap.size 58 (ae (iN t.line tv)):=by rw[hW1];exact O9 w _
  obtain⟨X2,R2,hB2,hT2,hE2,hX2,hR2⟩:=hFL W1 b1;obtain⟨F,hF⟩: ∃F,W1.setCell ⟨b,6,none⟩ (.pointer none)=F:=⟨_,rfl⟩;have kxF:Blk F w.heap.size 58 (ae (iN t.line tv)):=by
   rw[←hF];exact kx.other (by omega) 6 _
  rw[hF]at hB2 hT2 hE2;have HTR:=zH (rR t.text (pv tv) F hT2.1 (by omega));have HK:=zH kxF;have HINK:Hid (∀w3,Below F.heap.size F w3→ink t.text=[]→AfC m X R b (bH t) w w3):=zH (fun w3 hb3 e=>by
   have e2:bH t=l8 t:=by unfold bH;rw[Pk e]
   rw[e2];exact⟨X2,R2,hB2.keep (Kp.below hb3 (fun k q=>hB2.lt k (.inl q))) (Kp.below hb3 (fun k q=>hB2.lt k (.inr q))) hb3.size,hE2.trans (Exc.of (X:=fun _=>False) hb3) (fun _ _ q=>q.elim),fun k q=> .inl (hX2 k q),fun k q=>(hR2 k q).elim .inl (fun q=> .inr (.inl q))⟩)
  have HPUT:Hid (∀w3,Below F.heap.size F w3→ink t.text≠ []→Calls Tryz.prog 95 #[dW b,.agg (ae (iN t.line tv)).toArray] w3 fun e w'=>e= .returned (.tuple #[])∧AfC m X R b (bH t) w w'):=zH (fun w3 hb3 e=>by
   have kR3:Kp R2 F w3:=Kp.below hb3 (fun k q=>hB2.lt k (.inr q));have hB3:=hB2.keep (Kp.below hb3 (fun k q=>hB2.lt k (.inl q))) kR3 hb3.size;have hH:bV R2 w3 (iN t.line tv) (fH t).hd:=⟨rfl,rfl,rfl,hT2.keep kR3,GrS.nil _ _,rfl,TrS.nil _ _,rfl,rfl⟩;refine(uM hB3 (y:=fH t) hH (NsS.nil _ _) (by show t.kids.length≤_;omega) (fun y hy=>by have:=hsm.2.2.1 y hy;omega) (by show t.opn.length≤_;omega)).mono ?_;rintro e' w' ⟨h1,h2⟩;refine⟨h1,?_⟩;have e2:bH t=jS (l8 t) (fH t):=by
    unfold bH;rw[Pd e];rcases dF t.opn with q | ⟨l,y,q⟩
    ·rw[fJ _ q,fJ _ (show(l8 t).opn=[] from q)];rfl
    ·rw[gI _ q,gI _ (show(l8 t).opn=l++ [y] from q)];rfl
   rw[e2];have hE3:Exc X w w3:=hE2.trans (Exc.of (X:=fun _=>False) hb3) (fun _ _ q=>q.elim);exact AfC.step hE3 (fun k q=> .inl (hX2 k q)) (fun k q=>(hR2 k q).elim .inl (fun q=> .inr (.inl q))) h2.c)
  have HTL:Hid ((jA t.text).length=0↔ink t.text=[]):=zH (by
   rw[vP,←qw];exact List.length_eq_zero_iff)
  have HTN:Hid ((jA t.text).length≤200000):=zH (by
   rw[pQ];have:=lJ t.text;omega)
  obtain⟨t1,t2,t3⟩:=tv;obtain⟨tx,htx⟩: ∃tx,t.text=tx:=⟨_,rfl⟩;obtain⟨tl,htl⟩: ∃tl,t.line=tl:=⟨_,rfl⟩;rw[htx]at HTR HINK HPUT HTL HTN;rw[htl]at HK HPUT hW1 hcel;simp only[ae,iN,pv,aj]at HTR HK HPUT hW1 hcel;have x0:=hcel 0 _ rfl;have x1:=hcel 1 _ rfl;have x2:=hcel 2 _ rfl;have x3:=hcel 3 _ rfl;have x4:=hcel 4 _ rfl;have x5:=hcel 5 _ rfl;have x6:=hcel 6 _ rfl;have x7:=hcel 7 _ rfl;have x8:=hcel 8 _ rfl;have x9:=hcel 9 _ rfl;have d6:W1.cell? ⟨b,6,none⟩=some (.pointer (some ⟨g,0,none⟩)):=(b1.cell (p:=⟨b,6,none⟩) hbl).trans c6;have e6:W1.frozen? ⟨b,6,none⟩=false:=(b1.frozen (p:=⟨b,6,none⟩) hbl).trans f6;have HW1:=zH hW1;have HFF:=zH hF;clear h hb hh hFL hcel hW1 b1 kx hB2 hT2 hE2 hX2 hR2 kxF hF hsm htx htl hgl;go_enter Tryz.func63,Tryz.ntmps63
  go_upto_region 2 with fail
  rw[←HW1.out];clear x0 x1 x2 x3 x4 x5 x6 x7 x8 x9 c6 f6;go_upto_region 3 with fail
  rw[HFF.out];have y0:=HK.out.cell 0;have y1:=HK.out.cell 1;have y2:=HK.out.cell 2;have y3:=HK.out.cell 3;have y4:=HK.out.cell 4;have y5:=HK.out.cell 5;have y6:=HK.out.cell 6;have y7:=HK.out.cell 7;have y8:=HK.out.cell 8;have y9:=HK.out.cell 9;simp only[OY,OZ]at y0 y1 y2 y3 y4 y5 y6 y7 y8 y9;clear d6 e6 HW1 HFF;go_wp2_with fail
  refine HTR.out.mono ?_;rintro e w3 ⟨u,rfl,ho,hb3⟩;obtain⟨ua,uc,rfl⟩:=(ag.sl ah ho).len;have z0:=aD hb3 y0;have z1:=aD hb3 y1;have z2:=aD hb3 y2;have z3:=aD hb3 y3;have z4:=aD hb3 y4;have z5:=aD hb3 y5;have z6:=aD hb3 y6;have z7:=aD hb3 y7;have z8:=aD hb3 y8;have z9:=aD hb3 y9;have HB3:=zH hb3;have hTN:=HTN.out;obtain⟨n,hn⟩: ∃n,(jA tx).length=n:=⟨_,rfl⟩;rw[hn]at HTL hTN ⊢;clear ho hb3 hn HTN HTR HK y0 y1 y2 y3 y4 y5 y6 y7 y8 y9
  by_cases hn0:n=0
  ·have HQ:=zH (HINK.out w3 HB3.out (HTL.out.1 hn0))
   subst hn0;clear HINK HPUT;go_wp2_with fail
   go_end0;exact⟨rfl,HQ.out⟩
  ·have HQ:=zH (HPUT.out w3 HB3.out (fun e=>hn0 (HTL.out.2 e)))
   have hp:(0:Int)<(n:Int):=by omega
   clear HINK HPUT;go_wp2_with fail
   refine HQ.out.mono ?_;rintro e w4 ⟨rfl,hA⟩;have HA:=zH hA;clear hA HQ;go_wp2_with fail
   go_end0;exact⟨rfl,HA.out⟩
def kds (t:Bt):List Int:=t.opn.map (·.hd.kind)
theorem mM (t:Bt):(kds t).length=t.opn.length:=by simp[kds]
theorem IR {t:Bt} {i:Nat} {y:Nd} (h:t.opn[i]? =some y):(kds t)[i]? =some y.hd.kind:=by simp[kds,h]
theorem Li (t:Bt):kds (jR t)=(kds t).dropLast:=by
 unfold kds;rcases dF t.opn with h | ⟨l,x,h⟩
 ·rw[oG h,h];rfl
 ·rw[jD h,h]
  rcases dF l with h2 | ⟨r,y,h2⟩
  ·rw[fJ x (by exact h2)]
   simp[h2]
  ·rw[gI x (show({t with opn:=l}:Bt).opn=r++ [y] from h2),h2]
   simp[kE,Nd.hd]
theorem Al {t:Bt} {n:Nat} (h:t.opn.length=n+1): ∃y,t.opn.getLast? =some y∧(kds t)[n]? =some y.hd.kind:=by
 rcases dF t.opn with e | ⟨l,y,e⟩
 ·rw[e]at h;simp at h
 ·have hl:l.length=n:=by rw[e]at h;simpa using h
  refine⟨y,by rw[e];simp,?_⟩;apply IR;rw[e,←hl];simp
theorem oV {t:Bt} {n i:Nat} (h:t.opn.length=n+1) (hi:i<n):(kds (jR t))[i]? =(kds t)[i]? :=by
 rw[Li,List.getElem?_dropLast,Pk (by rw[mM];omega)]
theorem tu (k:Int): ∀(n:Nat) (t:Bt) (p:Nat),t.opn.length=n→(kds t)[p]? =some k→(∀(q:Nat) z,p<q→(kds t)[q]? =some z→z≠k)→vZ k n t=jE (n-p) t
 | 0,t,p,h,hp,_=>by
  have:=(OV.1 hp).1;rw[mM]at this;omega
 | n+1,t,p,h,hp,hq=>by
  obtain⟨y,hy,hk⟩:=Al h;have hlt:=(OV.1 hp).1;rw[mM]at hlt;unfold vZ;rw[hy];simp only
  by_cases e:p=n
  ·subst e
   rw[hk]at hp;rw[Pk (Ph hp),show p+1-p=1 by omega];rfl
  ·have hne: ¬y.hd.kind=k:=hq n _ (by omega) hk
   rw[Pd hne,tu k n (jR t) p (by rw[oH,h];rfl) (by rw[oV h (by omega)];exact hp) (fun q z h1 h2=>by
    by_cases hqn:q<n
    ·rw[oV h hqn]at h2
     exact hq q z h1 h2
    ·have:=(OV.1 h2).1
     rw[mM,oH,h]at this;omega),show n+1-p=(n-p)+1 by omega]
   rfl
theorem lN (K:List Int): ∀(n:Nat) (t:Bt) (d:Nat),t.opn.length=n→d≤n→(∀(q:Nat) z,d≤q→(kds t)[q]? =some z→z∈K)→(∀z,0<d→(kds t)[d-1]? =some z→z∉K)→iM K n t=jE (n-d) t
 | 0,t,d,h,hd,_,_=>by
  obtain rfl:d=0:=by omega
  rfl
 | n+1,t,d,h,hd,h1,h2=>by
  obtain⟨y,hy,hk⟩:=Al h;unfold iM;rw[hy];simp only
  by_cases e:d=n+1
  ·subst e
   rw[Pd (h2 _ (by omega) hk),QW];rfl
  ·rw[Pk (h1 n _ (by omega) hk),lN K n (jR t) d (by rw[oH,h];rfl) (by omega) (fun q z hq hz=>by
    by_cases hqn:q<n
    ·rw[oV h hqn]at hz
     exact h1 q z hq hz
    ·have:=(OV.1 hz).1
     rw[mM,oH,h]at this;omega) (fun z h0 hz=>h2 z h0 (by rw[oV h (by omega)]at hz;exact hz)),show n+1-d=(n-d)+1 by omega]
   rfl
def OT (m:Bool) (X R:Nat→Prop) (b:Nat) (t':Bt) (r:Bool) (w:World) (e:Ending) (w':World):Prop:=e= .returned (.bool r)∧AfC m X R b t' w w'
theorem Di {m:Bool} {X R:Nat→Prop} {w:World} {b:Nat} {t:Bt} (h:BM m X R w b t) (k:Int) (hb:btl t≤80000):
  Calls Tryz.prog 88 #[dW b,.int .i64 k] w (OT m X R b (dB t k).1 (dB t k).2 w):=by
 have HE:=zH (jQ h (by omega));have hbe:=eP t;have HBE:Hid (btl (bH t)≤90000):=zH (by omega);clear h hb hbe;go_enter Tryz.func88,Tryz.ntmps88
 go_wp2_with fail
 refine HE.out.mono ?_;rintro e w1 ⟨rfl,X1,R1,hB,hE,hX,hR⟩;obtain⟨te,hte⟩: ∃te,bH t=te:=⟨_,rfl⟩;have HTE:=zH hte;rw[hte]at hB HBE;have hsm:=eO HBE.out;have HF:=zH (Gy hB k (by omega));have HA1:Hid (AfC m X R b te w w1):=zH ⟨X1,R1,hB,hE,hX,hR⟩;have HCL:Hid (∀d:Nat,d≤200000→Calls Tryz.prog 64 #[dW b,.int .i64 (d:Int)] w1 fun e w'=>e= .returned (.tuple #[])∧AfC m X R b (jE (te.opn.length-d) te) w w'):=zH (fun d hd=>by
  refine(kZ hB d (by have:=HBE.out;omega) hd).mono ?_;rintro e w' ⟨h1,h2⟩;exact⟨h1,AfC.step hE hX hR h2⟩)
 have HOL:Hid (te.opn.length≤90000):=zH hsm.2.1;clear HE hB hE hX hR hsm hte;go_wp2_with fail
 refine HF.out.mono ?_;rintro e w2 ⟨r,rfl,hr,rfl⟩;rcases hr with⟨rfl,hn⟩| ⟨p,y,rfl,hy,hk,hq⟩
 ·have hi:bIn te k=false:=by
   unfold bIn;rw[List.any_eq_false];intro y hy
   simpa using hn y hy
  have HC:Hid (dB t k=(te,false)):=zH (by
   unfold dB;rw[HTE.out,Pd (by rw[hi];decide)])
  clear hn hi HF;go_wp2_with fail
  go_ret;refine⟨?_,?_⟩
  ·rw[HC.out];rfl
  ·rw[HC.out];exact HA1.out
 ·have hpl:=(OV.1 hy).1
  have hi:bIn te k=true:=by
   unfold bIn;rw[List.any_eq_true];exact⟨y,P5 hy,by simpa using hk⟩
  have HC:Hid (dB t k=(jE (te.opn.length-p) te,true)):=zH (by
   unfold dB;rw[HTE.out,Pk hi];rw[tu k _ te p rfl (by rw[IR hy,hk]) (fun q z h1 h2=>by
    unfold kds at h2;rw[Qf]at h2
    cases hz:te.opn[q]? with
    | none=>rw[hz]at h2;cases h2
    | some z'=>
     rw[hz]at h2;obtain rfl:=Ph h2;exact hq q z' h1 hz)])
  have HCC:=zH (HCL.out p (by have:=HOL.out;omega));have hp0:(0:Int)≤(p:Int):=by omega
  have hp1: ¬(p:Int)<0:=by omega
  clear hy hk hq hpl hi HF HCL;go_wp2_with fail
  refine HCC.out.mono ?_;rintro e w3 ⟨rfl,hA⟩;have HA:=zH hA;clear hA HCC;go_wp2_with fail
  go_ret;refine⟨?_,?_⟩
  ·rw[HC.out];rfl
  ·rw[HC.out];exact HA.out
def J5 (r k:Int) (l:List Int):Prop:=decide (r≥0)=decide (k∈l)
theorem Dh (k:Int) (l:List Int) (v:Value) (w:World) (hv:Fs 1 gJ w v l) (hl:l.length≤1000000):
  Calls Tryz.prog 153 #[v,.int .i64 k] w fun e w'=> ∃r,e= .returned (.int .i64 r)∧J5 r k l∧w=w':=by
 have HV:=zH hv;obtain⟨aa,ca,rfl⟩:=hv.len;clear hv;go_enter Tryz.func153,Tryz.ntmps153
 go_wp2_with fail
 go_loopw [5,8] (fun _ i wr=> ∃j:Nat,j≤l.length∧i= .int .i64 j∧Hid (k∉l.take j)∧Hid (w=wr)) (fun _ i _=>l.length-(intOf i).toNat)
 case atStart=>exact⟨0,by omega,rfl,zH (by simp),zH rfl⟩
 case round=>
  obtain⟨j,hj,rfl,HN,HW⟩:=hrel
  by_cases hlt:j<l.length
  ·obtain⟨x,hx⟩: ∃x,l[j]? =some x:=⟨l[j],OU hlt⟩
   obtain⟨a0,c0,hv0,-,hr⟩:=HV.out;injection hv0 with e1 e2 e3
   subst e1;obtain⟨g,off,rfl,hc⟩:=hr j x hx;have c0:=hc 0 _ rfl;rw[QU,PW,HW.out]at c0;have hi0:(j:Int)<(l.length:Int):=by omega
   have hi1:(0:Int)≤(j:Int):=by omega
   by_cases hk:x=k
   ·have HT:Hid (J5 (j:Int) k l):=zH (by
     unfold J5;have h1:k∈l:=Qw.2 ⟨j,hk▸hx⟩;simp[h1])
    have hq:(k==x)=true:=by simpa using hk.symm
    subst hk;clear hx hr hc HV;go_wp2_with fail
    go_ret;exact⟨_,rfl,HT.out,HW.out⟩
   ·have HT:Hid (k∉l.take (j+1)):=zH (by
     rw[PD,hx];simp only[Option.toList_some,QP,QE,not_or];exact⟨HN.out,fun e=>hk e.symm⟩)
    have hq:(k==x)=false:=by
     have: ¬k=x:=fun e=>hk e.symm
     simpa using this
    clear hx hr hc;go_wp2_with fail
    go_roundw
    case rel=>exact⟨j+1,by omega,by go_num,HT,HW⟩
    case measure=>(simp[intOf];try omega)
  ·obtain rfl:j=l.length:=by omega
   have hlt': ¬(l.length:Int)<(l.length:Int):=by omega
   rw[PG]at HN;have HT:Hid (J5 (-1) k l):=zH (by unfold J5;simp[HN.out]);go_wp2_with fail
   go_ret;exact⟨_,rfl,HT.out,HW.out⟩
theorem vG (k:Int) (l:List Int) (v:Value) (w:World) (hv:Fs 1 gJ w v l) (hl:l.length≤1000000):
  Calls Tryz.prog 122 #[v,.int .i64 k] w fun e w'=>e= .returned (.bool (decide (k∈l)))∧w=w':=by
 have HI:=zH (Dh k l v w hv hl);obtain⟨aa,ca,rfl⟩:=hv.len;clear hv;go_enter Tryz.func122,Tryz.ntmps122
 go_wp2_with fail
 refine HI.out.mono ?_;rintro e w1 ⟨r,rfl,hr,rfl⟩;have HR:Hid (decide (r≥0)=decide (k∈l)):=zH hr;clear hr HI;go_wp2_with fail
 go_ret;exact⟨aF HR.out,rfl⟩
theorem Gw {m:Bool} {X R:Nat→Prop} {w:World} {b:Nat} {t:Bt} (h:BM m X R w b t) (K:List Int) (v:Value) {S:Nat→Prop} (hv:FsS S 1 gJ w v K) (hS: ∀k,S k→k<w.heap.size∧ ¬X k) (hK:K.length≤1000000) (hb:btl t≤80000):
  Calls Tryz.prog 84 #[dW b,v] w (wT m X R b (aP t K) w):=by
 have HE:=zH (jQ h (by omega));have hbe:=eP t;have HBE:Hid (btl (bH t)≤90000):=zH (by omega);have HV:=zH hv;have HS:=zH hS;obtain⟨va,vc,rfl⟩:=hv.1.len;clear h hb hbe hv hS;go_enter Tryz.func84,Tryz.ntmps84
 go_wp2_with fail
 go_step3
 go_wp2_with fail
 refine HE.out.mono ?_;rintro e w1 ⟨rfl,X1,R1,hB,hE,hX,hR⟩;obtain⟨te,hte⟩: ∃te,bH t=te:=⟨_,rfl⟩;have HTE:=zH hte;rw[hte]at hB HBE;have hsm:=eO HBE.out;have HD:=zH (kY hB);have HCON:Hid (∀k,Calls Tryz.prog 122 #[.slice va K.length vc,.int .i64 k] w1 fun e w'=>e= .returned (.bool (decide (k∈K)))∧w1=w'):=zH (fun k=>vG k K _ w1 (HV.out.keep (fun k q=>hE.block k (HS.out k q).1 (HS.out k q).2)).1 hK);have HCL:Hid (∀d:Nat,d≤200000→Calls Tryz.prog 64 #[dW b,.int .i64 (d:Int)] w1 fun e w'=>e= .returned (.tuple #[])∧AfC m X R b (jE (te.opn.length-d) te) w w'):=zH (fun d hd=>by
  refine(kZ hB d (by have:=HBE.out;omega) hd).mono ?_;rintro e w' ⟨h1,h2⟩;exact⟨h1,AfC.step hE hX hR h2⟩)
 have HAT:Hid (∃oa oc,w1.cell? ⟨b,5,none⟩=some (.slice oa te.opn.length oc)∧ ∀(i:Nat) z,(kds te)[i]? =some z→ ∃g,oa=some ⟨g,0,none⟩∧w1.cell? ⟨g,i*10,none⟩=some (.int .i64 z)):=by
  obtain⟨kv,ov,pa,LO,lab,h1,h2⟩:=hB;obtain⟨oa,oc,eo,-⟩:=h1.olen;refine zH ⟨oa,oc,by rw[h1.box.cell 5,←eo];rfl,fun i z hz=>?_⟩;unfold kds at hz;rw[Qf]at hz
  cases hy:te.opn[i]? with
  | none=>rw[hy]at hz;cases hz
  | some y=>
   rw[hy]at hz;obtain rfl:=Ph hz;obtain⟨g,c,x,e,-,-,-,hc,hH,-⟩:=h1.at hy;rw[eo]at e;injection e with e1
   refine⟨g,e1,?_⟩;have:=(hc 0 _ rfl).1;rw[hH.kind]at this;exact this
 have HOL:Hid (te.opn.length≤90000):=zH hsm.2.1;have HKL:=zH (mM te);obtain⟨N,hN⟩: ∃N,te.opn.length=N:=⟨_,rfl⟩;rw[hN]at HD HAT HOL HKL;have HN:=zH hN;clear HE hB hE hX hR hsm hte hN HV HS;go_wp2_with fail
 refine HD.out.mono ?_;rintro e w2 ⟨rfl,rfl⟩;obtain⟨oa,oc,o5,hat⟩:=HAT.out;have HAT2:=zH hat;clear HD HAT hat;go_wp2_with fail
 go_step3
 go_wp2_with fail
 go_loopw [4,5,21] (fun s _ _ wr=> ∃n:Nat,n≤N∧s= .int .i64 (n:Int)∧Hid (∀(q:Nat) z,n≤q→(kds te)[q]? =some z→z∈K)∧w1=wr) (fun s _ _ _=>(intOf s).toNat)
 case atStart=>exact⟨N,OW _,rfl,zH (fun q z hq hz=>by
  have:=(OV.1 hz).1;have:=HKL.out;omega),rfl⟩
 case round=>
  obtain⟨n,hn,rfl,HALL,rfl⟩:=hrel
  by_cases hlt:0<n
  ·obtain⟨p,rfl⟩: ∃p,n=p+1:=⟨n-1,by omega⟩
   obtain⟨z,hz⟩: ∃z,(kds te)[p]? =some z:=⟨(kds te)[p]'(by have:=HKL.out;omega),OU _⟩;obtain⟨g,rfl,c0⟩:=HAT2.out p z hz;have HC:=zH (HCON.out z);have hp9:(p:Int)≤90000:=by have:=HOL.out;omega
   have HZ:=zH hz;have hi0:(p:Int)<(N:Int):=by omega
   have hi1:(0:Int)≤(p:Int):=by omega
   obtain⟨d,hd⟩: ∃d,decide (z∈K)=d:=⟨_,rfl⟩;rw[hd]at HC;have HD:=zH hd;clear hz hd;go_wp2_with fail
   refine HC.out.mono ?_;rintro e w3 ⟨rfl,rfl⟩;clear HC
   cases d with
   | true=>
    have HALL2:Hid (∀(q:Nat) z,p≤q→(kds te)[q]? =some z→z∈K):=zH (fun q z' hq hz'=>by
     by_cases e:q=p
     ·subst e
      rw[HZ.out]at hz';obtain rfl:=Ph hz';exact Qq HD.out
     ·exact HALL.out q z' (by omega) hz')
    go_wp2_with fail
    go_roundw
    case rel=>exact⟨p,by omega,by go_num,HALL2,by first | trivial | rfl⟩
    case measure=>(simp[intOf];try omega)
   | false=>
    have HSH:Hid (aP t K=jE (N-(p+1)) te):=zH (by
     unfold aP;rw[HTE.out,lN K _ te (p+1) rfl (by rw[HN.out];omega) HALL.out (fun z' _ hz'=>by
      rw[show p+1-1=p by omega,HZ.out]at hz';obtain rfl:=Ph hz';exact of_decide_eq_false HD.out),HN.out])
    have HCC:=zH (HCL.out (p+1) (by have:=HOL.out;omega));rw[HN.out]at HCC;have e1:((p+1:Nat):Int)=(p:Int)+1:=by omega
    rw[e1]at HCC;clear e1;go_wp2_with fail
    refine HCC.out.mono ?_;rintro e w4 ⟨rfl,hA⟩;have HA:=zH hA;clear hA HCC;go_wp2_with fail
    go_end0;exact⟨rfl,HSH.out▸HA.out⟩
  ·obtain rfl:n=0:=by omega
   have HSH:Hid (aP t K=jE (N-0) te):=zH (by
    unfold aP;rw[HTE.out,lN K _ te 0 rfl (by omega) HALL.out (fun z' h0 _=>by omega),HN.out])
   have HCC:=zH (HCL.out 0 (by omega));rw[HN.out]at HCC;simp only[Int.natCast_zero,Int.cast_ofNat_Int]at HCC;go_wp2_with fail
   refine HCC.out.mono ?_;rintro e w4 ⟨rfl,hA⟩;have HA:=zH hA;clear hA HCC;go_wp2_with fail
   go_end0;exact⟨rfl,HSH.out▸HA.out⟩
abbrev MdC (base:Nat) (W:World) (v:Value):Nat→Prop:=fun k=>base≤k∧k<W.heap.size∧v.ownBlock≠some k
structure TI (SI:Nat→Prop) (base:Nat) (W:World) (v:Value) (l:List dm) (j:Nat):Prop where
 lt: ∀b,SI b→b<base
 sz:base≤W.heap.size
 own: ∃L:List (Bool×PV),ag 90 2 bY base W v L∧L.length=l.length∧
  (∀(i:Nat) s r,i<j→L[i]? =some s→l[i]? =some r→s.1=r.1∧GrS (MdC base W v) W (pv s.2) r.2)∧(∀(i:Nat) s r,j≤i→L[i]? =some s→l[i]? =some r→s.1=r.1∧GrS SI W (pv s.2) r.2)
structure KI (SI:Nat→Prop) (base:Nat) (W:World) (v:Value) (l:List Nd) (j:Nat):Prop where
 lt: ∀b,SI b→b<base
 sz:base≤W.heap.size
 own: ∃L:List NV,ag 58 10 ae base W v L∧L.length=l.length∧
  (∀(i:Nat) x y,i<j→L[i]? =some x→l[i]? =some y→bV (MdC base W v) W x y.hd∧NsS (MdC base W v) W (pv x.kids) y.kids)∧(∀(i:Nat) x y,j≤i→L[i]? =some x→l[i]? =some y→bV SI W x y.hd∧NsS SI W (pv x.kids) y.kids)
section
variable {SI:Nat→Prop} {base:Nat} {W W':World} {v:Value} {j:Nat}
theorem MdC.up (hb:W.heap.size≤W'.heap.size): ∀k,MdC base W v k→MdC base W' v k:=fun k q=>⟨q.1,O0 q.2.1 hb,q.2.2⟩
theorem TI.keep {l:List dm} (h:TI SI base W v l j) (hb:Below W.heap.size W W'):TI SI base W' v l j:=by
 obtain⟨L,h1,h2,h3,h4⟩:=h.own;have kI:Kp SI W W':=Kp.below hb (fun b q=>O0 (h.lt b q) h.sz);have kM:Kp (MdC base W v) W W':=Kp.below hb (fun b q=>q.2.1);exact⟨h.lt,Pp h.sz hb.size,L,h1.keep hb,h2,fun i s r a c d=>⟨(h3 i s r a c d).1,((h3 i s r a c d).2.keep kM).mono (MdC.up hb.size)⟩,fun i s r a c d=>⟨(h4 i s r a c d).1,(h4 i s r a c d).2.keep kI⟩⟩
theorem KI.keep {l:List Nd} (h:KI SI base W v l j) (hb:Below W.heap.size W W'):KI SI base W' v l j:=by
 obtain⟨L,h1,h2,h3,h4⟩:=h.own;have kI:Kp SI W W':=Kp.below hb (fun b q=>O0 (h.lt b q) h.sz);have kM:Kp (MdC base W v) W W':=Kp.below hb (fun b q=>q.2.1);exact⟨h.lt,Pp h.sz hb.size,L,h1.keep hb,h2,fun i s r a c d=>⟨((h3 i s r a c d).1.keep kM).mono (MdC.up hb.size),((h3 i s r a c d).2.keep kM).mono (MdC.up hb.size)⟩,fun i s r a c d=>⟨(h4 i s r a c d).1.keep kI,(h4 i s r a c d).2.keep kI⟩⟩
theorem TI.set {l:List dm} (h:TI SI base W v l j) {g o:Nat} {u:Value} (hg:g<base) (hS: ¬SI g):TI SI base (W.setCell ⟨g,o,none⟩ u) v l j:=by
 obtain⟨L,h1,h2,h3,h4⟩:=h.own;have ne: ∀k,k≠g→(W.setCell ⟨g,o,none⟩ u).heap[k]? =W.heap[k]? :=fun k q=>O8 W ⟨g,o,none⟩ u k q
 have kI:Kp SI W (W.setCell ⟨g,o,none⟩ u):=fun k q=>ne k (fun e=>hS (e▸q))
 have kM:Kp (MdC base W v) W (W.setCell ⟨g,o,none⟩ u):=fun k q=>ne k (fun e=>by have:=q.1;omega)
 have hz:(W.setCell ⟨g,o,none⟩ u).heap.size=W.heap.size:=fF _ _ _;exact⟨h.lt,by rw[hz];exact h.sz,L,h1.kp (fun k e=>ne k (fun e2=>by have:=(h1.ty e).1;omega)),h2,fun i s r a c d=>⟨(h3 i s r a c d).1,((h3 i s r a c d).2.keep kM).mono (MdC.up (Q7 hz.symm))⟩,fun i s r a c d=>⟨(h4 i s r a c d).1,(h4 i s r a c d).2.keep kI⟩⟩
theorem KI.set {l:List Nd} (h:KI SI base W v l j) {g o:Nat} {u:Value} (hg:g<base) (hS: ¬SI g):KI SI base (W.setCell ⟨g,o,none⟩ u) v l j:=by
 obtain⟨L,h1,h2,h3,h4⟩:=h.own;have ne: ∀k,k≠g→(W.setCell ⟨g,o,none⟩ u).heap[k]? =W.heap[k]? :=fun k q=>O8 W ⟨g,o,none⟩ u k q
 have kI:Kp SI W (W.setCell ⟨g,o,none⟩ u):=fun k q=>ne k (fun e=>hS (e▸q))
 have kM:Kp (MdC base W v) W (W.setCell ⟨g,o,none⟩ u):=fun k q=>ne k (fun e=>by have:=q.1;omega)
 have hz:(W.setCell ⟨g,o,none⟩ u).heap.size=W.heap.size:=fF _ _ _;exact⟨h.lt,by rw[hz];exact h.sz,L,h1.kp (fun k e=>ne k (fun e2=>by have:=(h1.ty e).1;omega)),h2,fun i s r a c d=>⟨((h3 i s r a c d).1.keep kM).mono (MdC.up (Q7 hz.symm)),((h3 i s r a c d).2.keep kM).mono (MdC.up (Q7 hz.symm))⟩,fun i s r a c d=>⟨(h4 i s r a c d).1.keep kI,(h4 i s r a c d).2.keep kI⟩⟩
theorem TI.at {l:List dm} {a:Option Addr} {n c:Nat} (h:TI SI base W (.slice a n c) l j) {r:dm} (hr:l[j]? =some r):
  ∃g s,a=some ⟨g,0,none⟩∧base≤g∧g<W.heap.size∧W.cell? ⟨g,j*2,none⟩=some (.bool r.1)∧W.cell? ⟨g,j*2+1,none⟩=some (pv s)∧W.frozen? ⟨g,j*2+1,none⟩=false∧GrS SI W (pv s) r.2:=by
 obtain⟨L,h1,h2,h3,h4⟩:=h.own;have hj:=(OV.1 hr).1;obtain⟨s,hs⟩: ∃s,L[j]? =some s:=⟨L[j]'(by omega),OU _⟩;obtain⟨g,rfl,hg,cur,hc⟩:=h1.addr (by omega);obtain⟨q1,q2⟩:=h1.slotA dI hs (i:=0) (u:= .bool s.1) rfl;obtain⟨q3,q4⟩:=h1.slotA dI hs (i:=1) (u:=pv s.2) rfl;have h5:=h4 j s r (OW _) hs hr;rw[h5.1]at q1;exact⟨g,s.2,rfl,hg,(O5.1 hc).1,q1,q3,q4,h5.2⟩
theorem KI.at {l:List Nd} {a:Option Addr} {n c:Nat} (h:KI SI base W (.slice a n c) l j) {y:Nd} (hy:l[j]? =some y):
  ∃g x,a=some ⟨g,0,none⟩∧base≤g∧g<W.heap.size∧(∀(i:Nat) u,(ae x)[i]? =some u→W.cell? ⟨g,j*10+i,none⟩=some u∧W.frozen? ⟨g,j*10+i,none⟩=false)∧bV SI W x y.hd∧NsS SI W (pv x.kids) y.kids:=by
 obtain⟨L,h1,h2,h3,h4⟩:=h.own;have hj:=(OV.1 hy).1;obtain⟨x,hx⟩: ∃s,L[j]? =some s:=⟨L[j]'(by omega),OU _⟩;obtain⟨g,rfl,hg,cur,hc⟩:=h1.addr (by omega);exact⟨g,x,rfl,hg,(O5.1 hc).1,fun i u hu=>h1.slotA ay hx hu,(h4 j x y (OW _) hx hy).1,(h4 j x y (OW _) hx hy).2⟩
theorem TI.step {l:List dm} {g n c:Nat} (h:TI SI base W (.slice (some ⟨g,0,none⟩) n c) l j) (hb:Below W.heap.size W W') {r:dm} (hr:l[j]? =some r) {s:PV} (hs:GrS (fun k=>W.heap.size≤k∧k<W'.heap.size) W' (pv s) r.2):
  TI SI base (W'.setCell ⟨g,j*2+1,none⟩ (pv s)) (.slice (some ⟨g,0,none⟩) n c) l (j+1)∧Exc (· =g) W (W'.setCell ⟨g,j*2+1,none⟩ (pv s)):=by
 obtain⟨L,h1,h2,h3,h4⟩:=h.own;have hj:=(OV.1 hr).1;obtain⟨s0,hs0⟩: ∃s,L[j]? =some s:=⟨L[j]'(by omega),OU _⟩;obtain⟨g',e1,hg,cur,hcur⟩:=h1.addr (by omega);injection e1 with e1
 injection e1 with e1
 subst e1;have hgl:g<W.heap.size:=(O5.1 hcur).1;have ne: ∀k,k≠g→(W'.setCell ⟨g,j*2+1,none⟩ (pv s)).heap[k]? =W'.heap[k]? :=fun k q=>O8 W' ⟨g,_,none⟩ _ k q
 have kI:Kp SI W (W'.setCell ⟨g,j*2+1,none⟩ (pv s)):=fun k q=>(ne k (fun e=>by have:=h.lt k q;omega)).trans (hb.block k (O0 (h.lt k q) h.sz))
 have kM:Kp (MdC base W (.slice (some ⟨g,0,none⟩) n c)) W (W'.setCell ⟨g,j*2+1,none⟩ (pv s)):=fun k q=>(ne k (fun e=>q.2.2 (by rw[e];rfl))).trans (hb.block k q.2.1)
 have hz:(W'.setCell ⟨g,j*2+1,none⟩ (pv s)).heap.size=W'.heap.size:=fF _ _ _;have up: ∀k,MdC base W (.slice (some ⟨g,0,none⟩) n c) k→MdC base (W'.setCell ⟨g,j*2+1,none⟩ (pv s)) (.slice (some ⟨g,0,none⟩) n c) k:=MdC.up (by rw[hz];exact hb.size);have hh1:=(h1.keep hb).set1 dI (s':=(s0.1,s)) hs0 (i:=1) (u:=pv s) (by decide) rfl;refine⟨⟨h.lt,by rw[hz];exact Pp h.sz hb.size,L.set j (s0.1,s),hh1,by rw[Q0];exact h2,fun i s' r' hi hs' hr'=>?_,fun i s' r' hi hs' hr'=>?_⟩,(Exc.of hb).set _ _ (fun _=>rfl)⟩
 ·by_cases e:i=j
  ·subst e
   rw[List.getElem?_set_self (by omega)]at hs';obtain rfl:=Ph hs';rw[hr]at hr';obtain rfl:=Ph hr';refine⟨(h4 i s0 r (OW _) hs0 hr).1,(hs.keep (fun k q=>ne k (by omega))).mono (fun k q=>⟨by have:=h.sz;omega,by rw[hz];exact q.2,fun e=>by simp only[Value.ownBlock,Qi]at e;omega⟩)⟩
  ·rw[QH (fun z=>e z.symm)]at hs'
   exact⟨(h3 i s' r' (by omega) hs' hr').1,((h3 i s' r' (by omega) hs' hr').2.keep kM).mono up⟩
 ·rw[QH (by omega)]at hs'
  exact⟨(h4 i s' r' (by omega) hs' hr').1,(h4 i s' r' (by omega) hs' hr').2.keep kI⟩
theorem KI.step {l:List Nd} {g n c:Nat} (h:KI SI base W (.slice (some ⟨g,0,none⟩) n c) l j) (hb:Below W.heap.size W W') {y:Nd} (hy:l[j]? =some y) {x:NV} (hx:bV (fun k=>W.heap.size≤k∧k<W'.heap.size) W' x y.hd) (hk:NsS (fun k=>W.heap.size≤k∧k<W'.heap.size) W' (pv x.kids) y.kids):
  KI SI base (W'.setCells g (j*10) (ae x)) (.slice (some ⟨g,0,none⟩) n c) l (j+1)∧Exc (· =g) W (W'.setCells g (j*10) (ae x)):=by
 obtain⟨L,h1,h2,h3,h4⟩:=h.own;have hj:=(OV.1 hy).1;obtain⟨g',e1,hg,cur,hcur⟩:=h1.addr (by omega);injection e1 with e1
 injection e1 with e1
 subst e1;have hgl:g<W.heap.size:=(O5.1 hcur).1;have ne: ∀k,k≠g→(W'.setCells g (j*10) (ae x)).heap[k]? =W'.heap[k]? :=fun k q=>aC q _ _ _
 have kI:Kp SI W (W'.setCells g (j*10) (ae x)):=fun k q=>(ne k (fun e=>by have:=h.lt k q;omega)).trans (hb.block k (O0 (h.lt k q) h.sz))
 have kM:Kp (MdC base W (.slice (some ⟨g,0,none⟩) n c)) W (W'.setCells g (j*10) (ae x)):=fun k q=>(ne k (fun e=>q.2.2 (by rw[e];rfl))).trans (hb.block k q.2.1)
 have hz:(W'.setCells g (j*10) (ae x)).heap.size=W'.heap.size:=mq _ _ _;have up: ∀k,MdC base W (.slice (some ⟨g,0,none⟩) n c) k→MdC base (W'.setCells g (j*10) (ae x)) (.slice (some ⟨g,0,none⟩) n c) k:=MdC.up (by rw[hz];exact hb.size);have hh1:=(h1.keep hb).putA ay (j:=j) (by omega) x;have kN:Kp (fun k=>W.heap.size≤k∧k<W'.heap.size) W' (W'.setCells g (j*10) (ae x)):=fun k q=>ne k (by omega)
 have mN: ∀k,(W.heap.size≤k∧k<W'.heap.size)→MdC base (W'.setCells g (j*10) (ae x)) (.slice (some ⟨g,0,none⟩) n c) k:=fun k q=>⟨by have:=h.sz;omega,by rw[hz];exact q.2,fun e=>by simp only[Value.ownBlock,Qi]at e;omega⟩
 refine⟨⟨h.lt,by rw[hz];exact Pp h.sz hb.size,L.set j x,hh1,by rw[Q0];exact h2,fun i s' r' hi hs' hr'=>?_,fun i s' r' hi hs' hr'=>?_⟩,iT (X:=(· =g)) (a:=W) (g:=g) (fun _=>rfl) _ _ _ (Exc.of hb)⟩
 ·by_cases e:i=j
  ·subst e
   rw[List.getElem?_set_self (by omega)]at hs';obtain rfl:=Ph hs';rw[hy]at hr';obtain rfl:=Ph hr';exact⟨(hx.keep kN).mono mN,(hk.keep kN).mono mN⟩
  ·rw[QH (fun z=>e z.symm)]at hs'
   exact⟨((h3 i s' r' (by omega) hs' hr').1.keep kM).mono up,((h3 i s' r' (by omega) hs' hr').2.keep kM).mono up⟩
 ·rw[QH (by omega)]at hs'
  exact⟨(h4 i s' r' (by omega) hs' hr').1.keep kI,(h4 i s' r' (by omega) hs' hr').2.keep kI⟩
theorem TI.done {l:List dm} (h:TI SI base W v l l.length):TrS (fun k=>base≤k∧k<W.heap.size) W v l:=by
 obtain⟨L,h1,h2,h3,-⟩:=h.own;refine⟨L,h2,(oK dI h1).mono (fun k e=>⟨(h1.ty e).1,h1.ltb e⟩),fun i s r a c=>?_⟩;obtain⟨q1,q2⟩:=h3 i s r (OV.1 c).1 a c;exact⟨q1,q2.mono (fun k q=>⟨q.1,q.2.1⟩)⟩
theorem KI.done {l:List Nd} (h:KI SI base W v l l.length):dL (fun _=>False) base W v l:=by
 obtain⟨L,h1,h2,h3,-⟩:=h.own;exact⟨fun _ q=>q.elim,h.sz,L,MdC base W v,h1,h2,fun k q=> .inr q,fun i x y a c=>h3 i x y (OV.1 c).1 a c⟩
end
structure lD (base:Nat) (w':World) (x:NV) (y:Nd):Prop where
 hd:bV (MdC base w' (pv x.kids)) w' x y.hd
 kids:dL (fun _=>False) base w' (pv x.kids) y.kids
theorem lD.all {base:Nat} {w':World} {x:NV} {y:Nd} (h:lD base w' x y):bV (fun k=>base≤k∧k<w'.heap.size) w' x y.hd∧NsS (fun k=>base≤k∧k<w'.heap.size) w' (pv x.kids) y.kids:=
 ⟨h.hd.mono (fun k q=>⟨q.1,q.2.1⟩),h.kids.nss.mono (fun k q=>q.elim (fun q=>q.elim) id)⟩
def Eu (y:Nd) (w:World) (e:Ending) (w':World):Prop:= ∃x:NV,e= .returned (.agg (ae x).toArray)∧lD w.heap.size w' x y∧Below w.heap.size w w'
end Go.Proofs.YtebabjnngdjceaaGreatDoor

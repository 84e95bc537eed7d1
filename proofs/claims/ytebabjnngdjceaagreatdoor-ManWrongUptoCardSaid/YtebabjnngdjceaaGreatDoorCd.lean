/- The program's builder: N -/
import Derived.Test.YtebabjnngdjceaaGreatDoorC5
set_option linter.unusedVariables false
set_option linter.unusedSimpArgs false
set_option maxRecDepth 100000
set_option maxHeartbeats 8000000
namespace Go.Proofs.YtebabjnngdjceaaGreatDoor
open Go.RowKit
theorem aM {W W':World}{g:Nat}{j:Nat}(h:W'.heap[g]? =W.heap[g]?):W'.cell? ⟨g,j,none⟩=W.cell? ⟨g,j,none⟩:=by simp only[World.cell?,h]
theorem yz (W:World){g p:Nat}(h:g≠p)(i j:Nat)(u v:Value):(W.setCell ⟨g,i,none⟩ u).setCell ⟨p,j,none⟩ v=(W.setCell ⟨p,j,none⟩ v).setCell ⟨g,i,none⟩ u:=by
 simp only[World.setCell]
 congr 1
 apply Array.ext_getElem?;intro k;simp only[Array.getElem?_modify]
 by_cases h1:g=k
 ·have h2:¬p=k:=fun e=>h (h1.trans e.symm)
  simp only[PZ h1,PO h2]
 ·by_cases h2:p=k
  ·simp only[PO h1,PZ h2]
  ·simp only[PO h1,PO h2]
theorem bZ {g p:Nat}(h:g≠p)(j:Nat)(v:Value):∀(vs:List Value) (o:Nat) (W:World),(W.setCells g o vs).setCell ⟨p,j,none⟩ v=(W.setCell ⟨p,j,none⟩ v).setCells g o vs
 | [],_,_=>rfl
 | u::vs,o,W=>(bZ h j v vs (o+1) _).trans (PR (fun w=>World.setCells w g (o+1) vs) (yz W h o j u v))
theorem wp_append_run {P:Program}{o:Oper}{a:Act}{w:World}{K:Act→World→Prop}{Q:Exit→Act→World→Prop}
  (d s:Operand) (t t':TypeId) (hop:o.op=Op.call {callee:=Callee.builtin Builtin.append,args:= #[d,s],argTypes:= #[t,t'] })
  (vd vs:Value) (hd:a.eval d=vd) (hs:a.eval s=vs) {v':Value} {w':World} (hrun:(Builtin.append_ #[t,t'] o.type #[vd,vs]).run P w=.ok v' w') (hK:K (a.put o.dst v') w'):Oper.wp P o a w K Q:=by
 unfold Oper.wp;have hb:builtin .append #[t,t'] o.type=fun _ args=>(do pure (.value (←Builtin.append_ #[t,t'] o.type args)):Sem Next):=rfl
 simp[execOp,hop,resolve,invoke,hb,hd,hs,hrun,Result.andThen];exact hK
abbrev eF (b:Nat):Value:= .pointer (some ⟨b,0,none⟩)
theorem lw {m:Bool}{X R:Nat→Prop}{w:World}{b:Nat}{t:Bt}(h:BM m X R w b t):
  Calls Tryz.prog 96 #[eF b] w fun e w'=>e=.returned (.int .i64 (t.opn.length:Int))∧w=w':=by
 obtain⟨kv,ov,pa,LO,lab,h1,h2⟩:=h;obtain⟨a,c,e,-⟩:=h1.olen;have c5:w.cell? ⟨b,5,none⟩=some (.slice a t.opn.length c):=by rw[h1.box.cell 5,←e];rfl
 clear h1 h2;go_enter Tryz.func96,Tryz.ntmps96
 go_wp2_with fail
 go_ret;exact⟨rfl,rfl⟩
def O0:Bt:=⟨⟨[],[],[],[]⟩,[],[],[],0,false⟩
theorem KD (w:World):Calls Tryz.prog 24 #[] w fun e w'=>e=.returned (eF w.heap.size)∧BM true (fun k=>k=w.heap.size) (fun _=>False) w' w.heap.size O0∧Below w.heap.size w w':=by
 have hb:=ae w (.cells (bP ⟨[],[],[],[]⟩ aj aj (.pointer none)).toArray 116);have hB:Hid (BM true (fun k=>k=w.heap.size) (fun _=>False) (w.alloc (.cells (bP ⟨[],[],[],[]⟩ aj aj (.pointer none)).toArray 116)) w.heap.size O0):=zH (by
  refine⟨aj,aj,.pointer none,[],fun k=>if k=w.heap.size then 1 else 0,⟨fun k q=>?_,fun k q=>q.elim,fun k q=>q.elim,by simp,PK w _,RwN.nil _ _ _,ag.nil _ _,(fun k e=>by cases e),rfl,(fun i x y q=>by simp at q),.inl ⟨rfl,rfl,rfl,rfl⟩⟩,fun k=>by by_cases e:k=w.heap.size<;>simp[e]⟩
  by_cases e:k=w.heap.size
  ·rw[e];simp
  ·simp[e]at q)
 have HB:=zH hb;clear hb;go_enter Tryz.func24,Tryz.ntmps24
 go_wp2_with fail
 go_ret;exact⟨rfl,hB.out,HB.out⟩
def AfB (m:Bool)(X R:Nat→Prop)(b:Nat)(t':Bt)(w w':World):Prop:= ∃X',BM m X' R w' b t'∧Exc X w w'∧ ∀k,X' k→X k∨w.heap.size≤k
def Pg (m:Bool)(X R:Nat→Prop)(b:Nat)(t':Bt)(w:World)(e:Ending)(w':World):Prop:=e=.returned (.tuple #[])∧AfB m X R b t' w w'
def Pq (pb po:Nat)(c:Value)(w wx:World):Prop:=c=.pointer (some ⟨pb,po,none⟩)∧w=wx
theorem QT7 {P:Prop}(h:P:=by
 refine wpAnyH_ready (rs:=[6]) (by kernel_rfl) (by simp) ?_;refine AllReadyH.cons rfl (fun K hK=>?_) AllReadyH.nil
 try simp only[zG]
 rw[PZ (by kernel_rfl)];refine wp_append_run (.tmp 27) (.tmp 30) 36 36 rfl _ _ rfl rfl hr ?_;refine hK.out _ _ ?_ (fun hHeld=>?_)
 ·exact HSX.out _ HSW.out
 clear hK K
 try simp only[zA,Act.put]
 refine zK (i:=7) (v:= .pointer (some ⟨g,kn*10,none⟩)) rfl ?_;simp only[zA,Act.put];refine zK (i:=9) (v:= .pointer (some ⟨pb,po,none⟩)) rfl ?_;simp only[zA,Act.put];refine wpAnyH_ready (rs:=[8,10]) (by kernel_rfl) (by simp) ?_;refine AllReadyH.cons rfl (fun K hK=>?_) (AllReadyH.cons rfl (fun K hK=>?_) AllReadyH.nil)
 ·try simp only[zG]
  go_simp;refine hK.out _ _ ?_ (fun hHeld=>?_)
  ·exact HSX.out (w'.setCells g (kn*10) [.int .i64 xk,.int .i64 xl,.int .i64 xn,.slice t1 t2 t3,.slice k1 k2 k3,.slice r1 r2 r3,.string ⟨xc.toArray⟩,.slice q1 q2 q3,.bool xb,.bool xa]) ((aB hgw _ _ _).trans HSW.out)
  clear hK K
  try simp only[zA,Act.put]
  refine wpAnyH_ready (rs:=[10]) (by kernel_rfl) (by simp) ?_;refine AllReadyH.cons rfl (fun K hK=>?_) AllReadyH.nil
  try simp only[zG]
  go_simp;refine hK.out _ _ ?_ (fun hHeld=>?_)
  ·exact HSX.out ((w'.setCells g (kn*10) [.int .i64 xk,.int .i64 xl,.int .i64 xn,.slice t1 t2 t3,.slice k1 k2 k3,.slice r1 r2 r3,.string ⟨xc.toArray⟩,.slice q1 q2 q3,.bool xb,.bool xa]).setCell ⟨pb,po,none⟩ (.slice (some ⟨g,0,none⟩) (kn+1) c)) ((PN _ ⟨pb,po,none⟩ _ _ HPB.out).trans ((aB hgw _ _ _).trans HSW.out))
  clear hK K
  try simp only[zA,Act.put]
  refine Qd (by kernel_rfl) ?_ _;go_wp2_with fail
  go_end0;exact⟨rfl,HFF.out⟩
 ·try simp only[zG]
  go_simp;refine hK.out _ _ ?_ (fun hHeld=>?_)
  ·exact HSX.out (w'.setCell ⟨pb,po,none⟩ (.slice (some ⟨g,0,none⟩) (kn+1) c)) ((PN _ ⟨pb,po,none⟩ _ _ HPB.out).trans HSW.out)
  clear hK K
  try simp only[zA,Act.put]
  refine wpAnyH_ready (rs:=[8]) (by kernel_rfl) (by simp) ?_;refine AllReadyH.cons rfl (fun K hK=>?_) AllReadyH.nil
  try simp only[zG]
  go_simp;refine hK.out _ _ ?_ (fun hHeld=>?_)
  ·exact HSX.out ((w'.setCell ⟨pb,po,none⟩ (.slice (some ⟨g,0,none⟩) (kn+1) c)).setCells g (kn*10) [.int .i64 xk,.int .i64 xl,.int .i64 xn,.slice t1 t2 t3,.slice k1 k2 k3,.slice r1 r2 r3,.string ⟨xc.toArray⟩,.slice q1 q2 q3,.bool xb,.bool xa]) ((aB hgw _ _ _).trans ((PN _ ⟨pb,po,none⟩ _ _ HPB.out).trans HSW.out))
  clear hK K
  try simp only[zA,Act.put]
  refine Qd (by kernel_rfl) ?_ _;go_wp2_with fail
  go_end0;refine⟨rfl,?_⟩;have q:=HFF.out;rw[bZ hgp]at q;exact q):P:=h
theorem vJ {m:Bool}{X R:Nat→Prop}{w:World}{b:Nat}{t:Bt}(h:BM m X R w b t){x:NV}{y:Nd}(hx:df R w x y.hd)(hk:NsS R w (pv x.kids) y.kids)(hl:t.kids.length≤400000)(ho:∀y∈t.opn,y.kids.length≤400000)(hol:t.opn.length≤400000):
  Calls Tryz.prog 95 #[eF b,.agg (af x).toArray] w (Pg m X R b (jh t y) w):=by
 have HLAY:∃pb po ka kn kc,Oz m X R w b t (jh t y) x pb po ka kn kc∧((t.opn.length=0∧pb=b∧po=4)∨(∃n oc,t.opn.length=n+1∧w.cell? ⟨b,5,none⟩=some (.slice (some ⟨pb,0,none⟩) (n+1) oc)∧po=n*10+4)):=by
  rcases dG t.opn with e | ⟨l,y0,e⟩
  ·obtain⟨ka,kn,kc,q⟩:=h.lay0 e hl hx hk
   exact⟨b,4,ka,kn,kc,q,.inl ⟨by rw[e];rfl,rfl,rfl⟩⟩
  ·obtain⟨og,oc,ka,kn,kc,q0,q⟩:=h.lay1 e (ho y0 (by rw[e];simp)) hx hk
   exact⟨og,_,ka,kn,kc,q,.inr ⟨l.length,oc,by rw[e];simp,q0,rfl⟩⟩
 obtain⟨pb,po,ka,kn,kc,⟨hXp,hpc,hL⟩,hcase⟩:=HLAY;obtain⟨W0,hW0⟩:∃W,W=w.alloc (.cells (af x).toArray 58):=⟨_,rfl⟩;have b0:Below w.heap.size w W0:=by rw[hW0];exact ae _ _
 have kx:Blk W0 w.heap.size 58 (af x):=by rw[hW0];exact PK w _
 have bz:=ae W0 (.cells zNd.toArray 58);have hplt:=PX w _ hpc;obtain⟨g,c,w',hr,hc,hkn,hcell,d1,f1,d0,f0,hgp,hgww,HF⟩:=hL W0 (W0.alloc (.cells zNd.toArray 58)).drew b0 bz.drew (PK W0 _);obtain⟨hgw0,hww0⟩:=hgww w.heap.size (Px _) kx.lt;have hgw0:w.heap.size≠g:=hgw0;have p0:W0.cell? ⟨pb,po,none⟩=some (.slice ka kn kc):=(b0.cell (p:=⟨pb,po,none⟩) hplt).trans hpc;have HOP:Hid (∃a oc,w.cell? ⟨b,5,none⟩=some (.slice a t.opn.length oc)):=by
  obtain⟨kv,ov,pa,LO,lab,h1,-⟩:=h;obtain⟨a,oc,e,-⟩:=h1.olen;exact zH ⟨a,oc,by rw[h1.box.cell 5,←e];rfl⟩
 have hblt:b<w.heap.size:=h.lt b (.inl h.self);have HGW:Hid (w.heap.size≠g):=zH hgw0;have HWW:Hid (w'.heap[w.heap.size]? =W0.heap[w.heap.size]?):=zH hww0;have HPB:Hid (w.heap.size≠pb):=zH (fun e=>by rw[←e]at hplt;exact Nat.lt_irrefl _ hplt);have HGW:Hid (w.heap.size≠g):=zH hgw0;have HWW:Hid (w'.heap[w.heap.size]? =W0.heap[w.heap.size]?):=zH hww0;have HPB:Hid (w.heap.size≠pb):=zH (fun e=>by rw[←e]at hplt;exact Nat.lt_irrefl _ hplt);have HGW:Hid (w.heap.size≠g):=zH hgw0;have HWW:Hid (w'.heap[w.heap.size]? =W0.heap[w.heap.size]?):=zH hww0;have HPB:Hid (w.heap.size≠pb):=zH (fun e=>by rw[←e]at hplt;exact Nat.lt_irrefl _ hplt);have HGW:Hid (w.heap.size≠g):=zH hgw0;have HWW:Hid (w'.heap[w.heap.size]? =W0.heap[w.heap.size]?):=zH hww0;have HPB:Hid (w.heap.size≠pb):=zH (fun e=>by rw[←e]at hplt;exact Nat.lt_irrefl _ hplt);have HGW:Hid (w.heap.size≠g):=zH hgw0;have HWW:Hid (w'.heap[w.heap.size]? =W0.heap[w.heap.size]?):=zH hww0;have HPB:Hid (w.heap.size≠pb):=zH (fun e=>by rw[←e]at hplt;exact Nat.lt_irrefl _ hplt);have HK:=zH kx;have HFF:=zH HF;have HW0:=zH hW0;have HB0:=zH b0;obtain⟨tl,htl⟩:∃tl,t.opn.length=tl:=⟨_,rfl⟩;rw[htl]at hcase HOP hol;clear HF hL h hx hk hl ho bz b0 kx hXp htl hW0;obtain⟨xk,xl,xn,⟨t1,t2,t3⟩,⟨k1,k2,k3⟩,⟨r1,r2,r3⟩,xc,⟨q1,q2,q3⟩,xb,xa⟩:=x;simp only[af,pv]at HK hr HFF d1 f1;have x0:=HK.out.cell 0;have x1:=HK.out.cell 1;have x2:=HK.out.cell 2;have x3:=HK.out.cell 3;have x4:=HK.out.cell 4;have x5:=HK.out.cell 5;have x6:=HK.out.cell 6;have x7:=HK.out.cell 7;have x8:=HK.out.cell 8;have x9:=HK.out.cell 9;simp only[PD,PE]at x0 x1 x2 x3 x4 x5 x6 x7 x8 x9;simp only[af,pv]at HW0⊢;go_enter Tryz.func95,Tryz.ntmps95
 go_upto_region 1 with fail
 rw[←HW0.out];obtain⟨oa,oc,o5⟩:=HOP.out;have o5':W0.cell? ⟨b,5,none⟩=some (.slice oa tl oc):=(HB0.out.cell (p:=⟨b,5,none⟩) hblt).trans o5;go_upto_if 16 with fail
 go_cut [4] (fun c wx=>Pq pb po c W0 wx)
 case first=>
  clear hr hcell d1 f1 d0 f0 x0 x1 x2 x3 x4 x5 x6 x7 x8 x9;rcases hcase with⟨rfl,rfl,rfl⟩| ⟨n,oc',rfl,e5,rfl⟩
  ·go_wp2_with fail
   go_meet
   exact⟨rfl,rfl⟩
  ·rw[o5]at e5
   injection e5 with e5
   injection e5 with e5 e6 e7
   subst e5;have hn2:(0:Int)≤(n:Int):=by omega
   go_wp2_with fail
   go_meet
   exact⟨rfl,rfl⟩
 case rest=>
 obtain⟨rfl,rfl⟩:=hcut;clear hcase HOP;have HSX:Hid (∀W:World,W.heap[w.heap.size]? =W0.heap[w.heap.size]? →W.cell? ⟨w.heap.size,0,none⟩=some (.int .i64 xk)∧W.cell? ⟨w.heap.size,1,none⟩=some (.int .i64 xl)∧W.cell? ⟨w.heap.size,2,none⟩=some (.int .i64 xn)∧W.cell? ⟨w.heap.size,3,none⟩=some (.slice t1 t2 t3)∧W.cell? ⟨w.heap.size,4,none⟩=some (.slice k1 k2 k3)∧W.cell? ⟨w.heap.size,5,none⟩=some (.slice r1 r2 r3)∧W.cell? ⟨w.heap.size,6,none⟩=some (.string ⟨xc.toArray⟩)∧W.cell? ⟨w.heap.size,7,none⟩=some (.slice q1 q2 q3)∧W.cell? ⟨w.heap.size,8,none⟩=some (.bool xb)∧W.cell? ⟨w.heap.size,9,none⟩=some (.bool xa)):=zH (fun W e=>⟨(aM e).trans x0,(aM e).trans x1,(aM e).trans x2,(aM e).trans x3,(aM e).trans x4,(aM e).trans x5,(aM e).trans x6,(aM e).trans x7,(aM e).trans x8,(aM e).trans x9⟩);have hwl:w.heap.size<W0.heap.size:=HK.out.lt;have p1:(W0.alloc (.cells #[.int .i64 0,.int .i64 0,.int .i64 0,.slice none 0 0,.slice none 0 0,.slice none 0 0,.string ⟨#[]⟩,.slice none 0 0,.bool false,.bool false] 58)).cell? ⟨pb,po,none⟩=some (.slice ka kn kc):=(Below.cell (ae W0 _) (p:=⟨pb,po,none⟩) (PX W0 _ p0)).trans p0;have hgw:w.heap.size≠g:=HGW.out;have HSW:Hid (w'.heap[w.heap.size]? =W0.heap[w.heap.size]?):=zH HWW.out;have z0:w'.cell? ⟨g,kn*10,none⟩=some (.int .i64 0):=(hcell 0 _ rfl).1;have z1:w'.cell? ⟨g,kn*10+1,none⟩=some (.int .i64 0):=(hcell 1 _ rfl).1;have z2:w'.cell? ⟨g,kn*10+2,none⟩=some (.int .i64 0):=(hcell 2 _ rfl).1;have z3:w'.cell? ⟨g,kn*10+3,none⟩=some (.slice none 0 0):=(hcell 3 _ rfl).1;have z4:w'.cell? ⟨g,kn*10+4,none⟩=some (.slice none 0 0):=(hcell 4 _ rfl).1;have z5:w'.cell? ⟨g,kn*10+5,none⟩=some (.slice none 0 0):=(hcell 5 _ rfl).1;have z6:w'.cell? ⟨g,kn*10+6,none⟩=some (.string ⟨#[]⟩):=(hcell 6 _ rfl).1;have z7:w'.cell? ⟨g,kn*10+7,none⟩=some (.slice none 0 0):=(hcell 7 _ rfl).1;have z8:w'.cell? ⟨g,kn*10+8,none⟩=some (.bool false):=(hcell 8 _ rfl).1;have z9:w'.cell? ⟨g,kn*10+9,none⟩=some (.bool false):=(hcell 9 _ rfl).1;have v0:w'.frozen? ⟨g,kn*10,none⟩=false:=(hcell 0 _ rfl).2;have v1:w'.frozen? ⟨g,kn*10+1,none⟩=false:=(hcell 1 _ rfl).2;have v2:w'.frozen? ⟨g,kn*10+2,none⟩=false:=(hcell 2 _ rfl).2;have v3:w'.frozen? ⟨g,kn*10+3,none⟩=false:=(hcell 3 _ rfl).2;have v4:w'.frozen? ⟨g,kn*10+4,none⟩=false:=(hcell 4 _ rfl).2;have v5:w'.frozen? ⟨g,kn*10+5,none⟩=false:=(hcell 5 _ rfl).2;have v6:w'.frozen? ⟨g,kn*10+6,none⟩=false:=(hcell 6 _ rfl).2;have v7:w'.frozen? ⟨g,kn*10+7,none⟩=false:=(hcell 7 _ rfl).2;have v8:w'.frozen? ⟨g,kn*10+8,none⟩=false:=(hcell 8 _ rfl).2;have v9:w'.frozen? ⟨g,kn*10+9,none⟩=false:=(hcell 9 _ rfl).2;have hk0:(0:Int)≤(kn:Int):=by omega
 have hk1:(kn:Int)<(kn:Int)+1:=by omega
 have hk2:(kn:Int)<((kn+1:Nat):Int):=by omega
 have hk3:(kn:Int)≤400000:=by omega
 have hgp':pb≠g:=fun e=>hgp e.symm
 clear hcell d1 f1;go_wp2_with fail
 refine wp_region_held_drew (S:=(fun W'=>W'.cell? ⟨w.heap.size,0,none⟩=some (.int .i64 xk)∧W'.cell? ⟨w.heap.size,1,none⟩=some (.int .i64 xl)∧W'.cell? ⟨w.heap.size,2,none⟩=some (.int .i64 xn)∧W'.cell? ⟨w.heap.size,3,none⟩=some (.slice t1 t2 t3)∧W'.cell? ⟨w.heap.size,4,none⟩=some (.slice k1 k2 k3)∧W'.cell? ⟨w.heap.size,5,none⟩=some (.slice r1 r2 r3)∧W'.cell? ⟨w.heap.size,6,none⟩=some (.string ⟨xc.toArray⟩)∧W'.cell? ⟨w.heap.size,7,none⟩=some (.slice q1 q2 q3)∧W'.cell? ⟨w.heap.size,8,none⟩=some (.bool xb)∧W'.cell? ⟨w.heap.size,9,none⟩=some (.bool xa))) (by kernel_rfl) ?_ (fun hHeld=>?_)
 ·exact HSX.out _ rfl
 refine zK (i:=0) (v:= .pointer (some ⟨pb,po,none⟩)) rfl ?_;simp only[zA,Act.put];refine zK (i:=1) (v:= .pointer (some ⟨pb,po,none⟩)) rfl ?_;simp only[zA,Act.put];refine zK (i:=3) (v:= .agg #[.int .i64 xk,.int .i64 xl,.int .i64 xn,.slice t1 t2 t3,.slice k1 k2 k3,.slice r1 r2 r3,.string ⟨xc.toArray⟩,.slice q1 q2 q3,.bool xb,.bool xa]) rfl ?_;simp only[zA,Act.put];refine wpAnyH_ready (rs:=[2,5]) (by kernel_rfl) (by simp) ?_;refine AllReadyH.cons rfl (fun K hK=>?_) (AllReadyH.cons rfl (fun K hK=>?_) AllReadyH.nil)
 ·try simp only[zG]
  go_simp;refine hK.out _ _ ?_ (fun hHeld=>?_)
  ·exact HSX.out _ rfl
  clear hK K
  try simp only[zA,Act.put]
  refine zK (i:=4) (v:= .int .i64 (kn:Int)) rfl ?_;simp only[zA,Act.put];refine wpAnyH_ready (rs:=[5]) (by kernel_rfl) (by simp) ?_;refine AllReadyH.cons rfl (fun K hK=>?_) AllReadyH.nil
  try simp only[zG]
  go_simp;refine hK.out _ _ ?_ (fun hHeld=>?_)
  ·exact HSX.out _ (Qk W0.drew _ hwl)
  clear hK K
  try simp only[zA,Act.put]
  exact QT7
 ·try simp only[zG]
  go_simp;refine hK.out _ _ ?_ (fun hHeld=>?_)
  ·exact HSX.out _ (Qk W0.drew _ hwl)
  clear hK K
  try simp only[zA,Act.put]
  refine wpAnyH_ready (rs:=[2]) (by kernel_rfl) (by simp) ?_;refine AllReadyH.cons rfl (fun K hK=>?_) AllReadyH.nil
  try simp only[zG]
  go_simp;refine hK.out _ _ ?_ (fun hHeld=>?_)
  ·exact HSX.out _ (Qk W0.drew _ hwl)
  clear hK K
  try simp only[zA,Act.put]
  refine zK (i:=4) (v:= .int .i64 (kn:Int)) rfl ?_;simp only[zA,Act.put];exact QT7
theorem BM.title {m:Bool}{X R:Nat→Prop}{w:World}{b:Nat}{t:Bt}(h:BM m X R w b t)(n:Nm):
  BM m X R ((((w.setCell ⟨b,0,none⟩ (.string ⟨n.a.toArray⟩)).setCell ⟨b,1,none⟩ (.string ⟨n.b.toArray⟩)).setCell ⟨b,2,none⟩ (.string ⟨n.c.toArray⟩)).setCell ⟨b,3,none⟩ (.string ⟨n.d.toArray⟩)) b {t with nm:=n}∧
  Exc X w ((((w.setCell ⟨b,0,none⟩ (.string ⟨n.a.toArray⟩)).setCell ⟨b,1,none⟩ (.string ⟨n.b.toArray⟩)).setCell ⟨b,2,none⟩ (.string ⟨n.c.toArray⟩)).setCell ⟨b,3,none⟩ (.string ⟨n.d.toArray⟩)):=by
 have hs:=h.self;obtain⟨kv,ov,pa,LO,lab,h1,h2⟩:=h;have hE:Exc (fun k=>k=b) w ((((w.setCell ⟨b,0,none⟩ (.string ⟨n.a.toArray⟩)).setCell ⟨b,1,none⟩ (.string ⟨n.b.toArray⟩)).setCell ⟨b,2,none⟩ (.string ⟨n.c.toArray⟩)).setCell ⟨b,3,none⟩ (.string ⟨n.d.toArray⟩)):=
  ((((Exc.refl (fun k=>k=b) w).set 0 _ (fun _=>rfl)).set 1 _ (fun _=>rfl)).set 2 _ (fun _=>rfl)).set 3 _ (fun _=>rfl)
 have hbox:=(((h1.box.set 0 (.string ⟨n.a.toArray⟩)).set 1 (.string ⟨n.b.toArray⟩)).set 2 (.string ⟨n.c.toArray⟩)).set 3 (.string ⟨n.d.toArray⟩);obtain⟨F,hF⟩:∃F,(((w.setCell ⟨b,0,none⟩ (.string ⟨n.a.toArray⟩)).setCell ⟨b,1,none⟩ (.string ⟨n.b.toArray⟩)).setCell ⟨b,2,none⟩ (.string ⟨n.c.toArray⟩)).setCell ⟨b,3,none⟩ (.string ⟨n.d.toArray⟩)=F:=⟨_,rfl⟩;rw[hF]at hE hbox⊢;have kS:∀k,k<w.heap.size→lab k≠1→F.heap[k]? =w.heap[k]? :=fun k q1 q2=>hE.block k q1 (fun e=>q2 (by rw[e];exact h1.lb))
 have kR:Kp R w F:=fun k q=>kS k (h1.rl k q) (by rw[h1.sep k q];decide)
 have kz:∀z,z≠0→z≠1→Kp (fun k=>lab k=z) w F:=fun z a0 a1 k q=>kS k (h1.ll k (by rw[show lab k=z from q];exact a0)) (by rw[show lab k=z from q];exact a1)
 refine⟨⟨kv,ov,pa,LO,lab,⟨fun k q=>PH (h1.ll k q) hE.size,fun k q=>PH (h1.rl k q) hE.size,h1.sep,h1.lb,hbox,h1.kids.keep kR (kz 2 (by decide) (by decide)),h1.opn.kp (fun k e=>kz 3 (by decide) (by decide) k (h1.opb k e)),h1.opb,h1.ol,
  fun i x y p q=>⟨(h1.on i x y p q).1.keep kR,(h1.on i x y p q).2.keep kR (kz _ (by omega) (by omega))⟩,lN.keep (t:=t) h1.para kR (fun k q=>q.elim (kz 4 (by decide) (by decide) k) (kz 5 (by decide) (by decide) k))⟩,h2⟩,hE.mono (fun k _ e=>by rw[e];exact hs)⟩
theorem El {m:Bool}{X R:Nat→Prop}{w:World}{b:Nat}{t:Bt}(h:BM m X R w b t)(n:Nm):
  Calls Tryz.prog 82 #[eF b,.string ⟨n.a.toArray⟩,.string ⟨n.b.toArray⟩,.string ⟨n.c.toArray⟩,.string ⟨n.d.toArray⟩] w fun e w'=>e=.returned (.tuple #[])∧BM m X R w' b {t with nm:=n}∧Exc X w w':=by
 have HF:=zH (h.title n);obtain⟨kv,ov,pa,LO,lab,h1,h2⟩:=h;have c0:=h1.box.cell 0;have c1:=h1.box.cell 1;have c2:=h1.box.cell 2;have c3:=h1.box.cell 3;simp only[bP,PD,PE]at c0 c1 c2 c3;have f0:w.frozen? ⟨b,0,none⟩=false:=h1.box.frozen (by simp[bP]);have f1:w.frozen? ⟨b,1,none⟩=false:=h1.box.frozen (by simp[bP]);have f2:w.frozen? ⟨b,2,none⟩=false:=h1.box.frozen (by simp[bP]);have f3:w.frozen? ⟨b,3,none⟩=false:=h1.box.frozen (by simp[bP]);clear h1 h2;go_enter Tryz.func82,Tryz.ntmps82
 go_wp2_with fail
 go_end0;exact⟨rfl,HF.out⟩
def Pf (l:List Nd)(k:Int)(r:Int):Prop:=(r= -1∧ ∀y∈l,y.hd.kind≠k)∨ ∃p y,r=((p:Nat):Int)∧l[p]? =some y∧y.hd.kind=k∧ ∀q z,p<q→l[q]? =some z→z.hd.kind≠k
theorem Im {m:Bool}{X R:Nat→Prop}{w:World}{b:Nat}{t:Bt}(h:BM m X R w b t)(k:Int)(hl:t.opn.length≤400000):
  Calls Tryz.prog 125 #[eF b,.int .i64 k] w fun e w'=> ∃r,e=.returned (.int .i64 r)∧Pf t.opn k r∧w=w':=by
 have HD:=zH (lw h);obtain⟨kv,ov,pa,LO,lab,h1,h2⟩:=h;obtain⟨oa,oc,eo,hoc⟩:=h1.olen;have c5:w.cell? ⟨b,5,none⟩=some (.slice oa t.opn.length oc):=by rw[h1.box.cell 5,←eo];rfl
 have HAT:Hid (∀(i:Nat) y,t.opn[i]? =some y→ ∃g,oa=some ⟨g,0,none⟩∧w.cell? ⟨g,i*10,none⟩=some (.int .i64 y.hd.kind)):=zH (fun i y hy=>by
  obtain⟨g,c,x,e,-,-,-,hc,hH,-⟩:=h1.at hy;rw[eo]at e;injection e with e1
  refine⟨g,e1,?_⟩;have:=(hc 0 _ rfl).1;rw[hH.kind]at this;exact this)
 obtain⟨l,hl0⟩:∃l,t.opn=l:=⟨_,rfl⟩;rw[hl0]at HD c5 HAT hl⊢;clear h1 h2 eo hoc hl0;go_enter Tryz.func125,Tryz.ntmps125
 go_wp2_with fail
 refine HD.out.mono ?_;rintro e w1 ⟨rfl,rfl⟩;clear HD;go_wp2_with fail
 go_loopw [5] (fun s wr=> ∃n:Nat,n≤l.length∧s=.int .i64 ((n:Int)-1)∧Hid (∀q z,n≤q→l[q]? =some z→z.hd.kind≠k)∧w=wr) (fun s _=>(intOf s+1).toNat)
 case atStart=>exact⟨l.length,Px _,by go_num,zH (fun q z hq hz=>by rw[RZ hq]at hz;cases hz),rfl⟩
 case round=>
  obtain⟨n,hn,rfl,HN,rfl⟩:=hrel
  by_cases h0:0<n
  ·obtain⟨p,rfl⟩:∃p,n=p+1:=⟨n-1,by omega⟩
   obtain⟨y,hy⟩:∃y,l[p]? =some y:=⟨l[p]'(by omega),Pz _⟩;obtain⟨g,rfl,c0⟩:=HAT.out p y hy;have HY:=zH hy;have hi0:(p:Int)<(l.length:Int):=by omega
   have hi1:(0:Int)≤(p:Int):=by omega
   have e1:((p+1:Nat):Int)-1=(p:Int):=by omega
   rw[e1];obtain⟨z,hz⟩:∃z,y.hd.kind=z:=⟨_,rfl⟩;rw[hz]at c0;have HZ:=zH hz;clear hy hz e1
   by_cases hk:z=k
   ·subst hk
    go_wp2_with fail
    go_ret;exact⟨_,rfl,.inr ⟨p,y,rfl,HY.out,HZ.out,fun q x hq hx=>HN.out q x (by omega) hx⟩,rfl⟩
   ·have hq:(z==k)=false:=by simpa using hk
    have HK:=zH hk;go_wp2_with fail
    go_roundw
    case rel=>exact⟨p,by omega,by go_num,zH (fun q x hq hx=>by
     by_cases e:q=p
     ·subst e
      rw[HY.out]at hx;obtain rfl:=PT hx;rw[HZ.out];exact HK.out
     ·exact HN.out q x (by omega) hx),by first | trivial | rfl⟩
    case measure=>(simp[intOf];try omega)
  ·obtain rfl:n=0:=by omega
   go_wp2_with fail
   go_ret;exact⟨-1,rfl,.inl ⟨rfl,fun y hy=>by
    obtain⟨q,hq⟩:=QP.1 hy;exact HN.out q y (P6 _) hq⟩,rfl⟩
section
noncomputable def zg (x hi:Value):Sem Value:=Instr.slice 36 x none (some hi) none
theorem yw (x hi:Value):Instr.slice 36 x none (some hi) none=zg x hi:=rfl
noncomputable def KM (x lo:Value):Sem Value:=Instr.slice 36 x (some lo) none none
theorem Ad (x lo:Value):Instr.slice 36 x (some lo) none none=KM x lo:=rfl
noncomputable def Mg (x lo hi:Value):Sem Value:=Instr.slice 36 x (some lo) (some hi) none
theorem Cv (x lo hi:Value):Instr.slice 36 x (some lo) (some hi) none=Mg x lo hi:=rfl
noncomputable def NA (x lo hi mx:Value):Sem Value:=Instr.slice 36 x (some lo) (some hi) (some mx)
theorem Ct (x lo hi mx:Value):Instr.slice 36 x (some lo) (some hi) (some mx)=NA x lo hi mx:=rfl
noncomputable def MQ (args:Array Value):Sem Next:=do pure (.value (←Builtin.clear_ #[36] 0 args))
theorem zw (cs:Array Bool)(args:Array Value):builtin .clear #[36] 0 cs args=MQ args:=rfl
theorem OD (w:World):(zeroValue 58).run Tryz.prog w=.ok (.agg zNd.toArray) w:=by kernel_rfl
theorem Hl (g N c k:Nat)(hk:k≤c)(W:World):(zg (.slice (some ⟨g,0,none⟩) N c) (.int .i64 (k:Int))).run Tryz.prog W=.ok (.slice (some ⟨g,0,none⟩) k c) W:=by
 obtain⟨i0,hi,hz0,hz1,hz2⟩:=Ql kY;unfold zg;simp[Instr.slice,Instr.sliceBounds,Instr.sliceBound,asIntOf,QB Tryz.underlying36,hk,sizeOf,typeInfo,hi];intro _;rfl
theorem KJ (g N c:Nat)(hc:N≤c):∃u,(∀W,(KM (.slice (some ⟨g,0,none⟩) N c) (.int .i64 (N:Int))).run Tryz.prog W=.ok (.slice (some u) 0 (c-N)) W):=by
 obtain⟨i0,hi,hz0,hz1,hz2⟩:=Ql kY;refine⟨if c=N then⟨g,0,none⟩ else(⟨g,0,none⟩:Addr).add (N*10),fun W=>?_⟩;unfold KM
 by_cases hcn:c=N
 ·subst hcn
  simp[Instr.slice,Instr.sliceBounds,Instr.sliceBound,asIntOf,QB Tryz.underlying36,sizeOf,typeInfo,hi,hz1]
 ·simp[Instr.slice,Instr.sliceBounds,Instr.sliceBound,asIntOf,QB Tryz.underlying36,hc,hcn,sizeOf,typeInfo,hi,hz1]
theorem Mf (g N c lo hi':Nat)(h0:lo<hi')(h1:hi'≤c)(W:World):(Mg (.slice (some ⟨g,0,none⟩) N c) (.int .i64 (lo:Int)) (.int .i64 (hi':Int))).run Tryz.prog W=.ok (.slice (some ⟨g,lo*10,none⟩) (hi'-lo) (c-lo)) W:=by
 obtain⟨i0,hi,hz0,hz1,hz2⟩:=Ql kY;have h2:¬c=lo:=by omega
 have h3:lo≤hi':=by omega
 unfold Mg;simp[Instr.slice,Instr.sliceBounds,Instr.sliceBound,asIntOf,QB Tryz.underlying36,h1,h2,h3,sizeOf,typeInfo,hi,hz1,QV]
theorem Lp (g N c lo hi' mx:Nat)(h0:lo≤hi')(h1:hi'≤mx)(h2:mx≤c)(W:World):∃u,(NA (.slice (some ⟨g,0,none⟩) N c) (.int .i64 (lo:Int)) (.int .i64 (hi':Int)) (.int .i64 (mx:Int))).run Tryz.prog W=.ok u W:=by
 obtain⟨i0,hi,hz0,hz1,hz2⟩:=Ql kY;unfold NA;simp[Instr.slice,Instr.sliceBounds,Instr.sliceBound,asIntOf,QB Tryz.underlying36,h0,h1,h2,sizeOf,typeInfo,hi,hz1]
theorem Iq (a:Option Addr)(u:Addr)(n c c':Nat)(h:n≤c)(W:World):(zD #[.slice a n c,.slice (some u) 0 c']).run Tryz.prog W=.ok (.value (.slice a n c)) W:=by
 obtain⟨i0,hi,hz0,hz1,hz2⟩:=Ql kY;have hf:=run_firstCells_some (P:=Tryz.prog) W i0.size 0 u 0 c' [] (by simp) (by intro _ _ h';simp at h');unfold zD
 cases a<;>simp[Builtin.append_,QB Tryz.underlying36,sizeOf,typeInfo,hi,Builtin.lenOf,h,hf,storeCells]
theorem uC {g N c:Nat}{L:List NV}:∀(vs:List Value) (q:Nat) (W:World),ag 58 10 af 0 W (.slice (some ⟨g,0,none⟩) N c) L→L.length*10≤q→ag 58 10 af 0 (W.setCells g q vs) (.slice (some ⟨g,0,none⟩) N c) L
 | [],_,_,h,_=>h
 | v::vs,q,W,h,hq=>uC vs (q+1) _ (h.behind ay hq) (by omega)
theorem Kv {W:World}{g n c c':Nat}{L:List NV}{x:NV}(h:ag 58 10 af 0 W (.slice (some ⟨g,0,none⟩) (n+1) c) (L++ [x]))(hl:L.length=n):
  (MQ #[.slice (some ⟨g,n*10,none⟩) 1 c']).run Tryz.prog W=.ok (.value (.tuple #[])) (W.setCells g (n*10) zNd):=by
 have hc:∀j,j<10→(W.cell? ⟨g,n*10+0+j,none⟩).isSome=true∧W.frozen? ⟨g,n*10+0+j,none⟩=false:=fun j hj=>by
  obtain⟨u,hu⟩:∃u,(af x)[j]? =some u:=⟨(af x)[j]'(by rw[ay];exact hj),Pz _⟩;have hx:(L++ [x])[n]? =some x:=by rw[←hl];simp
  obtain⟨q1,q2⟩:=h.slotA ay hx hu;rw[Qr];exact⟨by rw[q1];rfl,q2⟩
 have hst:=run_storeCells_cells (P:=Tryz.prog) g (n*10) zNd 0 W (fun j hj=>(hc j hj).1) (fun j hj=>(hc j hj).2) (fun v hv=>by
  have hv':v∈af (⟨0,0,0,aj,aj,aj,[],aj,false,false⟩:NV):=hv;exact jS _ v hv')
 rw[Qr]at hst;have hz:(Builtin.zeroCells #[.int .i64 0,.int .i64 0,.int .i64 0,.slice none 0 0,.slice none 0 0,.slice none 0 0,.string ⟨#[]⟩,.slice none 0 0,.bool false,.bool false] 1).toList=zNd:=by kernel_rfl
 unfold MQ;simp[Builtin.clear_,QB Tryz.underlying36,OD,Value.cells,hz,hst]
def OB (g n c:Nat)(L:List NV)(w:World)(e:Ending)(w':World):Prop:=e=.returned (.slice (some ⟨g,0,none⟩) n c)∧ag 58 10 af 0 w' (.slice (some ⟨g,0,none⟩) n c) L∧Exc (· =g) w w'
attribute [local go_sem ↓ high] yw Ad Cv Ct zw fA
theorem BU {w:World}{g n c:Nat}{L:List NV}{x:NV}(h:ag 58 10 af 0 w (.slice (some ⟨g,0,none⟩) (n+1) c) (L++ [x]))(hl:L.length=n)(hn:n≤400000):
  Calls Tryz.prog 97 #[.slice (some ⟨g,0,none⟩) (n+1) c,.int .i64 (n:Int),.int .i64 ((n:Int)+1)] w (OB g n c L w):=by
 have hc:n+1≤c:=by
  obtain⟨a,c',e,hc',-⟩:=ag.sl ay h;injection e with e1 e2 e3
  subst e3;rw[PL,hl]at hc';exact hc'
 have HFIN:Hid (OB g n c L w (.returned (.slice (some ⟨g,0,none⟩) n c)) (w.drew.setCells g (n*10) zNd)):=zH (by
  refine⟨rfl,?_,?_⟩
  ·have k:=h.cut ay (k:=n) (by rw[PL,hl];omega)
   rw[←hl,List.take_left]at k;rw[hl]at k;exact uC zNd (n*10) w.drew (k.kp (fun _ _=>rfl)) (by omega)
  ·have k0:Exc (· =g) w w.drew:=⟨rfl,rfl,rfl,Px _,fun _ _ _=>rfl⟩
   exact jf (X:=(· =g)) (a:=w) (g:=g) (fun _=>rfl) zNd (n*10) w.drew k0)
 have e1:((n+1:Nat):Int)=(n:Int)+1:=by omega
 obtain⟨tr,ft⟩:=Lp g (n+1) c n (n+1) (n+1) (by omega) (by omega) hc w;have ff:∀W:World,(zg (.slice (some ⟨g,0,none⟩) (n+1) c) (.int .i64 (n:Int))).run Tryz.prog W=.ok (.slice (some ⟨g,0,none⟩) n c) W:=fun W=>Hl g _ c n (by omega) W
 obtain⟨u,fb⟩:=KJ g (n+1) c hc;have fa:∀W:World,(zD #[.slice (some ⟨g,0,none⟩) n c,.slice (some u) 0 (c-(n+1))]).run Tryz.prog W=.ok (.value (.slice (some ⟨g,0,none⟩) n c)) W:=fun W=>Iq _ u n c _ (by omega) W
 have fm:∀W:World,(Mg (.slice (some ⟨g,0,none⟩) n c) (.int .i64 (n:Int)) (.int .i64 ((n+1:Nat):Int))).run Tryz.prog W=.ok (.slice (some ⟨g,n*10,none⟩) (n+1-n) (c-n)) W:=fun W=>Mf g _ c n (n+1) (by omega) hc W
 rw[e1]at ft fm fb;rw[show n+1-n=1 by omega]at fm;have fc:(MQ #[.slice (some ⟨g,n*10,none⟩) 1 (c-n)]).run Tryz.prog w.drew=.ok (.value (.tuple #[])) (w.drew.setCells g (n*10) zNd):=Kv (h.kp (fun _ _=>rfl)) hl;have hne:¬(n:Int)=(n:Int)+1:=by omega
 obtain⟨F,hF⟩:∃F,w.drew.setCells g (n*10) zNd=F:=⟨_,rfl⟩;rw[hF]at fc HFIN;clear h hF;go_enter Tryz.func97,Tryz.ntmps97
 go_wp2_with fail
 go_region
 all_goals
  go_wp2_with fail
  go_ret;exact HFIN.out
end
theorem BM.drop {m:Bool}{X R:Nat→Prop}{w:World}{b:Nat}{t:Bt}(h:BM m X R w b t){l:List Nd}{y:Nd}(ho:t.opn=l++ [y]):
  ∃g c L x,w.cell? ⟨b,5,none⟩=some (.slice (some ⟨g,0,none⟩) (l.length+1) c)∧ag 58 10 af 0 w (.slice (some ⟨g,0,none⟩) (l.length+1) c) (L++ [x])∧L.length=l.length∧l.length+1≤c∧
   (∀(j:Nat) u,(af x)[j]? =some u→w.cell? ⟨g,l.length*10+j,none⟩=some u)∧g≠b∧g<w.heap.size∧b<w.heap.size∧
   ∀W w',Below w.heap.size w W→ag 58 10 af 0 w' (.slice (some ⟨g,0,none⟩) l.length c) L→Exc (· =g) W w'→
    w'.cell? ⟨b,5,none⟩=some (.slice (some ⟨g,0,none⟩) (l.length+1) c)∧w'.frozen? ⟨b,5,none⟩=false∧
    ∃X' R',BM m X' R' (w'.setCell ⟨b,5,none⟩ (.slice (some ⟨g,0,none⟩) l.length c)) b {t with opn:=l}∧df R' (w'.setCell ⟨b,5,none⟩ (.slice (some ⟨g,0,none⟩) l.length c)) x y.hd∧NsS R' (w'.setCell ⟨b,5,none⟩ (.slice (some ⟨g,0,none⟩) l.length c)) (pv x.kids) y.kids∧
     Exc X w (w'.setCell ⟨b,5,none⟩ (.slice (some ⟨g,0,none⟩) l.length c))∧(∀k,X' k→X k)∧ ∀k,R' k→R k∨X k:=by
 obtain⟨kv,ov,pa,LO,lab,h1,h2⟩:=h;have hy0:t.opn[l.length]? =some y:=by rw[ho];simp
 obtain⟨g,c,x,eo,hoc,hog,hx0,hcel,hH0,hK0⟩:=h1.at hy0;have htl:t.opn.length=l.length+1:=by rw[ho];simp
 rw[htl]at eo hoc;obtain⟨L,x',hLO⟩:∃L x',LO=L++ [x']:=by
  rcases Ro LO with e | ⟨r,z,e⟩
  ·subst e
   simp at hx0
  ·exact⟨r,z,by simpa using e⟩
 have hLl:L.length=l.length:=by
  have:=h1.ol;rw[hLO,htl]at this
  simpa using this
 have hxx:x'=x:=by
  rw[hLO,←hLl]at hx0
  simpa using hx0
 subst hxx;have hbg:g≠b:=fun e=>by
  have:=h1.lb;rw[←e,hog]at this;omega
 have hglt:g<w.heap.size:=h1.ll g (by omega);have hblt:b<w.heap.size:=h1.box.lt;have ho1:=h1.opn;rw[eo,hLO]at ho1;refine⟨g,c,L,x',by rw[h1.box.cell 5,←eo];rfl,ho1,hLl,hoc,fun j u hu=>(hcel j u hu).1,hbg,hglt,hblt,fun W w' hb hF hE=>?_⟩;have hEw:Exc (fun k=>k=g) w w':=(Exc.of (X:=fun k=>k=g) hb).trans hE (fun _ _ q=>q);have box':Blk w' b 116 (bP t.nm kv ov pa):=hEw.blk h1.box (fun e=>hbg e.symm);have box2:=box'.set 5 (.slice (some ⟨g,0,none⟩) l.length c);have eb:(bP t.nm kv ov pa).set 5 (.slice (some ⟨g,0,none⟩) l.length c)=bP t.nm kv (some ⟨g,0,none⟩,l.length,c) pa:=rfl;rw[eb]at box2;refine⟨by rw[box'.cell 5,←eo];rfl,box'.frozen (by simp[bP]),?_⟩;obtain⟨F,hFF⟩:∃F,w'.setCell ⟨b,5,none⟩ (.slice (some ⟨g,0,none⟩) l.length c)=F:=⟨_,rfl⟩;have hEF:Exc (fun k=>k=g∨k=b) w F:=by
  rw[←hFF];exact(hEw.mono (fun k _ q=> .inl q)).set 5 _ (fun _=> .inr rfl)
 have hFo:ag 58 10 af 0 F (.slice (some ⟨g,0,none⟩) l.length c) L:=hF.kp (fun k e=>by
  obtain rfl:=PT e;rw[←hFF];exact PN _ ⟨b,5,none⟩ _ _ hbg)
 rw[hFF]at box2⊢;have kS:∀k,k<w.heap.size→lab k≠3→lab k≠1→F.heap[k]? =w.heap[k]? :=fun k q1 q2 q3=>hEF.block k q1 (fun e=>e.elim (fun e=>q2 (by rw[e];exact hog)) (fun e=>q3 (by rw[e];exact h1.lb)))
 have kR:Kp R w F:=fun k q=>kS k (h1.rl k q) (by rw[h1.sep k q];decide) (by rw[h1.sep k q];decide)
 have kz:∀z,z≠0→z≠3→z≠1→Kp (fun k=>lab k=z) w F:=fun z a0 a1 a2 k q=>kS k (h1.ll k (by rw[show lab k=z from q];exact a0)) (by rw[show lab k=z from q];exact a1) (by rw[show lab k=z from q];exact a2)
 have hrr:∀k,R k→R k∨lab k=6+l.length:=fun k q=> .inl q
 have ln:∀k z,z≠6+l.length→lab k=z→(if lab k=6+l.length then 0 else lab k)=z:=fun k z hz q=>by rw[PO (by omega),q]
 refine⟨fun k=>(if lab k=6+l.length then 0 else lab k)≠0,fun k=>R k∨lab k=6+l.length,⟨kv,(some ⟨g,0,none⟩,l.length,c),pa,L,fun k=>if lab k=6+l.length then 0 else lab k,⟨fun k q=>?_,fun k q=>?_,fun k q=>?_,ln b 1 (by omega) h1.lb,box2,?_,hFo,fun k e=>?_,hLl,fun i x2 y2 p q=>?_,?_⟩,fun k=>RJ⟩,(hH0.keep kR).mono hrr,?_,hEF.mono (fun k _ q=>(h2 k).2 ?_),fun k q=>(h2 k).2 ?_,fun k q=>?_⟩
 ·refine PH (h1.ll k fun e=>q ?_) hEF.size
  simp only[e];rw[PO (by omega)]
 ·exact PH (q.elim (h1.rl k) (fun q=>h1.ll k (by omega))) hEF.size
 ·rcases q with q | q
  ·have:=h1.sep k q
   exact ln k 0 (by omega) this
  ·simp only[q];simp
 ·exact(h1.kids.keep kR (kz 2 (by decide) (by decide) (by decide))).mono hrr (fun k q=>ln k 2 (by omega) q)
 ·obtain rfl:=PT e
  exact ln _ 3 (by omega) hog
 ·have hil:i<l.length:=(Pw.1 q).1
  obtain⟨q1,q2⟩:=h1.on i x2 y2 (by rw[hLO,P7 (by omega)];exact p) (by rw[ho,P7 hil];exact q);exact⟨(q1.keep kR).mono hrr,(q2.keep kR (kz _ (by omega) (by omega) (by omega))).mono hrr (fun k z=>ln k _ (by omega) z)⟩
 ·have:=lN.keep (t:={t with opn:=l}) h1.para kR (fun k q=>q.elim (kz 4 (by decide) (by decide) (by decide) k) (kz 5 (by decide) (by decide) (by decide) k))
  exact lN.relab this hrr (fun k q=>ln k 4 (by omega) q) (fun k q=>ln k 5 (by omega) q)
 ·exact(hK0.keep kR (kz _ (by omega) (by omega) (by omega))).nss
 ·rcases q with q | q
  ·rw[q];omega
  ·rw[q,h1.lb];omega
 ·intro e
  apply q;simp only[e];rw[PO (by omega)]
 ·exact q.imp id (fun q=>(h2 k).2 (by omega))
def AfC (m:Bool)(X R:Nat→Prop)(b:Nat)(t':Bt)(w w':World):Prop:= ∃X' R',BM m X' R' w' b t'∧Exc X w w'∧(∀k,X' k→X k∨w.heap.size≤k)∧ ∀k,R' k→R k∨X k∨w.heap.size≤k
theorem AfB.c {m:Bool}{X R:Nat→Prop}{b:Nat}{t':Bt}{w w':World}(h:AfB m X R b t' w w'):AfC m X R b t' w w':=by
 obtain⟨X',h1,h2,h3⟩:=h;exact⟨X',R,h1,h2,h3,fun k q=> .inl q⟩
theorem AfC.refl {m:Bool}{X R:Nat→Prop}{b:Nat}{t:Bt}{w:World}(h:BM m X R w b t):AfC m X R b t w w:=⟨X,R,h,Exc.refl _ _,fun k q=> .inl q,fun k q=> .inl q⟩
theorem AfC.step {m:Bool}{X R X1 R1:Nat→Prop}{b:Nat}{t1:Bt}{w w1 w2:World}(hE:Exc X w w1)(hX:∀k,X1 k→X k∨w.heap.size≤k)(hR:∀k,R1 k→R k∨X k∨w.heap.size≤k)(h:AfC m X1 R1 b t1 w1 w2):AfC m X R b t1 w w2:=by
 obtain⟨X',R',h1,h2,h3,h4⟩:=h;have hs:=hE.size;refine⟨X',R',h1,hE.trans h2 (fun k q z=>(hX k z).elim id (fun z=>by omega)),fun k q=>(h3 k q).elim (hX k) (fun z=> .inr (by omega)),fun k q=>?_⟩;rcases h4 k q with z | z | z
 ·exact hR k z
 ·exact .inr (hX k z)
 ·exact .inr (.inr (by omega))
def jP:Nat→Bt→Bt
 | 0,t=>t
 | n+1,t=>jP n (jg t)
theorem iQ:∀(n:Nat) (t:Bt),jP (n+1) t=jg (jP n t)
 | 0,t=>rfl
 | n+1,t=>iQ n (jg t)
theorem uw:∀(n:Nat) (t:Bt),(jP n t).opn.length=t.opn.length-n
 | 0,t=>rfl
 | n+1,t=>by rw[iQ,oW,uw n t];omega
theorem uy:∀(n:Nat) (t:Bt),btl (jP n t)=btl t
 | 0,t=>rfl
 | n+1,t=>by rw[iQ,sF,uy n t]
theorem Am:∀(n:Nat) (t:Bt),jY (jP n t)=jY t
 | 0,t=>rfl
 | n+1,t=>by rw[iQ,LQ,Am n t]
theorem uu:∀(n:Nat) (t:Bt),qR t (jP n t)
 | 0,t=>⟨rfl,rfl,rfl,rfl⟩
 | n+1,t=>by rw[iQ];exact(uu n t).trans (Gg _)
theorem yJ:∀l:List Nd,l.length≤nlL l:=fun l=>by
 have:=pU l;have:=pR l;omega
theorem fC {t:Bt}{N:Nat}(h:btl t≤N):t.kids.length≤N∧t.opn.length≤N∧(∀y∈t.opn,y.kids.length≤N)∧t.text.length≤N:=by
 unfold btl at h;have h1:=yJ t.kids;have h2:=yJ t.opn;refine⟨by omega,by omega,fun y hy=>?_,by omega⟩;obtain⟨q,hq⟩:=QP.1 hy;have h3:=AO hq;have h4:=yJ y.kids;omega
def xP (m:Bool)(X R:Nat→Prop)(b:Nat)(t':Bt)(w:World)(e:Ending)(w':World):Prop:=e=.returned (.tuple #[])∧AfC m X R b t' w w'
theorem lC {m:Bool}{X R:Nat→Prop}{w:World}{b:Nat}{t:Bt}(h:BM m X R w b t)(d:Nat)(hb:btl t≤200000)(hd:d≤200000):
  Calls Tryz.prog 64 #[eF b,.int .i64 (d:Int)] w (xP m X R b (jP (t.opn.length-d) t) w):=by
 have HD:=zH (lw h);have H0:=zH (AfC.refl h);have HBT:=zH hb;have hol:=(fC hb).2.1;obtain⟨N,hN⟩:∃N,t.opn.length=N:=⟨_,rfl⟩;have HN:=zH hN;rw[hN]at HD hol⊢;clear h hb hN;go_enter Tryz.func64,Tryz.ntmps64
 go_wp2_with fail
 refine HD.out.mono ?_;rintro e w1 ⟨rfl,rfl⟩;clear HD;go_wp2_with fail
 go_loopw [4,5] (fun s _ wr=> ∃n:Nat,n≤N∧s=.int .i64 (n:Int)∧(n=N∨d≤n)∧Hid (AfC m X R b (jP (N-n) t) w wr)) (fun s _ _=>(intOf s).toNat)
 case atStart=>exact⟨N,Px _,rfl,.inl rfl,by rw[Rs];exact H0⟩
 case round=>
  obtain⟨n,hn,rfl,hnd,HA⟩:=hrel
  by_cases hlt:d<n
  ·obtain⟨p,rfl⟩:∃p,n=p+1:=⟨n-1,by omega⟩
   obtain⟨X1,R1,hB,hE,hX,hR⟩:=HA.out;have hbl:=uy (N-(p+1)) t;have hlen:=uw (N-(p+1)) t;have hsm:=fC (show btl (jP (N-(p+1)) t)≤200000 by rw[hbl];exact HBT.out);have hpop:=iQ (N-(p+1)) t;rw[show N-(p+1)+1=N-p by omega]at hpop;obtain⟨tj,htj⟩:∃tj,jP (N-(p+1)) t=tj:=⟨_,rfl⟩;rw[htj]at hB hlen hsm hpop;rw[HN.out]at hlen;obtain⟨l,y,ho⟩:∃l y,tj.opn=l++ [y]:=by
    rcases dG tj.opn with e | q
    ·rw[e]at hlen;simp at hlen;omega
    ·exact q
   have hl:l.length=p:=by
    rw[ho]at hlen;simp at hlen;omega
   rw[lW ho]at hpop;obtain⟨g,c,L,x,c5,hOW,hLl,hgc,hcel,hgb,hgl,hbl2,hDR⟩:=hB.drop ho;rw[hl]at c5 hOW hLl hgc hcel hDR;have hcl:=HN;obtain⟨W1,hW1⟩:∃W,W=wr.alloc (.cells (af x).toArray 58):=⟨_,rfl⟩;have b1:Below wr.heap.size wr W1:=by rw[hW1];exact ae _ _
   have kx:Blk W1 wr.heap.size 58 (af x):=by rw[hW1];exact PK wr _
   have hOW1:ag 58 10 af 0 W1 (.slice (some ⟨g,0,none⟩) (p+1) c) (L++ [x]):=hOW.kp (fun k e=>by
    obtain rfl:=PT e;exact b1.block _ hgl)
   have HDEL:=zH (BU (n:=p) hOW1 hLl (by omega));have d5:W1.cell? ⟨b,5,none⟩=some (.slice (some ⟨g,0,none⟩) (p+1) c):=(b1.cell (p:=⟨b,5,none⟩) hbl2).trans c5;have HPUT:Hid (∀w2,OB g p c L W1 (.returned (.slice (some ⟨g,0,none⟩) p c)) w2→w2.cell? ⟨b,5,none⟩=some (.slice (some ⟨g,0,none⟩) (p+1) c)∧w2.frozen? ⟨b,5,none⟩=false∧
     (∀(j:Nat) u,(af x)[j]? =some u→(w2.setCell ⟨b,5,none⟩ (.slice (some ⟨g,0,none⟩) p c)).cell? ⟨wr.heap.size,j,none⟩=some u)∧
     Calls Tryz.prog 95 #[eF b,.agg (af x).toArray] (w2.setCell ⟨b,5,none⟩ (.slice (some ⟨g,0,none⟩) p c)) fun e w'=>e=.returned (.tuple #[])∧AfC m X R b (jP (N-p) t) w w'):=zH (fun w2 ⟨_,q1,q2⟩=>by
    obtain⟨e5,f5,X2,R2,hB2,hH2,hK2,hE2,hX2,hR2⟩:=hDR W1 w2 b1 q1 q2;refine⟨e5,f5,fun j u hu=>?_,?_⟩
    ·have hne:wr.heap.size≠b:=by omega
     have hne2:wr.heap.size≠g:=by omega
     rw[aM ((PN w2 ⟨b,5,none⟩ _ _ hne).trans (q2.block _ kx.lt hne2)),kx.cell j];exact hu
    ·have hs2:({tj with opn:=l}:Bt).kids.length≤400000:=by show tj.kids.length≤_;omega
     refine(vJ hB2 hH2 hK2 hs2 (fun z hz=>?_) (by show l.length≤_;omega)).mono ?_
     ·have:=hsm.2.2.1 z (by rw[ho];exact List.mem_append_left _ hz)
      omega
     ·rintro e w' ⟨h1,h2⟩
      refine⟨h1,?_⟩;rw[hpop];refine AfC.step hE hX hR (AfC.step hE2 (fun k q=> .inl (hX2 k q)) (fun k q=>(hR2 k q).elim .inl (fun q=> .inr (.inl q))) h2.c))
   have hi0:(d:Int)<(p:Int)+1:=by omega
   have hi1:(0:Int)≤(p:Int):=by omega
   have hi2:(p:Int)≤200000:=by omega
   have hi3:(d:Int)<((p+1:Nat):Int):=by omega
   obtain⟨xk,xl,xn,⟨t1,t2,t3⟩,⟨k1,k2,k3⟩,⟨r1,r2,r3⟩,xc,⟨q1,q2,q3⟩,xb,xa⟩:=x;simp only[af,pv]at hcel hW1 HPUT;have x0:=hcel 0 _ rfl;have x1:=hcel 1 _ rfl;have x2:=hcel 2 _ rfl;have x3:=hcel 3 _ rfl;have x4:=hcel 4 _ rfl;have x5:=hcel 5 _ rfl;have x6:=hcel 6 _ rfl;have x7:=hcel 7 _ rfl;have x8:=hcel 8 _ rfl;have x9:=hcel 9 _ rfl;simp only[Qr]at x0;have HW1:=zH hW1;have HWW:=zH (show wr.heap.size<W1.heap.size from kx.lt);clear hcel hW1 b1 kx hOW1 hOW hDR hB hE hX hR hpop hbl hlen hsm ho hcl hgb hgl hbl2 HA hol;go_upto_region 4 with fail
   rw[←HW1.out];clear x0 x1 x2 x3 x4 x5 x6 x7 x8 x9 c5;go_wp2_with fail
   refine HDEL.out.mono ?_;rintro e w2 ⟨rfl,hq1,hq2⟩;obtain⟨e5,f5,hxc,hcall⟩:=HPUT.out w2 ⟨rfl,hq1,hq2⟩;have x0:=hxc 0 _ rfl;have x1:=hxc 1 _ rfl;have x2:=hxc 2 _ rfl;have x3:=hxc 3 _ rfl;have x4:=hxc 4 _ rfl;have x5:=hxc 5 _ rfl;have x6:=hxc 6 _ rfl;have x7:=hxc 7 _ rfl;have x8:=hxc 8 _ rfl;have x9:=hxc 9 _ rfl;have HC:=zH hcall;clear hcall hxc hq1 hq2 HDEL HPUT;go_wp2_with fail
   refine HC.out.mono ?_;rintro e w3 ⟨rfl,hA⟩;have HA3:=zH hA;clear hA HC x0 x1 x2 x3 x4 x5 x6 x7 x8 x9 e5 f5;go_wp2_with fail
   go_roundw
   case rel=>exact⟨p,by omega,by go_num,.inr (by omega),HA3⟩
   case measure=>(simp[intOf];try omega)
  ·have hnd':¬(d:Int)<(n:Int):=by omega
   have HE:Hid (N-n=N-d):=zH (by omega);go_wp2_with fail
   go_end0;exact⟨rfl,HE.out▸HA.out⟩
theorem aC {W W':World}(hb:Below W.heap.size W W'){g j:Nat}{v:Value}(h:W.cell? ⟨g,j,none⟩=some v):W'.cell? ⟨g,j,none⟩=some v:=(hb.cell (p:=⟨g,j,none⟩) (PX W _ h)).trans h
theorem qO:∀l:List Gly,trm l=[]↔ink l=[]
 | []=>by simp[trm,ink]
 | g::l=>by
  have ih:=qO l;rw[ic]
  by_cases hg:g.1=32
  ·have e:ink (g::l)=ink l:=by simp[ink,hg]
   rw[e,←ih]
   by_cases ht:trm l=[]
   ·simp[ht,hg]
   ·simp[ht]
  ·have e:ink (g::l)=g::ink l:=by simp[ink,hg]
   rw[e];simp[hg]
theorem BM.flat {m:Bool}{X R:Nat→Prop}{w:World}{b:Nat}{t:Bt}(h:BM m X R w b t)(hh:t.has=true):
  ∃g tv,w.cell? ⟨b,6,none⟩=some (.pointer (some ⟨g,0,none⟩))∧w.frozen? ⟨b,6,none⟩=false∧b<w.heap.size∧g<w.heap.size∧(∀(j:Nat) u,(af (iW t.line tv))[j]? =some u→w.cell? ⟨g,j,none⟩=some u)∧
   ∀W,Below w.heap.size w W→ ∃X' R',BM m X' R' (W.setCell ⟨b,6,none⟩ (.pointer none)) b (mI t)∧FsS R' 2 aR (W.setCell ⟨b,6,none⟩ (.pointer none)) (pv tv) t.text∧Exc X w (W.setCell ⟨b,6,none⟩ (.pointer none))∧(∀k,X' k→X k)∧ ∀k,R' k→R k∨X k:=by
 obtain⟨kv,ov,pa,LO,lab,h1,h2⟩:=h;rcases h1.para with⟨q,-⟩| ⟨-,g,tv,rfl,hg,hp⟩
 ·rw[hh]at q;cases q
 refine⟨g,tv,h1.box.cell 6,h1.box.frozen (by simp[bP]),h1.box.lt,hg.lt,fun j u hu=>by rw[hg.cell j];exact hu,fun W hb=>?_⟩;have box':=(h1.box.below hb).set 6 (.pointer none);have eb:(bP t.nm kv ov (.pointer (some ⟨g,0,none⟩))).set 6 (.pointer none)=bP t.nm kv ov (.pointer none):=rfl;rw[eb]at box';obtain⟨F,hFF⟩:∃F,W.setCell ⟨b,6,none⟩ (.pointer none)=F:=⟨_,rfl⟩;have hEF:Exc (fun k=>k=b) w F:=by
  rw[←hFF];exact(Exc.of (X:=fun k=>k=b) hb).set 6 _ (fun _=>rfl)
 rw[hFF]at box'⊢;have kS:∀k,k<w.heap.size→lab k≠1→F.heap[k]? =w.heap[k]? :=fun k q1 q2=>hEF.block k q1 (fun e=>q2 (by rw[e];exact h1.lb))
 have kR:Kp R w F:=fun k q=>kS k (h1.rl k q) (by rw[h1.sep k q];decide)
 have kz:∀z,z≠0→z≠1→Kp (fun k=>lab k=z) w F:=fun z a0 a1 k q=>kS k (h1.ll k (by rw[show lab k=z from q];exact a0)) (by rw[show lab k=z from q];exact a1)
 have ln:∀k z,z≠5→lab k=z→(if lab k=5 then 0 else lab k)=z:=fun k z hz q=>by rw[PO (by omega),q]
 refine⟨fun k=>(if lab k=5 then 0 else lab k)≠0,fun k=>R k∨lab k=5,⟨kv,ov,.pointer none,LO,fun k=>if lab k=5 then 0 else lab k,⟨fun k q=>?_,fun k q=>?_,fun k q=>?_,ln b 1 (by omega) h1.lb,box',?_,h1.opn.kp (fun k e=>kz 3 (by decide) (by decide) k (h1.opb k e)),fun k e=>ln k 3 (by omega) (h1.opb k e),h1.ol,fun i x2 y2 p q=>?_,.inl ⟨rfl,rfl,rfl,rfl⟩⟩,fun k=>RJ⟩,?_,hEF.mono (fun k _ q=>(h2 k).2 (by rw[q,h1.lb];decide)),fun k q=>(h2 k).2 ?_,fun k q=>?_⟩
 ·refine PH (h1.ll k fun e=>q ?_) hEF.size
  simp only[e];rw[PO (by omega)]
 ·exact PH (q.elim (h1.rl k) (fun q=>h1.ll k (by omega))) hEF.size
 ·rcases q with q | q
  ·have:=h1.sep k q
   exact ln k 0 (by omega) this
  ·simp only[q];simp
 ·exact(h1.kids.keep kR (kz 2 (by decide) (by decide))).mono (fun k q=> .inl q) (fun k q=>ln k 2 (by omega) q)
 ·obtain⟨q1,q2⟩:=h1.on i x2 y2 p q
  exact⟨(q1.keep kR).mono (fun k q=> .inl q),(q2.keep kR (kz _ (by omega) (by omega))).mono (fun k q=> .inl q) (fun k z=>ln k _ (by omega) z)⟩
 ·rcases hp with⟨-,-,ho,hob⟩| ⟨-,-,hf⟩
  ·exact(o9 ah (ho.kp (fun k e=>kz 5 (by decide) (by decide) k (hob k e)))).mono (fun k e=> .inr (hob k e))
  ·exact(hf.keep kR).mono (fun k q=> .inl q)
 ·intro e
  apply q;simp only[e];rw[PO (by omega)]
 ·exact q.imp id (fun q=>(h2 k).2 (by omega))
theorem BM.none6 {m:Bool}{X R:Nat→Prop}{w:World}{b:Nat}{t:Bt}(h:BM m X R w b t)(hh:t.has=false):w.cell? ⟨b,6,none⟩=some (.pointer none)∧Nl t:=by
 obtain⟨kv,ov,pa,LO,lab,h1,h2⟩:=h;rcases h1.para with⟨-,rfl,q1,q2⟩| ⟨q,-⟩
 ·exact⟨h1.box.cell 6,q1,q2,hh⟩
 ·rw[hh]at q;cases q
theorem jX {m:Bool}{X R:Nat→Prop}{w:World}{b:Nat}{t:Bt}(h:BM m X R w b t)(hb:btl t≤90000):
  Calls Tryz.prog 63 #[eF b] w (xP m X R b (bM t) w):=by
 cases hh:t.has with
 | false=>
  obtain⟨c6,hf⟩:=h.none6 hh;have HA:Hid (AfC m X R b (bM t) w w):=zH (by rw[Oi hf];exact AfC.refl h);have hblt:=h.lt b (.inl h.self);clear h hb hh hf;go_enter Tryz.func63,Tryz.ntmps63
  go_wp2_with fail
  go_end0;exact⟨rfl,HA.out⟩
 | true=>
  obtain⟨g,tv,c6,f6,hbl,hgl,hcel,hFL⟩:=h.flat hh;have hsm:=fC hb;obtain⟨W1,hW1⟩:∃W,W=w.alloc (.cells (af (iW t.line tv)).toArray 58):=⟨_,rfl⟩;have b1:Below w.heap.size w W1:=by rw[hW1];exact ae _ _
  have kx:Blk W1 w.heap.size 58 (af (iW t.line tv)):=by rw[hW1];exact PK w _
  obtain⟨X2,R2,hB2,hT2,hE2,hX2,hR2⟩:=hFL W1 b1;obtain⟨F,hF⟩:∃F,W1.setCell ⟨b,6,none⟩ (.pointer none)=F:=⟨_,rfl⟩;have kxF:Blk F w.heap.size 58 (af (iW t.line tv)):=by
   rw[←hF];exact kx.other (by omega) 6 _
  rw[hF]at hB2 hT2 hE2;have HTR:=zH (sS t.text (pv tv) F hT2.1 (by omega));have HK:=zH kxF;have HINK:Hid (∀w3,Below F.heap.size F w3→ink t.text=[]→AfC m X R b (bM t) w w3):=zH (fun w3 hb3 e=>by
   have e2:bM t=mI t:=by unfold bM;rw[PZ e]
   rw[e2];exact⟨X2,R2,hB2.keep (Kp.below hb3 (fun k q=>hB2.lt k (.inl q))) (Kp.below hb3 (fun k q=>hB2.lt k (.inr q))) hb3.size,hE2.trans (Exc.of (X:=fun _=>False) hb3) (fun _ _ q=>q.elim),fun k q=> .inl (hX2 k q),fun k q=>(hR2 k q).elim .inl (fun q=> .inr (.inl q))⟩)
  have HPUT:Hid (∀w3,Below F.heap.size F w3→ink t.text≠ []→Calls Tryz.prog 95 #[eF b,.agg (af (iW t.line tv)).toArray] w3 fun e w'=>e=.returned (.tuple #[])∧AfC m X R b (bM t) w w'):=zH (fun w3 hb3 e=>by
   have kR3:Kp R2 F w3:=Kp.below hb3 (fun k q=>hB2.lt k (.inr q));have hB3:=hB2.keep (Kp.below hb3 (fun k q=>hB2.lt k (.inl q))) kR3 hb3.size;have hH:df R2 w3 (iW t.line tv) (lG t).hd:=⟨rfl,rfl,rfl,hT2.keep kR3,GrS.nil _ _,rfl,TrS.nil _ _,rfl,rfl⟩;refine(vJ hB3 (y:=lG t) hH (NsS.nil _ _) (by show t.kids.length≤_;omega) (fun y hy=>by have:=hsm.2.2.1 y hy;omega) (by show t.opn.length≤_;omega)).mono ?_;rintro e' w' ⟨h1,h2⟩;refine⟨h1,?_⟩;have e2:bM t=jh (mI t) (lG t):=by
    unfold bM;rw[PO e];rcases dG t.opn with q | ⟨l,y,q⟩
    ·rw[jb _ q,jb _ (show(mI t).opn=[] from q)];rfl
    ·rw[ja _ q,ja _ (show(mI t).opn=l++ [y] from q)];rfl
   rw[e2];have hE3:Exc X w w3:=hE2.trans (Exc.of (X:=fun _=>False) hb3) (fun _ _ q=>q.elim);exact AfC.step hE3 (fun k q=> .inl (hX2 k q)) (fun k q=>(hR2 k q).elim .inl (fun q=> .inr (.inl q))) h2.c)
  have HTL:Hid ((jL t.text).length=0↔ink t.text=[]):=zH (by
   rw[wI,←qO];exact List.length_eq_zero_iff)
  have HTN:Hid ((jL t.text).length≤200000):=zH (by
   rw[qa];have:=lS t.text;omega)
  obtain⟨t1,t2,t3⟩:=tv;obtain⟨tx,htx⟩:∃tx,t.text=tx:=⟨_,rfl⟩;obtain⟨tl,htl⟩:∃tl,t.line=tl:=⟨_,rfl⟩;rw[htx]at HTR HINK HPUT HTL HTN;rw[htl]at HK HPUT hW1 hcel;simp only[af,iW,pv,aj]at HTR HK HPUT hW1 hcel;have x0:=hcel 0 _ rfl;have x1:=hcel 1 _ rfl;have x2:=hcel 2 _ rfl;have x3:=hcel 3 _ rfl;have x4:=hcel 4 _ rfl;have x5:=hcel 5 _ rfl;have x6:=hcel 6 _ rfl;have x7:=hcel 7 _ rfl;have x8:=hcel 8 _ rfl;have x9:=hcel 9 _ rfl;have d6:W1.cell? ⟨b,6,none⟩=some (.pointer (some ⟨g,0,none⟩)):=(b1.cell (p:=⟨b,6,none⟩) hbl).trans c6;have e6:W1.frozen? ⟨b,6,none⟩=false:=(b1.frozen (p:=⟨b,6,none⟩) hbl).trans f6;have HW1:=zH hW1;have HFF:=zH hF;clear h hb hh hFL hcel hW1 b1 kx hB2 hT2 hE2 hX2 hR2 kxF hF hsm htx htl hgl;go_enter Tryz.func63,Tryz.ntmps63
  go_upto_region 2 with fail
  rw[←HW1.out];clear x0 x1 x2 x3 x4 x5 x6 x7 x8 x9 c6 f6;go_upto_region 3 with fail
  rw[HFF.out];have y0:=HK.out.cell 0;have y1:=HK.out.cell 1;have y2:=HK.out.cell 2;have y3:=HK.out.cell 3;have y4:=HK.out.cell 4;have y5:=HK.out.cell 5;have y6:=HK.out.cell 6;have y7:=HK.out.cell 7;have y8:=HK.out.cell 8;have y9:=HK.out.cell 9;simp only[PD,PE]at y0 y1 y2 y3 y4 y5 y6 y7 y8 y9;clear d6 e6 HW1 HFF;go_wp2_with fail
  refine HTR.out.mono ?_;rintro e w3 ⟨u,rfl,ho,hb3⟩;obtain⟨ua,uc,rfl⟩:=(ag.sl ah ho).len;have z0:=aC hb3 y0;have z1:=aC hb3 y1;have z2:=aC hb3 y2;have z3:=aC hb3 y3;have z4:=aC hb3 y4;have z5:=aC hb3 y5;have z6:=aC hb3 y6;have z7:=aC hb3 y7;have z8:=aC hb3 y8;have z9:=aC hb3 y9;have HB3:=zH hb3;have hTN:=HTN.out;obtain⟨n,hn⟩:∃n,(jL tx).length=n:=⟨_,rfl⟩;rw[hn]at HTL hTN⊢;clear ho hb3 hn HTN HTR HK y0 y1 y2 y3 y4 y5 y6 y7 y8 y9
  by_cases hn0:n=0
  ·have HQ:=zH (HINK.out w3 HB3.out (HTL.out.1 hn0))
   subst hn0;clear HINK HPUT;go_wp2_with fail
   go_end0;exact⟨rfl,HQ.out⟩
  ·have HQ:=zH (HPUT.out w3 HB3.out (fun e=>hn0 (HTL.out.2 e)))
   have hp:(0:Int)<(n:Int):=by omega
   clear HINK HPUT;go_wp2_with fail
   refine HQ.out.mono ?_;rintro e w4 ⟨rfl,hA⟩;have HA:=zH hA;clear hA HQ;go_wp2_with fail
   go_end0;exact⟨rfl,HA.out⟩
def kds (t:Bt):List Int:=t.opn.map (·.hd.kind)
theorem ni (t:Bt):(kds t).length=t.opn.length:=by simp[kds]
theorem JN {t:Bt}{i:Nat}{y:Nd}(h:t.opn[i]? =some y):(kds t)[i]? =some y.hd.kind:=by simp[kds,h]
theorem Mt (t:Bt):kds (jg t)=(kds t).dropLast:=by
 unfold kds;rcases dG t.opn with h | ⟨l,x,h⟩
 ·rw[oV h,h];rfl
 ·rw[lW h,h]
  rcases dG l with h2 | ⟨r,y,h2⟩
  ·rw[jb x (by exact h2)]
   simp[h2]
  ·rw[ja x (show({t with opn:=l}:Bt).opn=r++ [y] from h2),h2]
   simp[kH,Nd.hd]
theorem Bi {t:Bt}{n:Nat}(h:t.opn.length=n+1):∃y,t.opn.getLast?=some y∧(kds t)[n]? =some y.hd.kind:=by
 rcases dG t.opn with e | ⟨l,y,e⟩
 ·rw[e]at h;simp at h
 ·have hl:l.length=n:=by rw[e]at h;simpa using h
  refine⟨y,by rw[e];simp,?_⟩;apply JN;rw[e,←hl];simp
theorem pG {t:Bt}{n i:Nat}(h:t.opn.length=n+1)(hi:i<n):(kds (jg t))[i]? =(kds t)[i]? :=by
 rw[Mt,List.getElem?_dropLast,PZ (by rw[ni];omega)]
theorem ut (k:Int):∀(n:Nat) (t:Bt) (p:Nat),t.opn.length=n→(kds t)[p]? =some k→(∀(q:Nat) z,p<q→(kds t)[q]? =some z→z≠k)→qU k n t=jP (n-p) t
 | 0,t,p,h,hp,_=>by
  have:=(Pw.1 hp).1;rw[ni]at this;omega
 | n+1,t,p,h,hp,hq=>by
  obtain⟨y,hy,hk⟩:=Bi h;have hlt:=(Pw.1 hp).1;rw[ni]at hlt;unfold qU;rw[hy];simp only
  by_cases e:p=n
  ·subst e
   rw[hk]at hp;rw[PZ (PT hp),show p+1-p=1 by omega];rfl
  ·have hne:¬y.hd.kind=k:=hq n _ (by omega) hk
   rw[PO hne,ut k n (jg t) p (by rw[oW,h];rfl) (by rw[pG h (by omega)];exact hp) (fun q z h1 h2=>by
    by_cases hqn:q<n
    ·rw[pG h hqn]at h2
     exact hq q z h1 h2
    ·have:=(Pw.1 h2).1
     rw[ni,oW,h]at this;omega),show n+1-p=(n-p)+1 by omega]
   rfl
theorem lX (K:List Int):∀(n:Nat) (t:Bt) (d:Nat),t.opn.length=n→d≤n→(∀(q:Nat) z,d≤q→(kds t)[q]? =some z→z∈K)→(∀z,0<d→(kds t)[d-1]? =some z→z∉K)→lY K n t=jP (n-d) t
 | 0,t,d,h,hd,_,_=>by
  obtain rfl:d=0:=by omega
  rfl
 | n+1,t,d,h,hd,h1,h2=>by
  obtain⟨y,hy,hk⟩:=Bi h;unfold lY;rw[hy];simp only
  by_cases e:d=n+1
  ·subst e
   rw[PO (h2 _ (by omega) hk),Rs];rfl
  ·rw[PZ (h1 n _ (by omega) hk),lX K n (jg t) d (by rw[oW,h];rfl) (by omega) (fun q z hq hz=>by
    by_cases hqn:q<n
    ·rw[pG h hqn]at hz
     exact h1 q z hq hz
    ·have:=(Pw.1 hz).1
     rw[ni,oW,h]at this;omega) (fun z h0 hz=>h2 z h0 (by rw[pG h (by omega)]at hz;exact hz)),show n+1-d=(n-d)+1 by omega]
   rfl
def Pv (m:Bool)(X R:Nat→Prop)(b:Nat)(t':Bt)(r:Bool)(w:World)(e:Ending)(w':World):Prop:=e=.returned (.bool r)∧AfC m X R b t' w w'
theorem Eo {m:Bool}{X R:Nat→Prop}{w:World}{b:Nat}{t:Bt}(h:BM m X R w b t)(k:Int)(hb:btl t≤80000):
  Calls Tryz.prog 88 #[eF b,.int .i64 k] w (Pv m X R b (dm t k).1 (dm t k).2 w):=by
 have HE:=zH (jX h (by omega));have hbe:=fD t;have HBE:Hid (btl (bM t)≤90000):=zH (by omega);clear h hb hbe;go_enter Tryz.func88,Tryz.ntmps88
 go_wp2_with fail
 refine HE.out.mono ?_;rintro e w1 ⟨rfl,X1,R1,hB,hE,hX,hR⟩;obtain⟨te,hte⟩:∃te,bM t=te:=⟨_,rfl⟩;have HTE:=zH hte;rw[hte]at hB HBE;have hsm:=fC HBE.out;have HF:=zH (Im hB k (by omega));have HA1:Hid (AfC m X R b te w w1):=zH ⟨X1,R1,hB,hE,hX,hR⟩;have HCL:Hid (∀d:Nat,d≤200000→Calls Tryz.prog 64 #[eF b,.int .i64 (d:Int)] w1 fun e w'=>e=.returned (.tuple #[])∧AfC m X R b (jP (te.opn.length-d) te) w w'):=zH (fun d hd=>by
  refine(lC hB d (by have:=HBE.out;omega) hd).mono ?_;rintro e w' ⟨h1,h2⟩;exact⟨h1,AfC.step hE hX hR h2⟩)
 have HOL:Hid (te.opn.length≤90000):=zH hsm.2.1;clear HE hB hE hX hR hsm hte;go_wp2_with fail
 refine HF.out.mono ?_;rintro e w2 ⟨r,rfl,hr,rfl⟩;rcases hr with⟨rfl,hn⟩| ⟨p,y,rfl,hy,hk,hq⟩
 ·have hi:bIn te k=false:=by
   unfold bIn;rw[List.any_eq_false];intro y hy
   simpa using hn y hy
  have HC:Hid (dm t k=(te,false)):=zH (by
   unfold dm;rw[HTE.out,PO (by rw[hi];decide)])
  clear hn hi HF;go_wp2_with fail
  go_ret;refine⟨?_,?_⟩
  ·rw[HC.out];rfl
  ·rw[HC.out];exact HA1.out
 ·have hpl:=(Pw.1 hy).1
  have hi:bIn te k=true:=by
   unfold bIn;rw[List.any_eq_true];exact⟨y,Qq hy,by simpa using hk⟩
  have HC:Hid (dm t k=(jP (te.opn.length-p) te,true)):=zH (by
   unfold dm;rw[HTE.out,PZ hi];rw[ut k _ te p rfl (by rw[JN hy,hk]) (fun q z h1 h2=>by
    unfold kds at h2;rw[QL]at h2
    cases hz:te.opn[q]? with
    | none=>rw[hz]at h2;cases h2
    | some z'=>
     rw[hz]at h2;obtain rfl:=PT h2;exact hq q z' h1 hz)])
  have HCC:=zH (HCL.out p (by have:=HOL.out;omega));have hp0:(0:Int)≤(p:Int):=by omega
  have hp1:¬(p:Int)<0:=by omega
  clear hy hk hq hpl hi HF HCL;go_wp2_with fail
  refine HCC.out.mono ?_;rintro e w3 ⟨rfl,hA⟩;have HA:=zH hA;clear hA HCC;go_wp2_with fail
  go_ret;refine⟨?_,?_⟩
  ·rw[HC.out];rfl
  ·rw[HC.out];exact HA.out
def Lh (r k:Int)(l:List Int):Prop:=decide (r≥0)=decide (k∈l)
theorem En (k:Int)(l:List Int)(v:Value)(w:World)(hv:Fs 1 il w v l)(hl:l.length≤1000000):
  Calls Tryz.prog 153 #[v,.int .i64 k] w fun e w'=> ∃r,e=.returned (.int .i64 r)∧Lh r k l∧w=w':=by
 have HV:=zH hv;obtain⟨aa,ca,rfl⟩:=hv.len;clear hv;go_enter Tryz.func153,Tryz.ntmps153
 go_wp2_with fail
 go_loopw [5,8] (fun _ i wr=> ∃j:Nat,j≤l.length∧i=.int .i64 j∧Hid (k∉l.take j)∧Hid (w=wr)) (fun _ i _=>l.length-(intOf i).toNat)
 case atStart=>exact⟨0,by omega,rfl,zH (by simp),zH rfl⟩
 case round=>
  obtain⟨j,hj,rfl,HN,HW⟩:=hrel
  by_cases hlt:j<l.length
  ·obtain⟨x,hx⟩:∃x,l[j]? =some x:=⟨l[j],Pz hlt⟩
   obtain⟨a0,c0,hv0,-,hr⟩:=HV.out;injection hv0 with e1 e2 e3
   subst e1;obtain⟨g,off,rfl,hc⟩:=hr j x hx;have c0:=hc 0 _ rfl;rw[RB,Qr,HW.out]at c0;have hi0:(j:Int)<(l.length:Int):=by omega
   have hi1:(0:Int)≤(j:Int):=by omega
   by_cases hk:x=k
   ·have HT:Hid (Lh (j:Int) k l):=zH (by
     unfold Lh;have h1:k∈l:=QP.2 ⟨j,hk▸hx⟩;simp[h1])
    have hq:(k==x)=true:=by simpa using hk.symm
    subst hk;clear hx hr hc HV;go_wp2_with fail
    go_ret;exact⟨_,rfl,HT.out,HW.out⟩
   ·have HT:Hid (k∉l.take (j+1)):=zH (by
     rw[Qw,hx];simp only[Option.toList_some,QR,RH,not_or];exact⟨HN.out,fun e=>hk e.symm⟩)
    have hq:(k==x)=false:=by
     have:¬k=x:=fun e=>hk e.symm
     simpa using this
    clear hx hr hc;go_wp2_with fail
    go_roundw
    case rel=>exact⟨j+1,by omega,by go_num,HT,HW⟩
    case measure=>(simp[intOf];try omega)
  ·obtain rfl:j=l.length:=by omega
   have hlt':¬(l.length:Int)<(l.length:Int):=by omega
   rw[Qa]at HN;have HT:Hid (Lh (-1) k l):=zH (by unfold Lh;simp[HN.out]);go_wp2_with fail
   go_ret;exact⟨_,rfl,HT.out,HW.out⟩
theorem wy (k:Int)(l:List Int)(v:Value)(w:World)(hv:Fs 1 il w v l)(hl:l.length≤1000000):
  Calls Tryz.prog 122 #[v,.int .i64 k] w fun e w'=>e=.returned (.bool (decide (k∈l)))∧w=w':=by
 have HI:=zH (En k l v w hv hl);obtain⟨aa,ca,rfl⟩:=hv.len;clear hv;go_enter Tryz.func122,Tryz.ntmps122
 go_wp2_with fail
 refine HI.out.mono ?_;rintro e w1 ⟨r,rfl,hr,rfl⟩;have HR:Hid (decide (r≥0)=decide (k∈l)):=zH hr;clear hr HI;go_wp2_with fail
 go_ret;exact⟨aH HR.out,rfl⟩
theorem QT8 {P:Prop}(h:P:=by
 go_wp2_with fail
 refine HCC.out.mono ?_;rintro e w4 ⟨rfl,hA⟩;have HA:=zH hA;clear hA HCC;go_wp2_with fail
 go_end0;exact⟨rfl,HSH.out▸HA.out⟩):P:=h
theorem Ij {m:Bool}{X R:Nat→Prop}{w:World}{b:Nat}{t:Bt}(h:BM m X R w b t)(K:List Int)(v:Value){S:Nat→Prop}(hv:FsS S 1 il w v K)(hS:∀k,S k→k<w.heap.size∧ ¬X k)(hK:K.length≤1000000)(hb:btl t≤80000):
  Calls Tryz.prog 84 #[eF b,v] w (xP m X R b (aK t K) w):=by
 have HE:=zH (jX h (by omega));have hbe:=fD t;have HBE:Hid (btl (bM t)≤90000):=zH (by omega);have HV:=zH hv;have HS:=zH hS;obtain⟨va,vc,rfl⟩:=hv.1.len;clear h hb hbe hv hS;go_enter Tryz.func84,Tryz.ntmps84
 go_wp2_with fail
 go_step3
 go_wp2_with fail
 refine HE.out.mono ?_;rintro e w1 ⟨rfl,X1,R1,hB,hE,hX,hR⟩;obtain⟨te,hte⟩:∃te,bM t=te:=⟨_,rfl⟩;have HTE:=zH hte;rw[hte]at hB HBE;have hsm:=fC HBE.out;have HD:=zH (lw hB);have HCON:Hid (∀k,Calls Tryz.prog 122 #[.slice va K.length vc,.int .i64 k] w1 fun e w'=>e=.returned (.bool (decide (k∈K)))∧w1=w'):=zH (fun k=>wy k K _ w1 (HV.out.keep (fun k q=>hE.block k (HS.out k q).1 (HS.out k q).2)).1 hK);have HCL:Hid (∀d:Nat,d≤200000→Calls Tryz.prog 64 #[eF b,.int .i64 (d:Int)] w1 fun e w'=>e=.returned (.tuple #[])∧AfC m X R b (jP (te.opn.length-d) te) w w'):=zH (fun d hd=>by
  refine(lC hB d (by have:=HBE.out;omega) hd).mono ?_;rintro e w' ⟨h1,h2⟩;exact⟨h1,AfC.step hE hX hR h2⟩)
 have HAT:Hid (∃oa oc,w1.cell? ⟨b,5,none⟩=some (.slice oa te.opn.length oc)∧ ∀(i:Nat) z,(kds te)[i]? =some z→ ∃g,oa=some ⟨g,0,none⟩∧w1.cell? ⟨g,i*10,none⟩=some (.int .i64 z)):=by
  obtain⟨kv,ov,pa,LO,lab,h1,h2⟩:=hB;obtain⟨oa,oc,eo,-⟩:=h1.olen;refine zH ⟨oa,oc,by rw[h1.box.cell 5,←eo];rfl,fun i z hz=>?_⟩;unfold kds at hz;rw[QL]at hz
  cases hy:te.opn[i]? with
  | none=>rw[hy]at hz;cases hz
  | some y=>
   rw[hy]at hz;obtain rfl:=PT hz;obtain⟨g,c,x,e,-,-,-,hc,hH,-⟩:=h1.at hy;rw[eo]at e;injection e with e1
   refine⟨g,e1,?_⟩;have:=(hc 0 _ rfl).1;rw[hH.kind]at this;exact this
 have HOL:Hid (te.opn.length≤90000):=zH hsm.2.1;have HKL:=zH (ni te);obtain⟨N,hN⟩:∃N,te.opn.length=N:=⟨_,rfl⟩;rw[hN]at HD HAT HOL HKL;have HN:=zH hN;clear HE hB hE hX hR hsm hte hN HV HS;go_wp2_with fail
 refine HD.out.mono ?_;rintro e w2 ⟨rfl,rfl⟩;obtain⟨oa,oc,o5,hat⟩:=HAT.out;have HAT2:=zH hat;clear HD HAT hat;go_wp2_with fail
 go_step3
 go_wp2_with fail
 go_loopw [4,5,21] (fun s _ _ wr=> ∃n:Nat,n≤N∧s=.int .i64 (n:Int)∧Hid (∀(q:Nat) z,n≤q→(kds te)[q]? =some z→z∈K)∧w1=wr) (fun s _ _ _=>(intOf s).toNat)
 case atStart=>exact⟨N,Px _,rfl,zH (fun q z hq hz=>by
  have:=(Pw.1 hz).1;have:=HKL.out;omega),rfl⟩
 case round=>
  obtain⟨n,hn,rfl,HALL,rfl⟩:=hrel
  by_cases hlt:0<n
  ·obtain⟨p,rfl⟩:∃p,n=p+1:=⟨n-1,by omega⟩
   obtain⟨z,hz⟩:∃z,(kds te)[p]? =some z:=⟨(kds te)[p]'(by have:=HKL.out;omega),Pz _⟩;obtain⟨g,rfl,c0⟩:=HAT2.out p z hz;have HC:=zH (HCON.out z);have hp9:(p:Int)≤90000:=by have:=HOL.out;omega
   have HZ:=zH hz;have hi0:(p:Int)<(N:Int):=by omega
   have hi1:(0:Int)≤(p:Int):=by omega
   obtain⟨d,hd⟩:∃d,decide (z∈K)=d:=⟨_,rfl⟩;rw[hd]at HC;have HD:=zH hd;clear hz hd;go_wp2_with fail
   refine HC.out.mono ?_;rintro e w3 ⟨rfl,rfl⟩;clear HC
   cases d with
   | true=>
    have HALL2:Hid (∀(q:Nat) z,p≤q→(kds te)[q]? =some z→z∈K):=zH (fun q z' hq hz'=>by
     by_cases e:q=p
     ·subst e
      rw[HZ.out]at hz';obtain rfl:=PT hz';exact Rc HD.out
     ·exact HALL.out q z' (by omega) hz')
    go_wp2_with fail
    go_roundw
    case rel=>exact⟨p,by omega,by go_num,HALL2,by first | trivial | rfl⟩
    case measure=>(simp[intOf];try omega)
   | false=>
    have HSH:Hid (aK t K=jP (N-(p+1)) te):=zH (by
     unfold aK;rw[HTE.out,lX K _ te (p+1) rfl (by rw[HN.out];omega) HALL.out (fun z' _ hz'=>by
      rw[show p+1-1=p by omega,HZ.out]at hz';obtain rfl:=PT hz';exact of_decide_eq_false HD.out),HN.out])
    have HCC:=zH (HCL.out (p+1) (by have:=HOL.out;omega));rw[HN.out]at HCC;have e1:((p+1:Nat):Int)=(p:Int)+1:=by omega
    rw[e1]at HCC;clear e1;exact QT8
  ·obtain rfl:n=0:=by omega
   have HSH:Hid (aK t K=jP (N-0) te):=zH (by
    unfold aK;rw[HTE.out,lX K _ te 0 rfl (by omega) HALL.out (fun z' h0 _=>by omega),HN.out])
   have HCC:=zH (HCL.out 0 (by omega));rw[HN.out]at HCC;simp only[Int.natCast_zero,Int.cast_ofNat_Int]at HCC;exact QT8
abbrev MdC (base:Nat)(W:World)(v:Value):Nat→Prop:=fun k=>base≤k∧k<W.heap.size∧v.ownBlock≠some k
structure TI (SI:Nat→Prop)(base:Nat)(W:World)(v:Value)(l:List bT)(j:Nat):Prop where
 lt:∀b,SI b→b<base
 sz:base≤W.heap.size
 own:∃L:List (Bool×PV),ag 90 2 cz base W v L∧L.length=l.length∧
  (∀(i:Nat) s r,i<j→L[i]? =some s→l[i]? =some r→s.1=r.1∧GrS (MdC base W v) W (pv s.2) r.2)∧(∀(i:Nat) s r,j≤i→L[i]? =some s→l[i]? =some r→s.1=r.1∧GrS SI W (pv s.2) r.2)
structure KI (SI:Nat→Prop)(base:Nat)(W:World)(v:Value)(l:List Nd)(j:Nat):Prop where
 lt:∀b,SI b→b<base
 sz:base≤W.heap.size
 own:∃L:List NV,ag 58 10 af base W v L∧L.length=l.length∧
  (∀(i:Nat) x y,i<j→L[i]? =some x→l[i]? =some y→df (MdC base W v) W x y.hd∧NsS (MdC base W v) W (pv x.kids) y.kids)∧(∀(i:Nat) x y,j≤i→L[i]? =some x→l[i]? =some y→df SI W x y.hd∧NsS SI W (pv x.kids) y.kids)
section
variable {SI:Nat→Prop}{base:Nat}{W W':World}{v:Value}{j:Nat}
theorem MdC.up (hb:W.heap.size≤W'.heap.size):∀k,MdC base W v k→MdC base W' v k:=fun k q=>⟨q.1,PH q.2.1 hb,q.2.2⟩
theorem TI.keep {l:List bT}(h:TI SI base W v l j)(hb:Below W.heap.size W W'):TI SI base W' v l j:=by
 obtain⟨L,h1,h2,h3,h4⟩:=h.own;have kI:Kp SI W W':=Kp.below hb (fun b q=>PH (h.lt b q) h.sz);have kM:Kp (MdC base W v) W W':=Kp.below hb (fun b q=>q.2.1);exact⟨h.lt,PY h.sz hb.size,L,h1.keep hb,h2,fun i s r a c d=>⟨(h3 i s r a c d).1,((h3 i s r a c d).2.keep kM).mono (MdC.up hb.size)⟩,fun i s r a c d=>⟨(h4 i s r a c d).1,(h4 i s r a c d).2.keep kI⟩⟩
theorem KI.keep {l:List Nd}(h:KI SI base W v l j)(hb:Below W.heap.size W W'):KI SI base W' v l j:=by
 obtain⟨L,h1,h2,h3,h4⟩:=h.own;have kI:Kp SI W W':=Kp.below hb (fun b q=>PH (h.lt b q) h.sz);have kM:Kp (MdC base W v) W W':=Kp.below hb (fun b q=>q.2.1);exact⟨h.lt,PY h.sz hb.size,L,h1.keep hb,h2,fun i s r a c d=>⟨((h3 i s r a c d).1.keep kM).mono (MdC.up hb.size),((h3 i s r a c d).2.keep kM).mono (MdC.up hb.size)⟩,fun i s r a c d=>⟨(h4 i s r a c d).1.keep kI,(h4 i s r a c d).2.keep kI⟩⟩
theorem TI.set {l:List bT}(h:TI SI base W v l j){g o:Nat}{u:Value}(hg:g<base)(hS:¬SI g):TI SI base (W.setCell ⟨g,o,none⟩ u) v l j:=by
 obtain⟨L,h1,h2,h3,h4⟩:=h.own;have ne:∀k,k≠g→(W.setCell ⟨g,o,none⟩ u).heap[k]? =W.heap[k]? :=fun k q=>PN W ⟨g,o,none⟩ u k q
 have kI:Kp SI W (W.setCell ⟨g,o,none⟩ u):=fun k q=>ne k (fun e=>hS (e▸q))
 have kM:Kp (MdC base W v) W (W.setCell ⟨g,o,none⟩ u):=fun k q=>ne k (fun e=>by have:=q.1;omega)
 have hz:(W.setCell ⟨g,o,none⟩ u).heap.size=W.heap.size:=gH _ _ _;exact⟨h.lt,by rw[hz];exact h.sz,L,h1.kp (fun k e=>ne k (fun e2=>by have:=(h1.ty e).1;omega)),h2,fun i s r a c d=>⟨(h3 i s r a c d).1,((h3 i s r a c d).2.keep kM).mono (MdC.up (Rw hz.symm))⟩,fun i s r a c d=>⟨(h4 i s r a c d).1,(h4 i s r a c d).2.keep kI⟩⟩
theorem KI.set {l:List Nd}(h:KI SI base W v l j){g o:Nat}{u:Value}(hg:g<base)(hS:¬SI g):KI SI base (W.setCell ⟨g,o,none⟩ u) v l j:=by
 obtain⟨L,h1,h2,h3,h4⟩:=h.own;have ne:∀k,k≠g→(W.setCell ⟨g,o,none⟩ u).heap[k]? =W.heap[k]? :=fun k q=>PN W ⟨g,o,none⟩ u k q
 have kI:Kp SI W (W.setCell ⟨g,o,none⟩ u):=fun k q=>ne k (fun e=>hS (e▸q))
 have kM:Kp (MdC base W v) W (W.setCell ⟨g,o,none⟩ u):=fun k q=>ne k (fun e=>by have:=q.1;omega)
 have hz:(W.setCell ⟨g,o,none⟩ u).heap.size=W.heap.size:=gH _ _ _;exact⟨h.lt,by rw[hz];exact h.sz,L,h1.kp (fun k e=>ne k (fun e2=>by have:=(h1.ty e).1;omega)),h2,fun i s r a c d=>⟨((h3 i s r a c d).1.keep kM).mono (MdC.up (Rw hz.symm)),((h3 i s r a c d).2.keep kM).mono (MdC.up (Rw hz.symm))⟩,fun i s r a c d=>⟨(h4 i s r a c d).1.keep kI,(h4 i s r a c d).2.keep kI⟩⟩
theorem TI.at {l:List bT}{a:Option Addr}{n c:Nat}(h:TI SI base W (.slice a n c) l j){r:bT}(hr:l[j]? =some r):
  ∃g s,a=some ⟨g,0,none⟩∧base≤g∧g<W.heap.size∧W.cell? ⟨g,j*2,none⟩=some (.bool r.1)∧W.cell? ⟨g,j*2+1,none⟩=some (pv s)∧W.frozen? ⟨g,j*2+1,none⟩=false∧GrS SI W (pv s) r.2:=by
 obtain⟨L,h1,h2,h3,h4⟩:=h.own;have hj:=(Pw.1 hr).1;obtain⟨s,hs⟩:∃s,L[j]? =some s:=⟨L[j]'(by omega),Pz _⟩;obtain⟨g,rfl,hg,cur,hc⟩:=h1.addr (by omega);obtain⟨q1,q2⟩:=h1.slotA dB hs (i:=0) (u:= .bool s.1) rfl;obtain⟨q3,q4⟩:=h1.slotA dB hs (i:=1) (u:=pv s.2) rfl;have h5:=h4 j s r (Px _) hs hr;rw[h5.1]at q1;exact⟨g,s.2,rfl,hg,(Py.1 hc).1,q1,q3,q4,h5.2⟩
theorem KI.at {l:List Nd}{a:Option Addr}{n c:Nat}(h:KI SI base W (.slice a n c) l j){y:Nd}(hy:l[j]? =some y):
  ∃g x,a=some ⟨g,0,none⟩∧base≤g∧g<W.heap.size∧(∀(i:Nat) u,(af x)[i]? =some u→W.cell? ⟨g,j*10+i,none⟩=some u∧W.frozen? ⟨g,j*10+i,none⟩=false)∧df SI W x y.hd∧NsS SI W (pv x.kids) y.kids:=by
 obtain⟨L,h1,h2,h3,h4⟩:=h.own;have hj:=(Pw.1 hy).1;obtain⟨x,hx⟩:∃s,L[j]? =some s:=⟨L[j]'(by omega),Pz _⟩;obtain⟨g,rfl,hg,cur,hc⟩:=h1.addr (by omega);exact⟨g,x,rfl,hg,(Py.1 hc).1,fun i u hu=>h1.slotA ay hx hu,(h4 j x y (Px _) hx hy).1,(h4 j x y (Px _) hx hy).2⟩
theorem TI.step {l:List bT}{g n c:Nat}(h:TI SI base W (.slice (some ⟨g,0,none⟩) n c) l j)(hb:Below W.heap.size W W'){r:bT}(hr:l[j]? =some r){s:PV}(hs:GrS (fun k=>W.heap.size≤k∧k<W'.heap.size) W' (pv s) r.2):
  TI SI base (W'.setCell ⟨g,j*2+1,none⟩ (pv s)) (.slice (some ⟨g,0,none⟩) n c) l (j+1)∧Exc (· =g) W (W'.setCell ⟨g,j*2+1,none⟩ (pv s)):=by
 obtain⟨L,h1,h2,h3,h4⟩:=h.own;have hj:=(Pw.1 hr).1;obtain⟨s0,hs0⟩:∃s,L[j]? =some s:=⟨L[j]'(by omega),Pz _⟩;obtain⟨g',e1,hg,cur,hcur⟩:=h1.addr (by omega);injection e1 with e1
 injection e1 with e1
 subst e1;have hgl:g<W.heap.size:=(Py.1 hcur).1;have ne:∀k,k≠g→(W'.setCell ⟨g,j*2+1,none⟩ (pv s)).heap[k]? =W'.heap[k]? :=fun k q=>PN W' ⟨g,_,none⟩ _ k q
 have kI:Kp SI W (W'.setCell ⟨g,j*2+1,none⟩ (pv s)):=fun k q=>(ne k (fun e=>by have:=h.lt k q;omega)).trans (hb.block k (PH (h.lt k q) h.sz))
 have kM:Kp (MdC base W (.slice (some ⟨g,0,none⟩) n c)) W (W'.setCell ⟨g,j*2+1,none⟩ (pv s)):=fun k q=>(ne k (fun e=>q.2.2 (by rw[e];rfl))).trans (hb.block k q.2.1)
 have hz:(W'.setCell ⟨g,j*2+1,none⟩ (pv s)).heap.size=W'.heap.size:=gH _ _ _;have up:∀k,MdC base W (.slice (some ⟨g,0,none⟩) n c) k→MdC base (W'.setCell ⟨g,j*2+1,none⟩ (pv s)) (.slice (some ⟨g,0,none⟩) n c) k:=MdC.up (by rw[hz];exact hb.size);have hh1:=(h1.keep hb).set1 dB (s':=(s0.1,s)) hs0 (i:=1) (u:=pv s) (by decide) rfl;refine⟨⟨h.lt,by rw[hz];exact PY h.sz hb.size,L.set j (s0.1,s),hh1,by rw[Ru];exact h2,fun i s' r' hi hs' hr'=>?_,fun i s' r' hi hs' hr'=>?_⟩,(Exc.of hb).set _ _ (fun _=>rfl)⟩
 ·by_cases e:i=j
  ·subst e
   rw[RQ (by omega)]at hs';obtain rfl:=PT hs';rw[hr]at hr';obtain rfl:=PT hr';refine⟨(h4 i s0 r (Px _) hs0 hr).1,(hs.keep (fun k q=>ne k (by omega))).mono (fun k q=>⟨by have:=h.sz;omega,by rw[hz];exact q.2,fun e=>by simp only[Value.ownBlock,QC]at e;omega⟩)⟩
  ·rw[QY (fun z=>e z.symm)]at hs'
   exact⟨(h3 i s' r' (by omega) hs' hr').1,((h3 i s' r' (by omega) hs' hr').2.keep kM).mono up⟩
 ·rw[QY (by omega)]at hs'
  exact⟨(h4 i s' r' (by omega) hs' hr').1,(h4 i s' r' (by omega) hs' hr').2.keep kI⟩
theorem KI.step {l:List Nd}{g n c:Nat}(h:KI SI base W (.slice (some ⟨g,0,none⟩) n c) l j)(hb:Below W.heap.size W W'){y:Nd}(hy:l[j]? =some y){x:NV}(hx:df (fun k=>W.heap.size≤k∧k<W'.heap.size) W' x y.hd)(hk:NsS (fun k=>W.heap.size≤k∧k<W'.heap.size) W' (pv x.kids) y.kids):
  KI SI base (W'.setCells g (j*10) (af x)) (.slice (some ⟨g,0,none⟩) n c) l (j+1)∧Exc (· =g) W (W'.setCells g (j*10) (af x)):=by
 obtain⟨L,h1,h2,h3,h4⟩:=h.own;have hj:=(Pw.1 hy).1;obtain⟨g',e1,hg,cur,hcur⟩:=h1.addr (by omega);injection e1 with e1
 injection e1 with e1
 subst e1;have hgl:g<W.heap.size:=(Py.1 hcur).1;have ne:∀k,k≠g→(W'.setCells g (j*10) (af x)).heap[k]? =W'.heap[k]? :=fun k q=>aB q _ _ _
 have kI:Kp SI W (W'.setCells g (j*10) (af x)):=fun k q=>(ne k (fun e=>by have:=h.lt k q;omega)).trans (hb.block k (PH (h.lt k q) h.sz))
 have kM:Kp (MdC base W (.slice (some ⟨g,0,none⟩) n c)) W (W'.setCells g (j*10) (af x)):=fun k q=>(ne k (fun e=>q.2.2 (by rw[e];rfl))).trans (hb.block k q.2.1)
 have hz:(W'.setCells g (j*10) (af x)).heap.size=W'.heap.size:=mU _ _ _;have up:∀k,MdC base W (.slice (some ⟨g,0,none⟩) n c) k→MdC base (W'.setCells g (j*10) (af x)) (.slice (some ⟨g,0,none⟩) n c) k:=MdC.up (by rw[hz];exact hb.size);have hh1:=(h1.keep hb).putA ay (j:=j) (by omega) x;have kN:Kp (fun k=>W.heap.size≤k∧k<W'.heap.size) W' (W'.setCells g (j*10) (af x)):=fun k q=>ne k (by omega)
 have mN:∀k,(W.heap.size≤k∧k<W'.heap.size)→MdC base (W'.setCells g (j*10) (af x)) (.slice (some ⟨g,0,none⟩) n c) k:=fun k q=>⟨by have:=h.sz;omega,by rw[hz];exact q.2,fun e=>by simp only[Value.ownBlock,QC]at e;omega⟩
 refine⟨⟨h.lt,by rw[hz];exact PY h.sz hb.size,L.set j x,hh1,by rw[Ru];exact h2,fun i s' r' hi hs' hr'=>?_,fun i s' r' hi hs' hr'=>?_⟩,jf (X:=(· =g)) (a:=W) (g:=g) (fun _=>rfl) _ _ _ (Exc.of hb)⟩
 ·by_cases e:i=j
  ·subst e
   rw[RQ (by omega)]at hs';obtain rfl:=PT hs';rw[hy]at hr';obtain rfl:=PT hr';exact⟨(hx.keep kN).mono mN,(hk.keep kN).mono mN⟩
  ·rw[QY (fun z=>e z.symm)]at hs'
   exact⟨((h3 i s' r' (by omega) hs' hr').1.keep kM).mono up,((h3 i s' r' (by omega) hs' hr').2.keep kM).mono up⟩
 ·rw[QY (by omega)]at hs'
  exact⟨(h4 i s' r' (by omega) hs' hr').1.keep kI,(h4 i s' r' (by omega) hs' hr').2.keep kI⟩
theorem TI.done {l:List bT}(h:TI SI base W v l l.length):TrS (fun k=>base≤k∧k<W.heap.size) W v l:=by
 obtain⟨L,h1,h2,h3,-⟩:=h.own;refine⟨L,h2,(o9 dB h1).mono (fun k e=>⟨(h1.ty e).1,h1.ltb e⟩),fun i s r a c=>?_⟩;obtain⟨q1,q2⟩:=h3 i s r (Pw.1 c).1 a c;exact⟨q1,q2.mono (fun k q=>⟨q.1,q.2.1⟩)⟩
theorem KI.done {l:List Nd}(h:KI SI base W v l l.length):dN (fun _=>False) base W v l:=by
 obtain⟨L,h1,h2,h3,-⟩:=h.own;exact⟨fun _ q=>q.elim,h.sz,L,MdC base W v,h1,h2,fun k q=> .inr q,fun i x y a c=>h3 i x y (Pw.1 c).1 a c⟩
end
structure lK (base:Nat)(w':World)(x:NV)(y:Nd):Prop where
 hd:df (MdC base w' (pv x.kids)) w' x y.hd
 kids:dN (fun _=>False) base w' (pv x.kids) y.kids
theorem lK.all {base:Nat}{w':World}{x:NV}{y:Nd}(h:lK base w' x y):df (fun k=>base≤k∧k<w'.heap.size) w' x y.hd∧NsS (fun k=>base≤k∧k<w'.heap.size) w' (pv x.kids) y.kids:=
 ⟨h.hd.mono (fun k q=>⟨q.1,q.2.1⟩),h.kids.nss.mono (fun k q=>q.elim (fun q=>q.elim) id)⟩
def FE (y:Nd)(w:World)(e:Ending)(w':World):Prop:= ∃x:NV,e=.returned (.agg (af x).toArray)∧lK w.heap.size w' x y∧Below w.heap.size w w'
structure CA (w W:World)(x:NV):Prop where
 bel:Below w.heap.size w W
 bx:Blk W w.heap.size 58 (af x)
 br:Blk W (w.heap.size+1) 58 zNd
abbrev Rg (lo hi:Nat):Nat→Prop:=fun k=>lo≤k∧k<hi
section
variable {w W W':World}{x x':NV}{g lo hi:Nat}
theorem CA.sz (h:CA w W x):w.heap.size+2≤W.heap.size:=h.br.lt
theorem CA.keep (h:CA w W x)(hb:Below W.heap.size W W'):CA w W' x:=⟨h.bel.trans (hb.mono h.bel.size),h.bx.below hb,h.br.below hb⟩
theorem CA.set (h:CA w W x)(j:Nat)(v:Value)(e:(af x).set j v=af x'):CA w (W.setCell ⟨w.heap.size,j,none⟩ v) x':=⟨h.bel.setCell (Px _) _,e▸h.bx.set j v,h.br.other (by omega) j v⟩
theorem CA.exc (h:CA w W x)(hE:Exc (· =g) W W')(hg:w.heap.size+1<g):CA w W' x:=
 ⟨⟨hE.os.trans h.bel.os,hE.tape.trans h.bel.tape,hE.output.trans h.bel.output,PY h.bel.size hE.size,fun k hk=>(hE.block k (PH hk h.bel.size) (fun e=>by omega)).trans (h.bel.block k hk)⟩,hE.blk h.bx (fun e=>by omega),hE.blk h.br (fun e=>by omega)⟩
theorem Rg.kb (hb:Below W.heap.size W W')(hh:hi≤W.heap.size):Kp (Rg lo hi) W W':=Kp.below hb (fun k q=>PH q.2 hh)
theorem Rg.ks (hg:g<lo)(o:Nat)(v:Value):Kp (Rg lo hi) W (W.setCell ⟨g,o,none⟩ v):=fun k q=>PN W ⟨g,o,none⟩ v k (fun e=>by have:=q.1;have e2:k=g:=e;omega)
theorem Rg.ke (hE:Exc (· =g) W W')(hg:hi≤g)(hh:hi≤W.heap.size):Kp (Rg lo hi) W W':=fun k q=>hE.block k (PH q.2 hh) (fun e=>by have:=q.2;omega)
end
theorem KI.setC {SI:Nat→Prop}{base:Nat}{v:Value}{j:Nat}{l:List Nd}{g:Nat}(hg:g<base)(hS:¬SI g):∀(vs:List Value) (o:Nat) (W:World),KI SI base W v l j→KI SI base (W.setCells g o vs) v l j
 | [],_,_,h=>h
 | u::vs,o,W,h=>KI.setC hg hS vs (o+1) _ (h.set hg hS)
theorem dN.lessF {base base':Nat}{W:World}{v:Value}{l:List Nd}(h:dN (fun _=>False) base W v l)(hb:base'≤base):dN (fun _=>False) base' W v l:=by
 obtain⟨L,S,h1,h2,h3,h4⟩:=h.own;exact⟨fun _ q=>q.elim,PY hb h.sz,L,S,h1.mono hb,h2,fun k q=>(h3 k q).imp id (fun z=>⟨PY hb z.1,z.2⟩),h4⟩
theorem dN.own_ge' {base:Nat}{W:World}{v:Value}{l:List Nd}{S:Nat→Prop}(h:dN S base W v l){k:Nat}(hk:v.ownBlock=some k):base≤k:=by
 obtain⟨L,S,h1,-⟩:=h.own;exact(h1.ty hk).1
abbrev Pp (S:Nat→Prop)(m:Nat):Prop:= ∀b,S b→b<m
theorem He (h:Hd):h.text.length≤hdl h∧h.rows.length+lens h.rows≤hdl h∧cZ h.grid.rows≤hdl h:=by unfold hdl;omega
theorem rC:∀(n:Nat) (y:Nd),lu y≤n→nlN y≤90000→ ∀(S:Nat→Prop) (x:NV) (w:World),qK S w x y→(∀b,S b→b<w.heap.size)→
  Calls Tryz.prog 133 #[.agg (af x).toArray] w (FE y w):=by
 intro n
 induction n with
 | zero=>
  intro y hn;rw[nD]at hn;omega
 | succ n ih=>
  intro y hn hb S x w hx hS;have HIH:=zH ih;clear ih;obtain⟨hH,hK⟩:=hx;rw[CZ]at hb;rw[nD]at hn;obtain⟨p1,p2,p3⟩:=He y.hd;obtain⟨⟨xk,xl,xn,tx,rws,tab⟩,ks⟩:=y;obtain⟨cols,trs,gb,ga⟩:=tab;simp only[Nd.hd,Nd.kids]at hH hK hb hn p1 p2 p3;obtain⟨xk',xl',xn',⟨t1,t2,t3⟩,⟨k1,k2,k3⟩,⟨r1,r2,r3⟩,xc,⟨q1,q2,q3⟩,xb,xa⟩:=x;obtain⟨e1,e2,e3,hT,hR,e4,hG,e5,e6⟩:=hH;simp only at e1 e2 e3 hT hR e4 hG e5 e6 hK;subst e1 e2 e3 e4 e5 e6;generalize hdl _=hv at hb p1 p2 p3;obtain rfl:t2=tx.length:=by
   obtain⟨a,c,e⟩:=hT.1.len;simp only[pv]at e;injection e
  obtain rfl:r2=rws.length:=by
   obtain⟨a,c,e⟩:=hR.len;simp only[pv]at e;injection e
  obtain rfl:q2=trs.length:=by
   obtain⟨a,c,e⟩:=hG.len;simp only[pv]at e;injection e
  obtain rfl:k2=ks.length:=by
   obtain⟨a,c,e⟩:=hK.len;simp only[pv]at e;injection e
  have hv9:hv≤90000:=by omega
  have hk9:nlL ks≤90000:=by omega
  have htl:=oL trs;have hkl:=yJ ks;obtain⟨W1,hW1⟩:∃W,W=(w.alloc (.cells (af (⟨xk',xl',xn',(t1,tx.length,t3),(k1,ks.length,k3),(r1,rws.length,r3),xc,(q1,trs.length,q3),xb,xa⟩:NV)).toArray 58)).alloc (.cells zNd.toArray 58):=⟨_,rfl⟩;have b1:Below w.heap.size w W1:=by rw[hW1];exact Oo w _ _
  have bx1:Blk W1 w.heap.size 58 (af (⟨xk',xl',xn',(t1,tx.length,t3),(k1,ks.length,k3),(r1,rws.length,r3),xc,(q1,trs.length,q3),xb,xa⟩:NV)):=by rw[hW1];exact(Qk _ _ (by simp)).trans (PK w _)
  have br1:Blk W1 (w.heap.size+1) 58 zNd:=by
   have:=PK (w.alloc (.cells (af (⟨xk',xl',xn',(t1,tx.length,t3),(k1,ks.length,k3),(r1,rws.length,r3),xc,(q1,trs.length,q3),xb,xa⟩:NV)).toArray 58)) (.cells zNd.toArray 58);rw[PS,←hW1]at this;exact this
  have CA1:Hid (CA w W1 (⟨xk',xl',xn',(t1,tx.length,t3),(k1,ks.length,k3),(r1,rws.length,r3),xc,(q1,trs.length,q3),xb,xa⟩:NV)):=zH ⟨b1,bx1,br1⟩;have KS:Hid (∀W,Below w.heap.size w W→Kp S w W):=zH (fun W h=>Kp.below h hS);have HC1:=zH (fU tx _ W1 (hT.keep (KS.out _ b1)).1 (by omega));have HS:=zH hS;have HR:=zH hR;have HG:=zH hG;have HK:=zH hK;have HW1:=zH hW1;have HN:=zH hn;have HB:=zH hb;have x3:=CA1.out.bx.cell 3;simp only[af,pv,PD,PE]at x3;simp only[af,pv,zNd]at HC1 HW1⊢;clear b1 bx1 br1 hS hR hG hK hT hW1 hn hb;go_enter Tryz.func133,Tryz.ntmps133
  go_upto_region 1 with fail
  rw[←HW1.out];clear HW1;go_wp2_with fail
  refine HC1.out.mono ?_;rintro e w2 ⟨u2,rfl,ho2,hb2⟩;obtain⟨a2,c2,rfl⟩:=(ag.sl ah ho2).len;have hca2:=CA1.out.keep hb2;have y3:=hca2.bx.cell 3;have f3:w2.frozen? ⟨w.heap.size,3,none⟩=false:=hca2.bx.frozen (by simp[af]);simp only[af,pv,PD,PE]at y3;obtain⟨W2,hW2⟩:∃W,w2.setCell ⟨w.heap.size,3,none⟩ (.slice a2 tx.length c2)=W:=⟨_,rfl⟩;have CA2:Hid (CA w W2 (⟨xk',xl',xn',(a2,tx.length,c2),(k1,ks.length,k3),(r1,rws.length,r3),xc,(q1,trs.length,q3),xb,xa⟩:NV)):=zH (by rw[←hW2];exact hca2.set 3 _ rfl);have hz2:W2.heap.size=w2.heap.size:=by rw[←hW2];exact gH _ _ _
  have hw2:=hb2.size;have hsz1:=CA1.out.sz;have HT2:Hid (FsS (Rg (w.heap.size+2) W2.heap.size) 2 aR W2 (.slice a2 tx.length c2) tx):=zH (by
   have h:=(o9 ah ho2).mono (T:=Rg (w.heap.size+2) w2.heap.size) (fun k e=>⟨PY hsz1 (ho2.ty e).1,ho2.ltb e⟩);rw[hz2,←hW2];exact h.keep (Rg.ks (by omega) _ _))
  have HW2:=zH hW2;have HC2:=zH (vM S rws _ W2 (HR.out.keep (KS.out _ CA2.out.bel)) (by omega) (fun b q=>PH (HS.out b q) CA2.out.bel.size));have x5:=CA2.out.bx.cell 5;simp only[af,pv,PD,PE]at x5
  try simp only[pv]at HC2
  clear hca2 ho2 hb2 hz2 hw2 hsz1 HC1 CA1 x3 hW2;go_upto_region 2 with fail
  rw[HW2.out];clear HW2 y3 f3;go_wp2_with fail
  refine HC2.out.mono ?_;rintro e w3 ⟨u3,rfl,ho3,hb3⟩;obtain⟨a3,c3,rfl⟩:=ho3.len;have hca3:=CA2.out.keep hb3;have y5:=hca3.bx.cell 5;have f5:w3.frozen? ⟨w.heap.size,5,none⟩=false:=hca3.bx.frozen (by simp[af]);simp only[af,pv,PD,PE]at y5;obtain⟨W3,hW3⟩:∃W,w3.setCell ⟨w.heap.size,5,none⟩ (.slice a3 rws.length c3)=W:=⟨_,rfl⟩;have CA3:Hid (CA w W3 (⟨xk',xl',xn',(a2,tx.length,c2),(k1,ks.length,k3),(a3,rws.length,c3),xc,(q1,trs.length,q3),xb,xa⟩:NV)):=zH (by rw[←hW3];exact hca3.set 5 _ rfl);have hz3:W3.heap.size=w3.heap.size:=by rw[←hW3];exact gH _ _ _
  have hw3:=hb3.size;have hsz2:=CA2.out.sz;have HT3:Hid (FsS (Rg (w.heap.size+2) W3.heap.size) 2 aR W3 (.slice a2 tx.length c2) tx):=zH (by
   have h:=(HT2.out.keep (Rg.kb hb3 (Px _))).mono (T:=Rg (w.heap.size+2) w3.heap.size) (fun k q=>⟨q.1,PH q.2 hw3⟩);rw[hz3,←hW3];exact h.keep (Rg.ks (by omega) _ _))
  have HR3:Hid (GrS (Rg (w.heap.size+2) W3.heap.size) W3 (.slice a3 rws.length c3) rws):=zH (by
   have h:=ho3.grs.mono (T:=Rg (w.heap.size+2) w3.heap.size) (fun k ⟨q1,cur,e,fz,q2,_⟩=>⟨PY hsz2 q1,(Py.1 q2).1⟩);rw[hz3,←hW3];exact h.keep (Rg.ks (by omega) _ _))
  have HW3:=zH hW3;obtain⟨LT,hLl,hLv,hLr⟩:=HG.out;have kS3:=KS.out _ CA3.out.bel;have HC3:=zH (Ec LT _ W3 (hLv.keep kS3).1 (by omega));have HTI:Hid (∀w4 a4 c4,Below W3.heap.size W3 w4→ag 90 2 cz W3.heap.size w4 (.slice a4 trs.length c4) LT→TI S W3.heap.size (w4.setCell ⟨w.heap.size,7,none⟩ (.slice a4 trs.length c4)) (.slice a4 trs.length c4) trs 0):=zH (fun w4 a4 c4 hb4 ho4=>by
   have hsz:=CA3.out.sz;have h:TI S W3.heap.size w4 (.slice a4 trs.length c4) trs 0:=⟨fun b q=>PH (HS.out b q) CA3.out.bel.size,hb4.size,LT,ho4,hLl,fun i s r h=>by omega,fun i s r _ p q=>⟨(hLr i s r p q).1,((hLr i s r p q).2.keep kS3).keep (Kp.below hb4 (fun b q=>PH (HS.out b q) CA3.out.bel.size))⟩⟩;exact h.set (by omega) (fun q=>by have:=HS.out _ q;omega))
  have HLL:=zH hLl;have x7:=CA3.out.bx.cell 7;simp only[af,pv,PD,PE]at x7
  try simp only[pv]at HC3
  clear hca3 ho3 hb3 hz3 hw3 hsz2 HC2 CA2 HT2 x5 hW3 hLl hLv hLr kS3 HG HR;go_upto_region 3 with fail
  rw[HW3.out];clear HW3 y5 f5;go_wp2_with fail
  refine HC3.out.mono ?_;rintro e w4 ⟨u4,rfl,ho4,hb4⟩;obtain⟨a4,c4,rfl⟩:=(ag.sl dB ho4).len;rw[HLL.out]at ho4⊢;have hca4:=CA3.out.keep hb4;have y7:=hca4.bx.cell 7;have f7:w4.frozen? ⟨w.heap.size,7,none⟩=false:=hca4.bx.frozen (by simp[af]);simp only[af,pv,PD,PE]at y7;have HTI0:=zH (HTI.out w4 a4 c4 hb4 ho4);obtain⟨W4,hW4⟩:∃W,w4.setCell ⟨w.heap.size,7,none⟩ (.slice a4 trs.length c4)=W:=⟨_,rfl⟩;rw[hW4]at HTI0;have CA4:Hid (CA w W4 (⟨xk',xl',xn',(a2,tx.length,c2),(k1,ks.length,k3),(a3,rws.length,c3),xc,(a4,trs.length,c4),xb,xa⟩:NV)):=zH (by rw[←hW4];exact hca4.set 7 _ rfl);have hM:=CA3.out.sz;have HT4:Hid (FsS (Rg (w.heap.size+2) W3.heap.size) 2 aR W4 (.slice a2 tx.length c2) tx):=zH (by rw[←hW4];exact(HT3.out.keep (Rg.kb hb4 (Px _))).keep (Rg.ks (by omega) _ _));have HR4:Hid (GrS (Rg (w.heap.size+2) W3.heap.size) W4 (.slice a3 rws.length c3) rws):=zH (by rw[←hW4];exact(HR3.out.keep (Rg.kb hb4 (Px _))).keep (Rg.ks (by omega) _ _));have HW4:=zH hW4;have HMS:Hid (Pp S W3.heap.size):=zH (fun b q=>PH (HS.out b q) CA3.out.bel.size);obtain⟨M,hMM⟩:∃M,W3.heap.size=M:=⟨_,rfl⟩;rw[hMM]at HTI0 HT4 HR4 HMS hM;have HM:=zH hM;have z7:=CA4.out.bx.cell 7;simp only[af,pv,PD,PE]at z7;clear hca4 ho4 hb4 HC3 CA3 HT3 HR3 x7 hW4 hMM hM HTI HLL;go_upto_region 4 with fail
  rw[HW4.out];clear HW4 y7 f7;go_wp2_with fail
  go_loopw [3,4,25] (fun _ _ i wr=> ∃j:Nat,j≤trs.length∧i=.int .i64 (j:Int)∧Hid (CA w wr (⟨xk',xl',xn',(a2,tx.length,c2),(k1,ks.length,k3),(a3,rws.length,c3),xc,(a4,trs.length,c4),xb,xa⟩:NV))∧Hid (TI S M wr (.slice a4 trs.length c4) trs j)∧Hid (FsS (Rg (w.heap.size+2) M) 2 aR wr (.slice a2 tx.length c2) tx)∧Hid (GrS (Rg (w.heap.size+2) M) wr (.slice a3 rws.length c3) rws)) (fun _ _ i _=>trs.length-(intOf i).toNat)
  case atStart=>exact⟨0,by omega,rfl,CA4,HTI0,HT4,HR4⟩
  case round=>
   obtain⟨j,hj,rfl,HCA,HTI,HTX,HRW⟩:=hrel;clear CA4 HTI0 HT4 HR4 z7
   by_cases hlt:j<trs.length
   ·obtain⟨⟨rb,rl⟩,hr⟩:∃r,trs[j]? =some r:=⟨trs[j],Pz hlt⟩
    have hrl:=rT hr;unfold trl at hrl;simp only at hrl;obtain⟨g,⟨s1,s2,s3⟩,rfl,hg,hgl,d0,d1,f1,hs⟩:=HTI.out.at hr;simp only[pv]at d0 d1 f1 hs;obtain⟨V1,hV1⟩:∃W,W=wr.alloc (.cells #[.bool rb,.slice s1 s2 s3] 90):=⟨_,rfl⟩;have hbV:Below wr.heap.size wr V1:=by rw[hV1];exact ae _ _
    have kV:Blk V1 wr.heap.size 90 [.bool rb,.slice s1 s2 s3]:=by rw[hV1];exact PK wr _
    have hcaV:=HCA.out.keep hbV;have hsz:=HCA.out.sz;have hws:w.heap.size<wr.heap.size:=by omega
    have hSV:∀b,S b→b<V1.heap.size:=fun b q=>by have:=HMS.out b q;have:=HTI.out.sz;have:=hbV.size;omega
    have HCR:=zH (vM S rl (.slice s1 s2 s3) V1.drew ((hs.keep (Kp.below hbV (fun b q=>by have:=HMS.out b q;have:=HTI.out.sz;omega))).keep (fun _ _=>rfl)) (by omega) hSV);have z7:=hcaV.bx.cell 7;simp only[af,pv,PD,PE]at z7;have v1:=kV.cell 1;simp only[PD,PE]at v1;have x7:=HCA.out.bx.cell 7;simp only[af,pv,PD,PE]at x7;have hwl:w.heap.size<V1.heap.size:=hcaV.bx.lt;have hvl:wr.heap.size<V1.heap.size:=kV.lt;have HST:Hid (∀w6 a6 c6,eY V1.drew.heap.size w6 (.slice a6 rl.length c6) rl→Below V1.drew.heap.size V1.drew w6→w6.cell? ⟨g,j*2+1,none⟩=some (.slice s1 s2 s3)∧w6.frozen? ⟨g,j*2+1,none⟩=false∧CA w (w6.setCell ⟨g,j*2+1,none⟩ (.slice a6 rl.length c6)) (⟨xk',xl',xn',(a2,tx.length,c2),(k1,ks.length,k3),(a3,rws.length,c3),xc,(some ⟨g,0,none⟩,trs.length,c4),xb,xa⟩:NV)∧TI S M (w6.setCell ⟨g,j*2+1,none⟩ (.slice a6 rl.length c6)) (.slice (some ⟨g,0,none⟩) trs.length c4) trs (j+1)∧FsS (Rg (w.heap.size+2) M) 2 aR (w6.setCell ⟨g,j*2+1,none⟩ (.slice a6 rl.length c6)) (.slice a2 tx.length c2) tx∧GrS (Rg (w.heap.size+2) M) (w6.setCell ⟨g,j*2+1,none⟩ (.slice a6 rl.length c6)) (.slice a3 rws.length c3) rws):=zH (fun w6 a6 c6 hc6 hb6'=>by
     have hb6:Below V1.heap.size V1 w6:=(PG V1.heap.size V1).drew.trans hb6';have hbw:Below wr.heap.size wr w6:=hbV.trans (hb6.mono hbV.size);obtain⟨k1,k2⟩:=(HTI.out.keep hbV).step hb6 hr (s:=(a6,rl.length,c6)) (hc6.grs.mono (fun k ⟨q1,cur,e,fz,q2,_⟩=>⟨q1,(Py.1 q2).1⟩));have hE:Exc (· =g) wr (w6.setCell ⟨g,j*2+1,none⟩ (.slice a6 rl.length c6)):=(Exc.of (X:=(· =g)) hbV).trans k2 (fun _ _ q=>q);have hMs:=HTI.out.sz;have hM2:=HM.out;exact⟨aC hbw d1,(hbw.frozen (p:=⟨g,j*2+1,none⟩) hgl).trans f1,HCA.out.exc hE (by omega),k1,HTX.out.keep (Rg.ke hE hg hMs),HRW.out.keep (Rg.ke hE hg hMs)⟩)
    have hi0:(j:Int)<(trs.length:Int):=by omega
    have hi1:(0:Int)≤(j:Int):=by omega
    have HV1:=zH hV1;clear hr hrl hs hbV kV hcaV hsz hSV hV1 HCA HTI HTX HRW hg;go_upto_region 7 with fail
    rw[←HV1.out];clear HV1 d0 d1 f1 x7;refine wp_region_held_drew (S:=(fun W'=>W'.cell? ⟨w.heap.size,7,none⟩=some (.slice (some ⟨g,0,none⟩) trs.length c4)∧W'.cell? ⟨wr.heap.size,1,none⟩=some (.slice s1 s2 s3))) (by kernel_rfl) ?_ (fun hHeld=>?_)
    ·exact⟨z7,v1⟩
    refine zK (i:=0) (v:= .pointer (some ⟨w.heap.size,6,none⟩)) rfl ?_;simp only[zA,Act.put];refine zK (i:=1) (v:= .pointer (some ⟨w.heap.size,7,none⟩)) rfl ?_;simp only[zA,Act.put];refine zK (i:=2) (v:= .slice (some ⟨g,0,none⟩) trs.length c4) rfl ?_;simp only[zA,Act.put];refine zK (i:=3) (v:= .int .i64 (j:Int)) rfl ?_;simp only[zA,Act.put];refine zK (i:=4) (v:= .pointer (some ⟨wr.heap.size,1,none⟩)) rfl ?_;simp only[zA,Act.put];refine zK (i:=5) (v:= .slice s1 s2 s3) rfl ?_;simp only[zA,Act.put];have HSX:Hid (∀W,Below V1.heap.size V1 W→W.cell? ⟨w.heap.size,7,none⟩=some (.slice (some ⟨g,0,none⟩) trs.length c4)∧W.cell? ⟨wr.heap.size,1,none⟩=some (.slice s1 s2 s3)):=zH (fun W hb=>⟨aC hb z7,aC hb v1⟩);refine wpAnyH_ready (rs:=[6]) (by kernel_rfl) (by simp) ?_;refine AllReadyH.cons rfl (fun K hK=>?_) AllReadyH.nil
    try simp only[zG]
    go_simp;go_at_call 167
    refine HCR.out.mono ?_;rintro e w6 ⟨u6,rfl,ho6,hb6⟩;obtain⟨a6,c6,rfl⟩:=ho6.len;obtain⟨e1,g1,k1,k2,k3,k4⟩:=HST.out w6 a6 c6 ho6 hb6;have K1:=zH k1;have K2:=zH k2;have K3:=zH k3;have K4:=zH k4;have HB6:Hid (Below V1.heap.size V1 w6):=zH ((PG V1.heap.size V1).drew.trans hb6);clear k1 k2 k3 k4 ho6 hb6;go_wp2_with fail
    refine hK.out _ _ ?_ (fun hHeld=>?_)
    ·exact HSX.out _ HB6.out
    clear hK K
    try simp only[zA,Act.put]
    refine zK (i:=7) (v:= .pointer (some ⟨g,j*2,none⟩)) rfl ?_;simp only[zA,Act.put];refine zK (i:=8) (v:= .pointer (some ⟨g,j*2+1,none⟩)) rfl ?_;simp only[zA,Act.put];have HSX9:Hid ((w6.setCell ⟨g,j*2+1,none⟩ (.slice a6 rl.length c6)).cell? ⟨w.heap.size,7,none⟩=some (.slice (some ⟨g,0,none⟩) trs.length c4)∧(w6.setCell ⟨g,j*2+1,none⟩ (.slice a6 rl.length c6)).cell? ⟨wr.heap.size,1,none⟩=some (.slice s1 s2 s3)):=zH ⟨by have h:=K1.out.bx.cell 7;simpa[af,pv] using h,by rw[aM (PN w6 ⟨g,_,none⟩ _ wr.heap.size (fun e=>by have e2:wr.heap.size=g:=e;omega))];exact(HSX.out _ HB6.out).2⟩;refine wpAnyH_ready (rs:=[9]) (by kernel_rfl) (by simp) ?_;refine AllReadyH.cons rfl (fun K hK=>?_) AllReadyH.nil
    try simp only[zG]
    go_simp;refine hK.out _ _ ?_ (fun hHeld=>?_)
    ·exact HSX9.out
    clear hK K
    try simp only[zA,Act.put]
    refine Qd (by kernel_rfl) ?_ _;go_wp2_with fail
    go_roundw
    case rel=>exact⟨j+1,by omega,by go_num,K1,K2,K3,K4⟩
    case measure=>(simp[intOf];try omega)
   ·obtain rfl:j=trs.length:=by omega
    have hlt':¬(trs.length:Int)<(trs.length:Int):=by omega
    obtain⟨M2,hM2⟩:∃M2,wr.heap.size=M2:=⟨_,rfl⟩;have hMM:M≤M2:=by rw[←hM2];exact HTI.out.sz
    have hM0:=HM.out;have HHD:Hid (df (Rg (w.heap.size+2) M2) wr (⟨xk',xl',xn',(a2,tx.length,c2),(k1,ks.length,k3),(a3,rws.length,c3),xc,(a4,trs.length,c4),xb,xa⟩:NV) (⟨xk',xl',xn',tx,rws,⟨xc,trs,xb,xa⟩⟩:Hd)):=zH ⟨rfl,rfl,rfl,HTX.out.mono (fun k q=>⟨q.1,by have:=q.2;omega⟩),HRW.out.mono (fun k q=>⟨q.1,by have:=q.2;omega⟩),rfl,HTI.out.done.mono (fun k q=>⟨by have:=q.1;omega,by rw[←hM2];exact q.2⟩),rfl,rfl⟩;have kS5:Kp S w wr:=KS.out _ HCA.out.bel;have hK5:=HK.out.keep kS5;obtain⟨LK,hLl,hLv,hLr⟩:∃LK:List NV,LK.length=ks.length∧FsS S 10 af wr (.slice k1 ks.length k3) LK∧ ∀(i:Nat) x y,LK[i]? =some x→ks[i]? =some y→df S wr x y.hd∧NsS S wr (pv x.kids) y.kids:=by
     cases hK5 with
     | mk _ _ L h1 h2 h3 h4=>exact⟨L,h1,h2,fun i x y a b=>⟨h3 i x y a b,h4 i x y a b⟩⟩
    have HC5:=zH (vG LK _ wr hLv.1 (by omega));have HKI:Hid (∀w6 a5 c5,Below wr.heap.size wr w6→ag 58 10 af wr.heap.size w6 (.slice a5 ks.length c5) LK→KI S M2 (w6.setCell ⟨w.heap.size,4,none⟩ (.slice a5 ks.length c5)) (.slice a5 ks.length c5) ks 0):=zH (fun w6 a5 c5 hb6 ho6=>by
     have hsz:=HCA.out.sz;have hSl:∀b,S b→b<wr.heap.size:=fun b q=>PH (HS.out b q) HCA.out.bel.size
     rw[←hM2];have h:KI S wr.heap.size w6 (.slice a5 ks.length c5) ks 0:=⟨hSl,hb6.size,LK,ho6,hLl,fun i s r h=>by omega,fun i s r _ p q=>⟨(hLr i s r p q).1.keep (Kp.below hb6 hSl),(hLr i s r p q).2.keep (Kp.below hb6 hSl)⟩⟩;exact h.set (by omega) (fun q=>by have:=HS.out _ q;omega))
    have HLL:=zH hLl;have HM2:=zH hM2;have hsM:w.heap.size+2≤M2:=by omega
    have HSM:=zH hsM;have x4:=HCA.out.bx.cell 4;simp only[af,pv,PD,PE]at x4
    try simp only[pv]at HC5
    clear hMM hM0 kS5 hK5 hLl hLv hLr hM2 hsM HTI HTX HRW HMS HM HK;go_wp2_with fail
    refine HC5.out.mono ?_;rintro e w6 ⟨u6,rfl,ho6,hb6⟩;obtain⟨a5,c5,rfl⟩:=(ag.sl ay ho6).len;rw[HLL.out]at ho6⊢;have hca6:=HCA.out.keep hb6;have y4:=hca6.bx.cell 4;have f4:w6.frozen? ⟨w.heap.size,4,none⟩=false:=hca6.bx.frozen (by simp[af]);simp only[af,pv,PD,PE]at y4;have HKI0:=zH (HKI.out w6 a5 c5 hb6 ho6);obtain⟨W6,hW6⟩:∃W,w6.setCell ⟨w.heap.size,4,none⟩ (.slice a5 ks.length c5)=W:=⟨_,rfl⟩;rw[hW6]at HKI0;have CA6:Hid (CA w W6 (⟨xk',xl',xn',(a2,tx.length,c2),(a5,ks.length,c5),(a3,rws.length,c3),xc,(a4,trs.length,c4),xb,xa⟩:NV)):=zH (by rw[←hW6];exact hca6.set 4 _ rfl);have HH6:Hid (df (Rg (w.heap.size+2) M2) W6 (⟨xk',xl',xn',(a2,tx.length,c2),(a5,ks.length,c5),(a3,rws.length,c3),xc,(a4,trs.length,c4),xb,xa⟩:NV) (⟨xk',xl',xn',tx,rws,⟨xc,trs,xb,xa⟩⟩:Hd)):=zH (by
     rw[←hW6];exact((HHD.out.keep (Rg.kb hb6 (Rw HM2.out.symm))).keep (Rg.ks (by omega) _ _)).wkids (a5,ks.length,c5))
    have HW6:=zH hW6;have z4:=CA6.out.bx.cell 4;simp only[af,pv,PD,PE]at z4;clear hca6 ho6 hb6 HC5 HCA HHD x4 hW6 HKI HLL HM2;go_upto_region 10 with fail
    rw[HW6.out];clear HW6 y4 f4;go_wp2_with fail
    go_loopw [5,6,47] (fun _ _ i wr=> ∃j:Nat,j≤ks.length∧i=.int .i64 (j:Int)∧Hid (CA w wr (⟨xk',xl',xn',(a2,tx.length,c2),(a5,ks.length,c5),(a3,rws.length,c3),xc,(a4,trs.length,c4),xb,xa⟩:NV))∧Hid (KI S M2 wr (.slice a5 ks.length c5) ks j)∧Hid (df (Rg (w.heap.size+2) M2) wr (⟨xk',xl',xn',(a2,tx.length,c2),(a5,ks.length,c5),(a3,rws.length,c3),xc,(a4,trs.length,c4),xb,xa⟩:NV) (⟨xk',xl',xn',tx,rws,⟨xc,trs,xb,xa⟩⟩:Hd))) (fun _ _ i _=>ks.length-(intOf i).toNat)
    case atStart=>exact⟨0,by omega,rfl,CA6,HKI0,HH6⟩
    case round=>
     obtain⟨j,hj,rfl,HCA,HKI,HHD⟩:=hrel;clear CA6 HKI0 HH6 z4
     rename World=>wq
     by_cases hlt:j<ks.length
     ·obtain⟨y,hy⟩:∃y,ks[j]? =some y:=⟨ks[j],Pz hlt⟩
      have h1:=zo hy;have h2:=AO hy;have h3:=HN.out;have h4:=HB.out;obtain⟨g,x,rfl,hg,hgl,hcel,hx,hkx⟩:=HKI.out.at hy;obtain⟨V1,hV1⟩:∃W,W=wq.alloc (.cells (af x).toArray 58):=⟨_,rfl⟩;have hbV:Below wq.heap.size wq V1:=by rw[hV1];exact ae _ _
      have kV:Blk V1 wq.heap.size 58 (af x):=by rw[hV1];exact PK wq _
      have hcaV:=HCA.out.keep hbV;have hsz:=HCA.out.sz;have hSq:∀b,S b→b<wq.heap.size:=fun b q=>PH (HS.out b q) HCA.out.bel.size
      have kSV:Kp S wq V1.drew:=fun k q=>hbV.block k (hSq k q)
      have HCR:=zH (HIH.out y (by rw[nD];omega) (by rw[CZ];omega) S x V1.drew ⟨hx.keep kSV,hkx.keep kSV⟩ (fun b q=>PH (hSq b q) hbV.size));have z4:=hcaV.bx.cell 4;simp only[af,pv,PD,PE]at z4;have x4:=HCA.out.bx.cell 4;simp only[af,pv,PD,PE]at x4;have HST:Hid (∀w6 x6,lK V1.drew.heap.size w6 x6 y→Below V1.drew.heap.size V1.drew w6→(∀(i:Nat) u,(af x)[i]? =some u→w6.cell? ⟨g,j*10+i,none⟩=some u∧w6.frozen? ⟨g,j*10+i,none⟩=false)∧CA w (w6.setCells g (j*10) (af x6)) (⟨xk',xl',xn',(a2,tx.length,c2),(some ⟨g,0,none⟩,ks.length,c5),(a3,rws.length,c3),xc,(a4,trs.length,c4),xb,xa⟩:NV)∧KI S M2 (w6.setCells g (j*10) (af x6)) (.slice (some ⟨g,0,none⟩) ks.length c5) ks (j+1)∧df (Rg (w.heap.size+2) M2) (w6.setCells g (j*10) (af x6)) (⟨xk',xl',xn',(a2,tx.length,c2),(some ⟨g,0,none⟩,ks.length,c5),(a3,rws.length,c3),xc,(a4,trs.length,c4),xb,xa⟩:NV) (⟨xk',xl',xn',tx,rws,⟨xc,trs,xb,xa⟩⟩:Hd)∧(w6.setCells g (j*10) (af x6)).heap[wq.heap.size]? =V1.heap[wq.heap.size]?):=zH (fun w6 x6 hc6 hb6'=>by
       have hb6:Below V1.heap.size V1 w6:=(PG V1.heap.size V1).drew.trans hb6';have hbw:Below wq.heap.size wq w6:=hbV.trans (hb6.mono hbV.size);obtain⟨q1,q2⟩:=hc6.all;obtain⟨k1,k2⟩:=(HKI.out.keep hbV).step hb6 hy q1 q2;have hE:Exc (· =g) wq (w6.setCells g (j*10) (af x6)):=(Exc.of (X:=(· =g)) hbV).trans k2 (fun _ _ q=>q);have hMs:=HKI.out.sz;have hM2:=HSM.out;exact⟨fun i u hu=>⟨aC hbw (hcel i u hu).1,(hbw.frozen (p:=⟨g,j*10+i,none⟩) hgl).trans (hcel i u hu).2⟩,HCA.out.exc hE (by omega),k1,HHD.out.keep (Rg.ke hE hg hMs),k2.block _ kV.lt (fun e=>by omega)⟩)
      have hi0:(j:Int)<(ks.length:Int):=by omega
      have hi1:(0:Int)≤(j:Int):=by omega
      obtain⟨yk,yl,yn,⟨u1,u2,u3⟩,⟨v1,v2,v3⟩,⟨w1,w2,w3⟩,yc,⟨z1,z2,z3⟩,yb,ya⟩:=x;simp only[af,pv]at hcel HCR kV hV1;have c0:=(hcel 0 _ rfl).1;have c1:=(hcel 1 _ rfl).1;have c2:=(hcel 2 _ rfl).1;have c3:=(hcel 3 _ rfl).1;have c4:=(hcel 4 _ rfl).1;have c5:=(hcel 5 _ rfl).1;have c6:=(hcel 6 _ rfl).1;have c7:=(hcel 7 _ rfl).1;have c8:=(hcel 8 _ rfl).1;have c9:=(hcel 9 _ rfl).1
      try simp only[Qr]at c0
      have s0:=kV.cell 0;have s1:=kV.cell 1;have s2:=kV.cell 2;have s3:=kV.cell 3;have s4:=kV.cell 4;have s5:=kV.cell 5;have s6:=kV.cell 6;have s7:=kV.cell 7;have s8:=kV.cell 8;have s9:=kV.cell 9;simp only[PD,PE]at s0 s1 s2 s3 s4 s5 s6 s7 s8 s9;have HV1:=zH hV1;have HWQ:Hid (wq.heap.size<V1.heap.size∧g≠wq.heap.size):=zH ⟨kV.lt,by omega⟩;clear hy h1 h2 h3 h4 hx hkx hcel hbV kV hcaV hsz hSq kSV hV1 HCA HKI HHD hg hgl;go_upto_region 13 with fail
      rw[←HV1.out];clear HV1 x4 c0 c1 c2 c3 c4 c5 c6 c7 c8 c9;refine wp_region_held_drew (S:=(fun W'=>W'.cell? ⟨w.heap.size,4,none⟩=some (.slice (some ⟨g,0,none⟩) ks.length c5)∧W'.cell? ⟨wq.heap.size,0,none⟩=some (.int .i64 yk)∧W'.cell? ⟨wq.heap.size,1,none⟩=some (.int .i64 yl)∧W'.cell? ⟨wq.heap.size,2,none⟩=some (.int .i64 yn)∧W'.cell? ⟨wq.heap.size,3,none⟩=some (.slice u1 u2 u3)∧W'.cell? ⟨wq.heap.size,4,none⟩=some (.slice v1 v2 v3)∧W'.cell? ⟨wq.heap.size,5,none⟩=some (.slice w1 w2 w3)∧W'.cell? ⟨wq.heap.size,6,none⟩=some (.string ⟨yc.toArray⟩)∧W'.cell? ⟨wq.heap.size,7,none⟩=some (.slice z1 z2 z3)∧W'.cell? ⟨wq.heap.size,8,none⟩=some (.bool yb)∧W'.cell? ⟨wq.heap.size,9,none⟩=some (.bool ya))) (by kernel_rfl) ?_ (fun hHeld=>?_)
      ·exact⟨z4,s0,s1,s2,s3,s4,s5,s6,s7,s8,s9⟩
      refine zK (i:=0) (v:= .pointer (some ⟨w.heap.size,4,none⟩)) rfl ?_;simp only[zA,Act.put];refine zK (i:=1) (v:= .slice (some ⟨g,0,none⟩) ks.length c5) rfl ?_;simp only[zA,Act.put];refine zK (i:=2) (v:= .int .i64 (j:Int)) rfl ?_;simp only[zA,Act.put];refine zK (i:=3) (v:= .agg #[.int .i64 yk,.int .i64 yl,.int .i64 yn,.slice u1 u2 u3,.slice v1 v2 v3,.slice w1 w2 w3,.string ⟨yc.toArray⟩,.slice z1 z2 z3,.bool yb,.bool ya]) rfl ?_;simp only[zA,Act.put];have HSX:Hid (∀W,Below V1.heap.size V1 W→W.cell? ⟨w.heap.size,4,none⟩=some (.slice (some ⟨g,0,none⟩) ks.length c5)∧W.cell? ⟨wq.heap.size,0,none⟩=some (.int .i64 yk)∧W.cell? ⟨wq.heap.size,1,none⟩=some (.int .i64 yl)∧W.cell? ⟨wq.heap.size,2,none⟩=some (.int .i64 yn)∧W.cell? ⟨wq.heap.size,3,none⟩=some (.slice u1 u2 u3)∧W.cell? ⟨wq.heap.size,4,none⟩=some (.slice v1 v2 v3)∧W.cell? ⟨wq.heap.size,5,none⟩=some (.slice w1 w2 w3)∧W.cell? ⟨wq.heap.size,6,none⟩=some (.string ⟨yc.toArray⟩)∧W.cell? ⟨wq.heap.size,7,none⟩=some (.slice z1 z2 z3)∧W.cell? ⟨wq.heap.size,8,none⟩=some (.bool yb)∧W.cell? ⟨wq.heap.size,9,none⟩=some (.bool ya)):=zH (fun W hb=>⟨aC hb z4,aC hb s0,aC hb s1,aC hb s2,aC hb s3,aC hb s4,aC hb s5,aC hb s6,aC hb s7,aC hb s8,aC hb s9⟩);clear s0 s1 s2 s3 s4 s5 s6 s7 s8 s9 z4;refine wpAnyH_ready (rs:=[4]) (by kernel_rfl) (by simp) ?_;refine AllReadyH.cons rfl (fun K hK=>?_) AllReadyH.nil
      try simp only[zG]
      go_simp;go_at_call 133
      refine HCR.out.mono ?_;rintro e w6 ⟨x6,rfl,hc6,hb6⟩;obtain⟨hcl,k1,k2,k3,hk6⟩:=HST.out w6 x6 hc6 hb6;have HB6:Hid (Below V1.heap.size V1 w6):=zH ((PG V1.heap.size V1).drew.trans hb6);obtain⟨mk,ml,mn,⟨m1,m2,m3⟩,⟨n1,n2,n3⟩,⟨o1,o2,o3⟩,mc,⟨l1,l2,l3⟩,mb,ma⟩:=x6;simp only[af,pv]at hcl k1 k2 k3 hk6⊢;have d0:=(hcl 0 _ rfl).1;have d1:=(hcl 1 _ rfl).1;have d2:=(hcl 2 _ rfl).1;have d3:=(hcl 3 _ rfl).1;have d4:=(hcl 4 _ rfl).1;have d5:=(hcl 5 _ rfl).1;have d6:=(hcl 6 _ rfl).1;have d7:=(hcl 7 _ rfl).1;have d8:=(hcl 8 _ rfl).1;have d9:=(hcl 9 _ rfl).1;have f0:=(hcl 0 _ rfl).2;have f1:=(hcl 1 _ rfl).2;have f2:=(hcl 2 _ rfl).2;have f3:=(hcl 3 _ rfl).2;have f4:=(hcl 4 _ rfl).2;have f5:=(hcl 5 _ rfl).2;have f6:=(hcl 6 _ rfl).2;have f7:=(hcl 7 _ rfl).2;have f8:=(hcl 8 _ rfl).2;have f9:=(hcl 9 _ rfl).2
      try simp only[Qr]at d0 f0
      have K1:Hid (CA w (w6.setCells g (j*10) [.int .i64 mk,.int .i64 ml,.int .i64 mn,.slice m1 m2 m3,.slice n1 n2 n3,.slice o1 o2 o3,.string ⟨mc.toArray⟩,.slice l1 l2 l3,.bool mb,.bool ma]) (⟨xk',xl',xn',(a2,tx.length,c2),(some ⟨g,0,none⟩,ks.length,c5),(a3,rws.length,c3),xc,(a4,trs.length,c4),xb,xa⟩:NV)):=zH k1;have K2:=zH k2;have K3:=zH k3;have K6:=zH hk6;clear hcl k1 k2 k3 hk6 hc6 hb6;go_wp2_with fail
      refine hK.out _ _ ?_ (fun hHeld=>?_)
      ·exact HSX.out _ HB6.out
      clear hK K
      try simp only[zA,Act.put]
      refine zK (i:=5) (v:= .pointer (some ⟨g,j*10,none⟩)) rfl ?_;simp only[zA,Act.put];have HSX9:Hid ((fun W=>W.cell? ⟨w.heap.size,4,none⟩=some (.slice (some ⟨g,0,none⟩) ks.length c5)∧W.cell? ⟨wq.heap.size,0,none⟩=some (.int .i64 yk)∧W.cell? ⟨wq.heap.size,1,none⟩=some (.int .i64 yl)∧W.cell? ⟨wq.heap.size,2,none⟩=some (.int .i64 yn)∧W.cell? ⟨wq.heap.size,3,none⟩=some (.slice u1 u2 u3)∧W.cell? ⟨wq.heap.size,4,none⟩=some (.slice v1 v2 v3)∧W.cell? ⟨wq.heap.size,5,none⟩=some (.slice w1 w2 w3)∧W.cell? ⟨wq.heap.size,6,none⟩=some (.string ⟨yc.toArray⟩)∧W.cell? ⟨wq.heap.size,7,none⟩=some (.slice z1 z2 z3)∧W.cell? ⟨wq.heap.size,8,none⟩=some (.bool yb)∧W.cell? ⟨wq.heap.size,9,none⟩=some (.bool ya)) (w6.setCells g (j*10) [.int .i64 mk,.int .i64 ml,.int .i64 mn,.slice m1 m2 m3,.slice n1 n2 n3,.slice o1 o2 o3,.string ⟨mc.toArray⟩,.slice l1 l2 l3,.bool mb,.bool ma])):=zH (by
       have h:=HSX.out _ HB6.out;have hq:∀i:Nat,(w6.setCells g (j*10) [.int .i64 mk,.int .i64 ml,.int .i64 mn,.slice m1 m2 m3,.slice n1 n2 n3,.slice o1 o2 o3,.string ⟨mc.toArray⟩,.slice l1 l2 l3,.bool mb,.bool ma]).cell? ⟨wq.heap.size,i,none⟩=w6.cell? ⟨wq.heap.size,i,none⟩:=fun i=>aM (aB (fun e=>HWQ.out.2 e.symm) _ _ _)
       refine⟨by have h:=K1.out.bx.cell 4;simpa[af,pv] using h,?_⟩;simp only[hq];exact h.2)
      refine wpAnyH_ready (rs:=[6]) (by kernel_rfl) (by simp) ?_;refine AllReadyH.cons rfl (fun K hK=>?_) AllReadyH.nil
      try simp only[zG]
      go_simp;refine hK.out _ _ ?_ (fun hHeld=>?_)
      ·exact HSX9.out
      clear hK K
      try simp only[zA,Act.put]
      refine Qd (by kernel_rfl) ?_ _;go_wp2_with fail
      go_roundw
      case rel=>exact⟨j+1,by omega,by go_num,K1,K2,K3⟩
      case measure=>(simp[intOf];try omega)
     ·obtain rfl:j=ks.length:=by omega
      have hlt':¬(ks.length:Int)<(ks.length:Int):=by omega
      have HFIN:Hid (FE (Nd.mk (⟨xk',xl',xn',tx,rws,⟨xc,trs,xb,xa⟩⟩:Hd) ks) w (.returned (.agg (af (⟨xk',xl',xn',(a2,tx.length,c2),(a5,ks.length,c5),(a3,rws.length,c3),xc,(a4,trs.length,c4),xb,xa⟩:NV)).toArray)) (wq.setCells (w.heap.size+1) 0 (af (⟨xk',xl',xn',(a2,tx.length,c2),(a5,ks.length,c5),(a3,rws.length,c3),xc,(a4,trs.length,c4),xb,xa⟩:NV)))):=zH (by
       have hM2:=HSM.out;have hk:=(HKI.out.setC (g:=w.heap.size+1) (by omega) (fun q=>by have:=HS.out _ q;omega) (af (⟨xk',xl',xn',(a2,tx.length,c2),(a5,ks.length,c5),(a3,rws.length,c3),xc,(a4,trs.length,c4),xb,xa⟩:NV)) 0 wq).done;refine⟨_,rfl,⟨?_,hk.lessF (by omega)⟩,vL (by omega) _ _ _ HCA.out.bel⟩;refine(HHD.out.keep (fun k q=>aB (fun e=>by have:=q.1;omega) _ _ _)).mono (fun k q=>⟨by have:=q.1;omega,?_,fun e=>?_⟩)
       ·rw[mU]
        have:=HKI.out.sz;have:=q.2;omega
       ·have:=hk.own_ge' e
        have:=q.2;omega)
      simp only[af,pv]at HFIN;have b0:=HCA.out.bx.cell 0;have b1:=HCA.out.bx.cell 1;have b2:=HCA.out.bx.cell 2;have b3:=HCA.out.bx.cell 3;have b4:=HCA.out.bx.cell 4;have b5:=HCA.out.bx.cell 5;have b6:=HCA.out.bx.cell 6;have b7:=HCA.out.bx.cell 7;have b8:=HCA.out.bx.cell 8;have b9:=HCA.out.bx.cell 9;have d0:=HCA.out.br.cell 0;have d1:=HCA.out.br.cell 1;have d2:=HCA.out.br.cell 2;have d3:=HCA.out.br.cell 3;have d4:=HCA.out.br.cell 4;have d5:=HCA.out.br.cell 5;have d6:=HCA.out.br.cell 6;have d7:=HCA.out.br.cell 7;have d8:=HCA.out.br.cell 8;have d9:=HCA.out.br.cell 9;simp only[af,pv,zNd,PD,PE]at b0 d0 b1 d1 b2 d2 b3 d3 b4 d4 b5 d5 b6 d6 b7 d7 b8 d8 b9 d9;have f0:wq.frozen? ⟨w.heap.size+1,0,none⟩=false:=HCA.out.br.frozen (by simp[zNd]);have f1:wq.frozen? ⟨w.heap.size+1,1,none⟩=false:=HCA.out.br.frozen (by simp[zNd]);have f2:wq.frozen? ⟨w.heap.size+1,2,none⟩=false:=HCA.out.br.frozen (by simp[zNd]);have f3:wq.frozen? ⟨w.heap.size+1,3,none⟩=false:=HCA.out.br.frozen (by simp[zNd]);have f4:wq.frozen? ⟨w.heap.size+1,4,none⟩=false:=HCA.out.br.frozen (by simp[zNd]);have f5:wq.frozen? ⟨w.heap.size+1,5,none⟩=false:=HCA.out.br.frozen (by simp[zNd]);have f6:wq.frozen? ⟨w.heap.size+1,6,none⟩=false:=HCA.out.br.frozen (by simp[zNd]);have f7:wq.frozen? ⟨w.heap.size+1,7,none⟩=false:=HCA.out.br.frozen (by simp[zNd]);have f8:wq.frozen? ⟨w.heap.size+1,8,none⟩=false:=HCA.out.br.frozen (by simp[zNd]);have f9:wq.frozen? ⟨w.heap.size+1,9,none⟩=false:=HCA.out.br.frozen (by simp[zNd]);obtain⟨F,hF⟩:∃F,((((((((((wq.setCell ⟨w.heap.size+1,0,none⟩ (.int .i64 xk')).setCell ⟨w.heap.size+1,1,none⟩ (.int .i64 xl')).setCell ⟨w.heap.size+1,2,none⟩ (.int .i64 xn')).setCell ⟨w.heap.size+1,3,none⟩ (.slice a2 tx.length c2)).setCell ⟨w.heap.size+1,4,none⟩ (.slice a5 ks.length c5)).setCell ⟨w.heap.size+1,5,none⟩ (.slice a3 rws.length c3)).setCell ⟨w.heap.size+1,6,none⟩ (.string ⟨xc.toArray⟩)).setCell ⟨w.heap.size+1,7,none⟩ (.slice a4 trs.length c4)).setCell ⟨w.heap.size+1,8,none⟩ (.bool xb)).setCell ⟨w.heap.size+1,9,none⟩ (.bool xa))=F:=⟨_,rfl⟩;have HF2:Hid (FE (Nd.mk (⟨xk',xl',xn',tx,rws,⟨xc,trs,xb,xa⟩⟩:Hd) ks) w (.returned (.agg #[.int .i64 xk',.int .i64 xl',.int .i64 xn',.slice a2 tx.length c2,.slice a5 ks.length c5,.slice a3 rws.length c3,.string ⟨xc.toArray⟩,.slice a4 trs.length c4,.bool xb,.bool xa])) F):=zH (by rw[←hF];exact HFIN.out);have kF:Blk F (w.heap.size+1) 58 [.int .i64 xk',.int .i64 xl',.int .i64 xn',.slice a2 tx.length c2,.slice a5 ks.length c5,.slice a3 rws.length c3,.string ⟨xc.toArray⟩,.slice a4 trs.length c4,.bool xb,.bool xa]:=by
       rw[←hF];exact((((((((((HCA.out.br.set 0 (.int .i64 xk')).set 1 (.int .i64 xl')).set 2 (.int .i64 xn')).set 3 (.slice a2 tx.length c2)).set 4 (.slice a5 ks.length c5)).set 5 (.slice a3 rws.length c3)).set 6 (.string ⟨xc.toArray⟩)).set 7 (.slice a4 trs.length c4)).set 8 (.bool xb)).set 9 (.bool xa))
      have HKF:=zH kF;have HFF:=zH hF;have hne:w.heap.size≠w.heap.size+1:=by omega
      clear HCA HKI HHD HFIN kF hF;go_wp2_with fail
      rw[HFF.out];have e0:=HKF.out.cell 0;have e1:=HKF.out.cell 1;have e2:=HKF.out.cell 2;have e3:=HKF.out.cell 3;have e4:=HKF.out.cell 4;have e5:=HKF.out.cell 5;have e6:=HKF.out.cell 6;have e7:=HKF.out.cell 7;have e8:=HKF.out.cell 8;have e9:=HKF.out.cell 9;simp only[PD,PE]at e0 e1 e2 e3 e4 e5 e6 e7 e8 e9;refine Qi (v:= .agg #[.int .i64 xk',.int .i64 xl',.int .i64 xn',.slice a2 tx.length c2,.slice a5 ks.length c5,.slice a3 rws.length c3,.string ⟨xc.toArray⟩,.slice a4 trs.length c4,.bool xb,.bool xa]) (by simp[results,Tryz.results133,go_sem,e0,e1,e2,e3,e4,e5,e6,e7,e8,e9]) rfl ?_;exact HF2.out
end Go.Proofs.YtebabjnngdjceaaGreatDoor

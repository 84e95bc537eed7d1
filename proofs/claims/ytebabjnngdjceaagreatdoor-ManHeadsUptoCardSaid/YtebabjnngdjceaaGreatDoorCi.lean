/- The program's builder: Doc. The program's builder does all that the laws of layer 8 ask of one. -/
import Derived.Test.YtebabjnngdjceaaGreatDoorCg
import Derived.Test.YtebabjnngdjceaaGreatDoorQj
import Derived.Deep.RegionHeld3
import Derived.Test.YtebabjnngdjceaaGreatDoorZ0
import Derived.Test.YtebabjnngdjceaaGreatDoorC5
set_option linter.unusedVariables false
set_option linter.unusedSimpArgs false
set_option maxRecDepth 100000
set_option maxHeartbeats 16000000
namespace Go.Proofs.YtebabjnngdjceaaGreatDoor
open Go.RowKit
section
noncomputable def GN (x hi mx:Value):Sem Value:=Instr.slice 36 x none (some hi) (some mx)
theorem xe (x hi mx:Value):Instr.slice 36 x none (some hi) (some mx)=GN x hi mx:=rfl
theorem Ep (a:Option Addr) (n c:Nat) (h:n≤c) (W:World):(GN (.slice a n c) (.int .i64 (n:Int)) (.int .i64 (n:Int))).run Tryz.prog W= .ok (.slice a n n) W:=by
 obtain⟨i0,hi,hz0,hz1,hz2⟩:=Ng jC;unfold GN;simp[Instr.slice,Instr.sliceBounds,Instr.sliceBound,asIntOf,Nt Tryz.underlying36,h,sizeOf,typeInfo,hi];intro _
 cases a<;>rfl
attribute [local go_sem ↓ high] xe
theorem uL (a:Option Addr) (n c:Nat) (h:n≤c) (w:World):Calls Tryz.prog 62 #[.slice a n c] w fun e w'=>e= .returned (.slice a n n)∧w=w':=by
 have f1:=fun W=>Ep a n c h W
 go_enter Tryz.func62,Tryz.ntmps62
 go_wp2_with fail
 go_ret;exact⟨rfl,rfl⟩
def nM (x:NV):NV:=x.wkids (x.kids.1,x.kids.2.1,x.kids.2.1)
def fH (j:Nat) (L:List NV):List NV:=(L.take j).map nM++L.drop j
theorem AZ (j:Nat) (L:List NV):(fH j L).length=L.length:=by unfold fH;simp;omega
theorem yR (L:List NV):fH 0 L=L:=by simp[fH]
theorem Eo {j:Nat} {L:List NV} {x:NV} (h:L[j]? =some x):(fH j L)[j]? =some x:=by
 have hj:=(Mm.1 h).1;unfold fH;rw[MR (by simp;omega)];simp only[ND,ML,OA (Nat.le_of_lt hj),Ol,NI,Nq];exact h
theorem AY {j:Nat} {L:List NV} {x:NV} (h:L[j]? =some x):(fH j L).set j (nM x)=fH (j+1) L:=by
 have hj:=(Mm.1 h).1;have e:L.drop j=x::L.drop (j+1):=by
  rw[NF hj]
  congr 1
  rw[Mq hj]at h;exact MH h
 have hl:((L.take j).map nM).length=j:=by simp;omega
 unfold fH;rw[Ou _ _ (by omega),hl,Ol,e,Nl,h];simp
theorem A7 (L:List NV):fH L.length L=L.map nM:=by simp[fH]
theorem BM.copy {X R:Nat→Prop} {w:World} {b:Nat} {t:Bt} (h:BM true X R w b t):
  ∃ka kc oa oc pa,∃LO:List NV,w.cell? ⟨b,0,none⟩=some (.string ⟨t.nm.a.toArray⟩)∧w.cell? ⟨b,1,none⟩=some (.string ⟨t.nm.b.toArray⟩)∧w.cell? ⟨b,2,none⟩=some (.string ⟨t.nm.c.toArray⟩)∧w.cell? ⟨b,3,none⟩=some (.string ⟨t.nm.d.toArray⟩)∧
   w.cell? ⟨b,4,none⟩=some (.slice ka t.kids.length kc)∧w.cell? ⟨b,5,none⟩=some (.slice oa t.opn.length oc)∧w.cell? ⟨b,6,none⟩=some (.pointer pa)∧t.kids.length≤kc∧LO.length=t.opn.length∧Fs 10 ae w (.slice oa t.opn.length oc) LO∧
   (∀(i:Nat) x,LO[i]? =some x→x.kids.2.1≤x.kids.2.2)∧
   ∀W o ob oc',Below w.heap.size w W→w.heap.size≤o→Blk W o 116 (bK t.nm (ka,t.kids.length,t.kids.length) (ob,t.opn.length,oc') (.pointer pa))→ag 58 10 ae w.heap.size W (.slice ob t.opn.length oc') (LO.map nM)→(Value.slice ob t.opn.length oc').ownBlock≠some o→
    ∃X',BM false X' (fun k=>R k∨X k) W o t∧ ∀k,X' k→w.heap.size≤k:=by
 have hlt:=h.lt;obtain⟨kv,ov,pa,LO,lab,h1,h2⟩:=h;obtain⟨ka,kc,ek,hkc⟩:=h1.kids.len;obtain⟨oa,oc,eo,hoc⟩:=h1.olen;obtain⟨pa',hpa⟩: ∃q,pa= .pointer q:=by
  rcases h1.para with⟨-,q,-⟩| ⟨-,g,tv,q,-⟩
  ·exact⟨_,q⟩
  ·exact⟨_,q⟩
 have hRX: ∀k,R k→R k∨X k:=fun k q=> .inl q
 have hLX: ∀z,z≠0→ ∀k,(R k∨lab k=z)→R k∨X k:=fun z hz k q=>q.imp id (fun q=>(h2 k).2 (by omega))
 refine⟨ka,kc,oa,oc,pa',LO,h1.box.cell 0,h1.box.cell 1,h1.box.cell 2,h1.box.cell 3,by rw[h1.box.cell 4,←ek];rfl,by rw[h1.box.cell 5,←eo];rfl,by rw[h1.box.cell 6,←hpa];rfl,hkc,h1.ol,by rw[←eo];exact ag.sl ay h1.opn,fun i x hx=>?_,fun W o ob oc' hb ho hbox hown hne=>?_⟩
 ·have hi:i<t.opn.length:=by rw[←h1.ol];exact(Mm.1 hx).1
  obtain⟨a,c,e,hc⟩:=(h1.on i x _ hx (Mq hi)).2.len;rw[mQ e];exact hc
 have kW:Kp (fun k=>R k∨X k) w W:=Kp.below hb (fun k q=>hlt k q.symm);have hoblt: ∀k,(Value.slice ob t.opn.length oc').ownBlock=some k→w.heap.size≤k∧k<W.heap.size:=fun k e=>⟨(hown.ty e).1,hown.ltb e⟩
 have hk:RwN (fun k=>R k∨X k) (fun k=>(if k=o then 1 else if(Value.slice ob t.opn.length oc').ownBlock=some k then 3 else 0)=2) W (.slice ka t.kids.length t.kids.length) t.kids:=by
  obtain⟨a,c,e,q⟩:=h1.kids.clip (O':=fun _=>False);rw[ek]at e;injection e with e1
  subst e1;exact((q.mono (hLX 2 (by decide)) (fun _ z=>z)).keep kW (fun _ z=>z.elim)).mono (fun _ z=>z) (fun _ z=>z.elim)
 refine⟨fun k=>(if k=o then 1 else if(Value.slice ob t.opn.length oc').ownBlock=some k then 3 else 0)≠0,⟨(ka,t.kids.length,t.kids.length),(ob,t.opn.length,oc'),.pointer pa',LO.map nM,fun k=>if k=o then 1 else if(Value.slice ob t.opn.length oc').ownBlock=some k then 3 else 0,⟨fun k q=>?_,fun k q=>Ms (hlt k q.symm) hb.size,fun k q=>?_,by simp,hbox,hk,hown.z,fun k e=>?_,by rw[ND];exact h1.ol,fun i x y p q=>?_,?_⟩,fun k=>OC⟩,fun k q=>?_⟩
 ·by_cases e:k=o
  ·rw[e];exact hbox.lt
  ·by_cases e2:(Value.slice ob t.opn.length oc').ownBlock=some k
   ·exact(hoblt k e2).2
   ·simp[e,e2]at q
 ·have hkl:=hlt k q.symm
  have e1:k≠o:=by omega
  have e2:(Value.slice ob t.opn.length oc').ownBlock≠some k:=fun e=>by have:=(hoblt k e).1;omega
  simp only[ME e1,ME e2]
 ·have e':(Value.slice ob t.opn.length oc').ownBlock=some k:=e
  have e1:k≠o:=fun e1=>hne (by rw[←e1];exact e')
  simp only[ME e1,MO e']
 ·rw[NA]at p
  cases hx:LO[i]? with
  | none=>rw[hx]at p;cases p
  | some x0=>
   rw[hx]at p;obtain rfl:=MH p;obtain⟨q1,q2⟩:=h1.on i x0 y hx q;refine⟨((q1.mono hRX).keep kW).wkids _,?_⟩;obtain⟨a,c,e,q3⟩:=q2.clip (O':=fun _=>False);have e2:pv (nM x0).kids= .slice a y.kids.length y.kids.length:=by
    have:=mQ e;unfold nM NV.wkids;simp only[this];rfl
   rw[e2];exact((q3.mono (hLX _ (by omega)) (fun _ z=>z)).keep kW (fun _ z=>z.elim)).mono (fun _ z=>z) (fun _ z=>z.elim)
 ·rcases h1.para with⟨z1,z2,z3⟩| ⟨z1,g,tv,z2,z3,z4⟩
  ·exact .inl ⟨z1,by rw[←hpa];exact z2,z3⟩
  ·obtain⟨hg4,hto,htb⟩:lab g=4∧ag 35 2 aR 0 w (pv tv) t.text∧ ∀k,(pv tv).ownBlock=some k→lab k=5:=by
    rcases z4 with⟨-,q⟩| ⟨q,-⟩
    ·exact q
    ·cases q
   refine .inr ⟨z1,g,tv,by rw[←hpa];exact z2,(hb.block g z3.lt).trans z3,.inr ⟨rfl,.inr ((h2 g).2 (by omega)),?_⟩⟩;exact((mZ ai hto).mono (fun k e=> .inr ((h2 k).2 (by rw[htb k e];decide)))).keep kW
 ·by_cases e:k=o
  ·omega
  ·by_cases e2:(Value.slice ob t.opn.length oc').ownBlock=some k
   ·exact(hoblt k e2).1
   ·simp[e,e2]at q
theorem BM.fin {m:Bool} {X R:Nat→Prop} {w:World} {b:Nat} {t:Bt} (h:BM m X R w b t) (ho:t.opn=[]): ∃a c,(∀(i:Nat) u,(pF t.nm (.slice a t.kids.length c))[i]? =some u→w.cell? ⟨b,i,none⟩=some u)∧NsS (fun k=>R k∨X k) w (.slice a t.kids.length c) (dO t):=by
 obtain⟨kv,ov,pa,LO,lab,h1,h2⟩:=h;obtain⟨a,c,e,hc⟩:=h1.kids.len;refine⟨a,c,fun i u hu=>?_,?_⟩
 ·rw[←e]at hu
  match i,hu with
  | 0,hu=>rw[h1.box.cell 0];exact hu
  | 1,hu=>rw[h1.box.cell 1];exact hu
  | 2,hu=>rw[h1.box.cell 2];exact hu
  | 3,hu=>rw[h1.box.cell 3];exact hu
  | 4,hu=>rw[h1.box.cell 4];exact hu
  | n+5,hu=>simp[pF]at hu
 ·have q:=h1.kids.nss
  rw[e]at q;have eb:dO t=t.kids:=by unfold dO;rw[ho];simp[ik]
  rw[eb];exact q.mono (fun k z=>z.imp id (fun z=>(h2 k).2 (by omega)))
def Mi (w1:World) (nm:Nm) (LO:List NV) (ka:Option Addr) (kn kc on:Nat) (pa:Option Addr) (wx:World) (s:Value):Prop:=
 ∃o oa oc,s= .pointer (some ⟨o,0,none⟩)∧Below w1.heap.size w1 wx∧w1.heap.size≤o∧Blk wx o 116 (bK nm (ka,kn,kc) (oa,on,oc) (.pointer pa))∧ag 58 10 ae w1.heap.size wx (.slice oa on oc) LO∧(Value.slice oa on oc).ownBlock≠some o
theorem G6 {X R:Nat→Prop} {w:World} {b:Nat} {t:Bt} (h:BM true X R w b t) (hU:U8 w) (hb:btl t≤50000):
  Calls Tryz.prog 31 #[dN b] w (H8 t.nm (mD t) w):=by
 obtain⟨W1,hW1⟩: ∃W,W=w.alloc (.cells ([.string ⟨#[]⟩,.string ⟨#[]⟩,.string ⟨#[]⟩,.string ⟨#[]⟩,.slice none 0 0]:List Value).toArray 38):=⟨_,rfl⟩;have b1:Below w.heap.size w W1:=by rw[hW1];exact af _ _
 have kr:Blk W1 w.heap.size 38 [.string ⟨#[]⟩,.string ⟨#[]⟩,.string ⟨#[]⟩,.string ⟨#[]⟩,.slice none 0 0]:=by rw[hW1];exact Mw w _
 have hlt:=h.lt;have hB1:=h.keep (Kp.below b1 (fun k q=>hlt k (.inl q))) (Kp.below b1 (fun k q=>hlt k (.inr q))) b1.size;have hlt1:=hB1.lt;have hsm:=eB hb;obtain⟨ka,kc,oa,oc,pa,LO,c0,c1,c2,c3,c4,c5,c6,hkc,hLl,hLv,hLk,hCP⟩:=hB1.copy;have HCL:=zH (fun W (hW:Below W1.heap.size W1 W)=>rZ LO _ W (Fs.below hLv hW) (by omega));have HCP:=zH hCP;have HLL:=zH hLl;have HLK:=zH hLk;have HU:Hid (∀W,Below w.heap.size w W→U8 W):=zH (fun W hW=>hU.below hW);have hz1:W1.heap.size=w.heap.size+1:=by rw[hW1,MG]
 have HB1:=zH b1;have HKR:=zH kr;have HW1:=zH hW1;have HZ1:=zH hz1;have hbe:=eD t;have HBE:Hid (btl (aZ t)≤50003):=zH (by omega);have HBT:Hid (btl t≤50000):=zH hb;obtain⟨kn,hkn⟩: ∃n,t.kids.length=n:=⟨_,rfl⟩;obtain⟨on,hon⟩: ∃n,t.opn.length=n:=⟨_,rfl⟩;obtain⟨nm,hnm⟩: ∃n,t.nm=n:=⟨_,rfl⟩;rw[hkn]at c4 HCP hkc;rw[hon]at c5 HCL HCP HLL;rw[hnm]at c0 c1 c2 c3 HCP ⊢;have HON:=zH hon;have HNM:=zH hnm;have hon9:on≤50000:=by omega
 have hblt:b<W1.heap.size:=hB1.lt b (.inl hB1.self);have HLT:Hid (∀k,(R k∨X k)→k<W1.heap.size):=zH (fun k q=>hlt1 k q.symm);clear h hU hb hW1 b1 kr hlt hB1 hlt1 hsm hCP hLl hLv hLk hz1 hbe hkn hon hnm;go_enter Tryz.func31,Tryz.ntmps31
 go_upto_region 1 with fail
 rw[←HW1.out];clear HW1;go_upto_region 3 with fail
 go_cut [3] (fun s wx=>Mi W1 nm LO ka kn kc on pa wx s)
 case first=>
  have HSX:Hid (∀W:World,Below W1.heap.size W1 W→W.cell? ⟨b,0,none⟩=some (.string ⟨nm.a.toArray⟩)∧W.cell? ⟨b,1,none⟩=some (.string ⟨nm.b.toArray⟩)∧W.cell? ⟨b,2,none⟩=some (.string ⟨nm.c.toArray⟩)∧W.cell? ⟨b,3,none⟩=some (.string ⟨nm.d.toArray⟩)∧W.cell? ⟨b,4,none⟩=some (.slice ka kn kc)∧W.cell? ⟨b,5,none⟩=some (.slice oa on oc)∧W.cell? ⟨b,6,none⟩=some (.pointer pa)):=zH (fun W hW=>⟨aC hW c0,aC hW c1,aC hW c2,aC hW c3,aC hW c4,aC hW c5,aC hW c6⟩);refine wp_region_held_drew (S:=(fun W'=>W'.cell? ⟨b,0,none⟩=some (.string ⟨nm.a.toArray⟩)∧W'.cell? ⟨b,1,none⟩=some (.string ⟨nm.b.toArray⟩)∧W'.cell? ⟨b,2,none⟩=some (.string ⟨nm.c.toArray⟩)∧W'.cell? ⟨b,3,none⟩=some (.string ⟨nm.d.toArray⟩)∧W'.cell? ⟨b,4,none⟩=some (.slice ka kn kc)∧W'.cell? ⟨b,5,none⟩=some (.slice oa on oc)∧W'.cell? ⟨b,6,none⟩=some (.pointer pa))) (by kernel_rfl) ?_ (fun hHeld=>?_)
  ·exact HSX.out _ (Mr W1.heap.size W1).drew
  refine zK (i:=0) (v:=dN b) rfl ?_;simp only[zT,zS,zZ,Act.put,yT,yZ,yS];refine zK (i:=1) (v:=dN b) rfl ?_;simp only[zT,zS,zZ,Act.put,yT,yZ,yS];refine zK (i:=2) (v:= .pointer (some ⟨b,0,none⟩)) rfl ?_;simp only[zT,zS,zZ,Act.put,yT,yZ,yS];refine zK (i:=3) (v:= .agg #[.string ⟨nm.a.toArray⟩,.string ⟨nm.b.toArray⟩,.string ⟨nm.c.toArray⟩,.string ⟨nm.d.toArray⟩,.slice ka kn kc]) rfl ?_;simp only[zT,zS,zZ,Act.put,yT,yZ,yS];refine zK (i:=4) (v:=dN b) rfl ?_;simp only[zT,zS,zZ,Act.put,yT,yZ,yS];refine zK (i:=5) (v:=dN b) rfl ?_;simp only[zT,zS,zZ,Act.put,yT,yZ,yS];refine zK (i:=6) (v:= .pointer (some ⟨b,5,none⟩)) rfl ?_;simp only[zT,zS,zZ,Act.put,yT,yZ,yS];refine zK (i:=7) (v:= .slice oa on oc) rfl ?_;simp only[zT,zS,zZ,Act.put,yT,yZ,yS];refine zK (i:=9) (v:=dN b) rfl ?_;simp only[zT,zS,zZ,Act.put,yT,yZ,yS];refine zK (i:=10) (v:=dN b) rfl ?_;simp only[zT,zS,zZ,Act.put,yT,yZ,yS];refine zK (i:=11) (v:= .pointer (some ⟨b,6,none⟩)) rfl ?_;simp only[zT,zS,zZ,Act.put,yT,yZ,yS];refine zK (i:=12) (v:= .pointer pa) rfl ?_;simp only[zT,zS,zZ,Act.put,yT,yZ,yS];refine wpAnyH_ready (rs:=[8,14]) (by kernel_rfl) (by simp) ?_;refine AllReadyH.cons rfl (fun K hK=>?_) (AllReadyH.cons rfl (fun K hK=>?_) AllReadyH.nil)
  ·try simp only[zT,zS,zZ]
   go_simp;go_at_call 61
   refine(HCL.out _ (Mr W1.heap.size W1).drew).mono ?_;rintro e w2 ⟨u,rfl,ho,hb2⟩;obtain⟨ob,oc',rfl⟩:=(ag.sl ay ho).len;rw[HLL.out]at ho ⊢;have hbx:Below W1.heap.size W1 w2:=(Mr W1.heap.size W1).drew.trans hb2;have HBX:=zH hbx;have ho':ag 58 10 ae W1.heap.size w2 (.slice ob on oc') LO:=ho;have HO:=zH ho';clear ho ho' hb2 hbx;go_wp2_with fail
   refine hK.out _ _ ?_ (fun hHeld=>?_)
   ·exact HSX.out _ HBX.out
   clear hK K
   try simp only[zT,zS,zZ,Act.put,yT,yZ,yS]
   refine zK (i:=13) (v:= .agg #[.string ⟨nm.a.toArray⟩,.string ⟨nm.b.toArray⟩,.string ⟨nm.c.toArray⟩,.string ⟨nm.d.toArray⟩,.slice ka kn kc,.slice ob on oc',.pointer pa]) rfl ?_;simp only[zT,zS,zZ,Act.put,yT,yZ,yS];refine wpAnyH_ready (rs:=[14]) (by kernel_rfl) (by simp) ?_;refine AllReadyH.cons rfl (fun K hK=>?_) AllReadyH.nil
   try simp only[zT,zS,zZ]
   go_simp;refine hK.out _ _ ?_ (fun hHeld=>?_)
   ·exact HSX.out _ (HBX.out.trans ((af w2 _).mono HBX.out.size))
   clear hK K
   try simp only[zT,zS,zZ,Act.put,yT,yZ,yS]
   have kz:Blk (w2.alloc (.cells #[.string ⟨#[]⟩,.string ⟨#[]⟩,.string ⟨#[]⟩,.string ⟨#[]⟩,.slice none 0 0,.slice none 0 0,.pointer none] 116)) w2.heap.size 116 [.string ⟨#[]⟩,.string ⟨#[]⟩,.string ⟨#[]⟩,.string ⟨#[]⟩,.slice none 0 0,.slice none 0 0,.pointer none]:=Mw w2 _;have z0:=kz.cell 0;have z1:=kz.cell 1;have z2:=kz.cell 2;have z3:=kz.cell 3;have z4:=kz.cell 4;have z5:=kz.cell 5;have z6:=kz.cell 6;simp only[Ml,Mk]at z0 z1 z2 z3 z4 z5 z6;have g0:(w2.alloc (.cells #[.string ⟨#[]⟩,.string ⟨#[]⟩,.string ⟨#[]⟩,.string ⟨#[]⟩,.slice none 0 0,.slice none 0 0,.pointer none] 116)).frozen? ⟨w2.heap.size,0,none⟩=false:=kz.frozen (by simp);have g1:(w2.alloc (.cells #[.string ⟨#[]⟩,.string ⟨#[]⟩,.string ⟨#[]⟩,.string ⟨#[]⟩,.slice none 0 0,.slice none 0 0,.pointer none] 116)).frozen? ⟨w2.heap.size,1,none⟩=false:=kz.frozen (by simp);have g2:(w2.alloc (.cells #[.string ⟨#[]⟩,.string ⟨#[]⟩,.string ⟨#[]⟩,.string ⟨#[]⟩,.slice none 0 0,.slice none 0 0,.pointer none] 116)).frozen? ⟨w2.heap.size,2,none⟩=false:=kz.frozen (by simp);have g3:(w2.alloc (.cells #[.string ⟨#[]⟩,.string ⟨#[]⟩,.string ⟨#[]⟩,.string ⟨#[]⟩,.slice none 0 0,.slice none 0 0,.pointer none] 116)).frozen? ⟨w2.heap.size,3,none⟩=false:=kz.frozen (by simp);have g4:(w2.alloc (.cells #[.string ⟨#[]⟩,.string ⟨#[]⟩,.string ⟨#[]⟩,.string ⟨#[]⟩,.slice none 0 0,.slice none 0 0,.pointer none] 116)).frozen? ⟨w2.heap.size,4,none⟩=false:=kz.frozen (by simp);have g5:(w2.alloc (.cells #[.string ⟨#[]⟩,.string ⟨#[]⟩,.string ⟨#[]⟩,.string ⟨#[]⟩,.slice none 0 0,.slice none 0 0,.pointer none] 116)).frozen? ⟨w2.heap.size,5,none⟩=false:=kz.frozen (by simp);have g6:(w2.alloc (.cells #[.string ⟨#[]⟩,.string ⟨#[]⟩,.string ⟨#[]⟩,.string ⟨#[]⟩,.slice none 0 0,.slice none 0 0,.pointer none] 116)).frozen? ⟨w2.heap.size,6,none⟩=false:=kz.frozen (by simp);have hws:=HBX.out.size;have hbz:Below W1.heap.size W1 (w2.alloc (.cells #[.string ⟨#[]⟩,.string ⟨#[]⟩,.string ⟨#[]⟩,.string ⟨#[]⟩,.slice none 0 0,.slice none 0 0,.pointer none] 116)):=HBX.out.trans ((af w2 _).mono hws);have HBL:Hid (Below W1.heap.size W1 (w2.alloc (.cells #[.string ⟨nm.a.toArray⟩,.string ⟨nm.b.toArray⟩,.string ⟨nm.c.toArray⟩,.string ⟨nm.d.toArray⟩,.slice ka kn kc,.slice ob on oc',.pointer pa] 116))):=zH (HBX.out.trans ((af w2 _).mono hws));have HKB:Hid (Blk (w2.alloc (.cells #[.string ⟨nm.a.toArray⟩,.string ⟨nm.b.toArray⟩,.string ⟨nm.c.toArray⟩,.string ⟨nm.d.toArray⟩,.slice ka kn kc,.slice ob on oc',.pointer pa] 116)) w2.heap.size 116 [.string ⟨nm.a.toArray⟩,.string ⟨nm.b.toArray⟩,.string ⟨nm.c.toArray⟩,.string ⟨nm.d.toArray⟩,.slice ka kn kc,.slice ob on oc',.pointer pa]):=zH (Mw w2 _);have HOW:Hid (ag 58 10 ae W1.heap.size (w2.alloc (.cells #[.string ⟨nm.a.toArray⟩,.string ⟨nm.b.toArray⟩,.string ⟨nm.c.toArray⟩,.string ⟨nm.d.toArray⟩,.slice ka kn kc,.slice ob on oc',.pointer pa] 116)) (.slice ob on oc') LO):=zH (HO.out.kp (fun k e=>Nw w2 _ (HO.out.ltb e)))
   have HNE:Hid ((Value.slice ob on oc').ownBlock≠some w2.heap.size):=zH (fun e=>by have:=HO.out.ltb e;omega);have HWS:=zH hws;clear kz hbz hws;refine wpAnyH_ready (rs:=[15]) (by kernel_rfl) (by simp) ?_;refine AllReadyH.cons rfl (fun K hK=>?_) AllReadyH.nil
   try simp only[zT,zS,zZ]
   go_simp;refine hK.out _ _ ?_ (fun hHeld=>?_)
   ·exact HSX.out _ HBL.out
   clear hK K
   try simp only[zT,zS,zZ,Act.put,yT,yZ,yS]
   refine MU (by kernel_rfl) ?_ _;go_wp2_with fail
   go_meet
   exact⟨_,_,_,rfl,HBL.out,HWS.out,HKB.out,HOW.out,HNE.out⟩
  ·try simp only[zT,zS,zZ]
   go_simp;refine hK.out _ _ ?_ (fun hHeld=>?_)
   ·exact HSX.out _ (af W1 _).drew
   clear hK K
   try simp only[zT,zS,zZ,Act.put,yT,yZ,yS]
   refine wpAnyH_ready (rs:=[8]) (by kernel_rfl) (by simp) ?_;refine AllReadyH.cons rfl (fun K hK=>?_) AllReadyH.nil
   try simp only[zT,zS,zZ]
   go_simp;go_at_call 61
   refine(HCL.out (W1.alloc (.cells #[.string ⟨#[]⟩,.string ⟨#[]⟩,.string ⟨#[]⟩,.string ⟨#[]⟩,.slice none 0 0,.slice none 0 0,.pointer none] 116)).drew (af W1 _).drew).mono ?_;rintro e w2 ⟨u,rfl,ho,hb2⟩;obtain⟨ob,oc',rfl⟩:=(ag.sl ay ho).len;rw[HLL.out]at ho ⊢;have hz:(W1.alloc (.cells #[.string ⟨#[]⟩,.string ⟨#[]⟩,.string ⟨#[]⟩,.string ⟨#[]⟩,.slice none 0 0,.slice none 0 0,.pointer none] 116)).drew.heap.size=W1.heap.size+1:=MG _ _;have kz:Blk w2 W1.heap.size 116 [.string ⟨#[]⟩,.string ⟨#[]⟩,.string ⟨#[]⟩,.string ⟨#[]⟩,.slice none 0 0,.slice none 0 0,.pointer none]:=Blk.below (W:=(W1.alloc (.cells #[.string ⟨#[]⟩,.string ⟨#[]⟩,.string ⟨#[]⟩,.string ⟨#[]⟩,.slice none 0 0,.slice none 0 0,.pointer none] 116)).drew) (Mw W1 _) hb2;have hbx:Below W1.heap.size W1 w2:=(af W1 (.cells #[.string ⟨#[]⟩,.string ⟨#[]⟩,.string ⟨#[]⟩,.string ⟨#[]⟩,.slice none 0 0,.slice none 0 0,.pointer none] 116)).drew.trans (hb2.mono (by rw[hz];omega));have HBX:=zH hbx;have ho':ag 58 10 ae (W1.heap.size+1) w2 (.slice ob on oc') LO:=by rw[←hz];exact ho
   have HO:=zH ho';have z0:=kz.cell 0;have z1:=kz.cell 1;have z2:=kz.cell 2;have z3:=kz.cell 3;have z4:=kz.cell 4;have z5:=kz.cell 5;have z6:=kz.cell 6;simp only[Ml,Mk]at z0 z1 z2 z3 z4 z5 z6;have g0:w2.frozen? ⟨W1.heap.size,0,none⟩=false:=kz.frozen (by simp);have g1:w2.frozen? ⟨W1.heap.size,1,none⟩=false:=kz.frozen (by simp);have g2:w2.frozen? ⟨W1.heap.size,2,none⟩=false:=kz.frozen (by simp);have g3:w2.frozen? ⟨W1.heap.size,3,none⟩=false:=kz.frozen (by simp);have g4:w2.frozen? ⟨W1.heap.size,4,none⟩=false:=kz.frozen (by simp);have g5:w2.frozen? ⟨W1.heap.size,5,none⟩=false:=kz.frozen (by simp);have g6:w2.frozen? ⟨W1.heap.size,6,none⟩=false:=kz.frozen (by simp);have HBL:Hid (Below W1.heap.size W1 (((((((w2.setCell ⟨W1.heap.size,0,none⟩ (.string ⟨nm.a.toArray⟩)).setCell ⟨W1.heap.size,1,none⟩ (.string ⟨nm.b.toArray⟩)).setCell ⟨W1.heap.size,2,none⟩ (.string ⟨nm.c.toArray⟩)).setCell ⟨W1.heap.size,3,none⟩ (.string ⟨nm.d.toArray⟩)).setCell ⟨W1.heap.size,4,none⟩ (.slice ka kn kc)).setCell ⟨W1.heap.size,5,none⟩ (.slice ob on oc')).setCell ⟨W1.heap.size,6,none⟩ (.pointer pa))):=zH ((((((((hbx.setCell (Mo _) _).setCell (Mo _) _).setCell (Mo _) _).setCell (Mo _) _).setCell (Mo _) _).setCell (Mo _) _).setCell (Mo _) _));have HKB:Hid (Blk (((((((w2.setCell ⟨W1.heap.size,0,none⟩ (.string ⟨nm.a.toArray⟩)).setCell ⟨W1.heap.size,1,none⟩ (.string ⟨nm.b.toArray⟩)).setCell ⟨W1.heap.size,2,none⟩ (.string ⟨nm.c.toArray⟩)).setCell ⟨W1.heap.size,3,none⟩ (.string ⟨nm.d.toArray⟩)).setCell ⟨W1.heap.size,4,none⟩ (.slice ka kn kc)).setCell ⟨W1.heap.size,5,none⟩ (.slice ob on oc')).setCell ⟨W1.heap.size,6,none⟩ (.pointer pa)) W1.heap.size 116 [.string ⟨nm.a.toArray⟩,.string ⟨nm.b.toArray⟩,.string ⟨nm.c.toArray⟩,.string ⟨nm.d.toArray⟩,.slice ka kn kc,.slice ob on oc',.pointer pa]):=zH ((((((((kz.set 0 _).set 1 _).set 2 _).set 3 _).set 4 _).set 5 _).set 6 _));have HOW:Hid (ag 58 10 ae W1.heap.size (((((((w2.setCell ⟨W1.heap.size,0,none⟩ (.string ⟨nm.a.toArray⟩)).setCell ⟨W1.heap.size,1,none⟩ (.string ⟨nm.b.toArray⟩)).setCell ⟨W1.heap.size,2,none⟩ (.string ⟨nm.c.toArray⟩)).setCell ⟨W1.heap.size,3,none⟩ (.string ⟨nm.d.toArray⟩)).setCell ⟨W1.heap.size,4,none⟩ (.slice ka kn kc)).setCell ⟨W1.heap.size,5,none⟩ (.slice ob on oc')).setCell ⟨W1.heap.size,6,none⟩ (.pointer pa)) (.slice ob on oc') LO):=zH (by
    refine(HO.out.kp (fun k e=>?_)).mono (NR _);have hk:=(HO.out.ty e).1;have hne:k≠W1.heap.size:=by omega
    simp only[Mt _ (⟨W1.heap.size,_,none⟩:Addr) _ k hne])
   have HNE:Hid ((Value.slice ob on oc').ownBlock≠some W1.heap.size):=zH (fun e=>by have:=(HO.out.ty e).1;omega);clear ho ho' hb2 hbx kz hz;go_wp2_with fail
   refine hK.out _ _ ?_ (fun hHeld=>?_)
   ·exact HSX.out _ HBX.out
   clear hK K
   try simp only[zT,zS,zZ,Act.put,yT,yZ,yS]
   refine zK (i:=13) (v:= .agg #[.string ⟨nm.a.toArray⟩,.string ⟨nm.b.toArray⟩,.string ⟨nm.c.toArray⟩,.string ⟨nm.d.toArray⟩,.slice ka kn kc,.slice ob on oc',.pointer pa]) rfl ?_;simp only[zT,zS,zZ,Act.put,yT,yZ,yS];refine wpAnyH_ready (rs:=[15]) (by kernel_rfl) (by simp) ?_;refine AllReadyH.cons rfl (fun K hK=>?_) AllReadyH.nil
   try simp only[zT,zS,zZ]
   go_simp;refine hK.out _ _ ?_ (fun hHeld=>?_)
   ·exact HSX.out _ HBL.out
   clear hK K
   try simp only[zT,zS,zZ,Act.put,yT,yZ,yS]
   refine MU (by kernel_rfl) ?_ _;go_wp2_with fail
   go_meet
   exact⟨_,_,_,rfl,HBL.out,Mo _,HKB.out,HOW.out,HNE.out⟩
 case rest=>
 obtain⟨o,ob,oc',rfl,hbx,ho,hbox,hown,hne⟩:=hcut;obtain⟨W2,hW2⟩: ∃W,wc=W:=⟨_,rfl⟩;rw[hW2]at hbx hbox hown ⊢;clear hW2 c0 c1 c2 c3 c4 c5 c6 HCL;have d4:=hbox.cell 4;have f4:W2.frozen? ⟨o,4,none⟩=false:=hbox.frozen (by simp[bK]);simp only[bK,pv,Ml,Mk]at d4;have HC4:=zH (uL ka kn kc hkc W2);have box2:=hbox.set 4 (.slice ka kn kn);have eb:(bK nm (ka,kn,kc) (ob,on,oc') (.pointer pa)).set 4 (.slice ka kn kn)=bK nm (ka,kn,kn) (ob,on,oc') (.pointer pa):=rfl;rw[eb]at box2;obtain⟨W3,hW3⟩: ∃W,W2.setCell ⟨o,4,none⟩ (.slice ka kn kn)=W:=⟨_,rfl⟩;have HBX:Hid (Below W1.heap.size W1 W3):=zH (by rw[←hW3];exact hbx.setCell ho _);have HBOX:Hid (Blk W3 o 116 (bK nm (ka,kn,kn) (ob,on,oc') (.pointer pa))):=zH (by rw[←hW3];exact box2);have HOWN:Hid (ag 58 10 ae W1.heap.size W3 (.slice ob on oc') (fH 0 LO)):=zH (by
  rw[yR];refine hown.kp (fun k e=>?_);rw[←hW3];exact Mt _ ⟨o,4,none⟩ _ k (fun e2=>hne (by have e3:k=o:=e2;rw[←e3];exact e)))
 have HNE:=zH hne;have HO:=zH ho;have HW3:=zH hW3;have z5:=HBOX.out.cell 5;simp only[bK,pv,Ml,Mk]at z5;clear hbx hbox hown hne box2 eb hW3;go_wp2_with fail
 refine HC4.out.mono ?_;rintro e w4 ⟨rfl,rfl⟩;clear HC4;go_upto_region 5 with fail
 rw[HW3.out];clear HW3 d4 f4;go_wp2_with fail
 go_loopw [4,5,32] (fun _ _ i wr=> ∃j:Nat,j≤on∧i= .int .i64 (j:Int)∧Hid (Below W1.heap.size W1 wr)∧Hid (Blk wr o 116 (bK nm (ka,kn,kn) (ob,on,oc') (.pointer pa)))∧Hid (ag 58 10 ae W1.heap.size wr (.slice ob on oc') (fH j LO))) (fun _ _ i _=>on-(intOf i).toNat)
 case atStart=>exact⟨0,by omega,rfl,HBX,HBOX,HOWN⟩
 case round=>
  obtain⟨j,hj,rfl,HBW,HBB,HOO⟩:=hrel;clear HBX HBOX HOWN z5
  by_cases hlt:j<on
  ·obtain⟨x,hx⟩: ∃x,LO[j]? =some x:=⟨LO[j]'(by rw[HLL.out];exact hlt),Mq _⟩
   have hxk:=HLK.out j x hx;have hxj:=Eo hx;have hxs:=AY hx;obtain⟨g,c,e,hgc,hg,cur,hcur,-⟩:=HOO.out.place ay (by rw[AZ,HLL.out];omega);injection e with e1 e2 e3
   subst e1 e3;have hoo:=HOO.out;have hgl:g<wr.heap.size:=hoo.ltb rfl;have hgo:g≠o:=fun e=>HNE.out (by rw[e];rfl)
   have hcel: ∀(i:Nat) u,(ae x)[i]? =some u→wr.cell? ⟨g,j*10+i,none⟩=some u∧wr.frozen? ⟨g,j*10+i,none⟩=false:=fun i u hu=>hoo.slotA ay hxj hu
   obtain⟨V1,hV1⟩: ∃W,W=wr.alloc (.cells (ae x).toArray 58):=⟨_,rfl⟩;have hbV:Below wr.heap.size wr V1:=by rw[hV1];exact af _ _
   have kV:Blk V1 wr.heap.size 58 (ae x):=by rw[hV1];exact Mw wr _
   have boxV:=HBB.out.below hbV;have jy:=hoo.kp (W':=V1) (fun k e=>hbV.block k (hoo.ltb e));have own2:=jy.set1 ay (s':=nM x) hxj (i:=4) (u:= .slice x.kids.1 x.kids.2.1 x.kids.2.1) (by decide) rfl;rw[hxs]at own2;have z5:=boxV.cell 5;simp only[bK,pv,Ml,Mk]at z5;have x5:=HBB.out.cell 5;simp only[bK,pv,Ml,Mk]at x5;have v4:=kV.cell 4;have g4:V1.cell? ⟨g,j*10+4,none⟩=some (pv x.kids):=aC hbV (hcel 4 _ rfl).1;have e4:V1.frozen? ⟨g,j*10+4,none⟩=false:=(hbV.frozen (p:=⟨g,j*10+4,none⟩) hgl).trans (hcel 4 _ rfl).2;have HN1:Hid (Below W1.heap.size W1 (V1.drew.setCell ⟨g,j*10+4,none⟩ (.slice x.kids.1 x.kids.2.1 x.kids.2.1))):=zH ((HBW.out.trans (hbV.mono HBW.out.size)).drew.setCell hg _);have HN2:Hid (Blk (V1.drew.setCell ⟨g,j*10+4,none⟩ (.slice x.kids.1 x.kids.2.1 x.kids.2.1)) o 116 (bK nm (ka,kn,kn) (some ⟨g,0,none⟩,on,oc') (.pointer pa))):=zH (Blk.other (W:=V1.drew) boxV (fun e=>hgo e.symm) _ _);have HN3:Hid (ag 58 10 ae W1.heap.size (V1.drew.setCell ⟨g,j*10+4,none⟩ (.slice x.kids.1 x.kids.2.1 x.kids.2.1)) (.slice (some ⟨g,0,none⟩) on oc') (fH (j+1) LO)):=zH (own2.kp (fun k e=>rfl));have hi0:(j:Int)<(on:Int):=by omega
   have hi1:(0:Int)≤(j:Int):=by omega
   obtain⟨xk,xl,xn,⟨t1,t2,t3⟩,⟨k1,k2,k3⟩,⟨r1,r2,r3⟩,xc,⟨q1,q2,q3⟩,xb,xa⟩:=x;simp only[ae,pv,Ml,Mk]at hcel hV1 kV v4 g4 HN1 HN2 HN3 hxk;have HC:=zH (uL k1 k2 k3 hxk V1.drew);have s0:=(hcel 0 _ rfl).1;have s1:=(hcel 1 _ rfl).1;have s2:=(hcel 2 _ rfl).1;have s3:=(hcel 3 _ rfl).1;have s4:=(hcel 4 _ rfl).1;have s5:=(hcel 5 _ rfl).1;have s6:=(hcel 6 _ rfl).1;have s7:=(hcel 7 _ rfl).1;have s8:=(hcel 8 _ rfl).1;have s9:=(hcel 9 _ rfl).1
   try simp only[Nq]at s0
   have HV1:=zH hV1;have HVO:Hid (wr.heap.size≠g∧o≠g):=zH ⟨by omega,fun e=>hgo e.symm⟩;clear hx hxk hxj hxs hgc hg hcur hoo hgl hgo hcel hbV kV boxV jy own2 hV1 HBW HBB HOO e2;go_upto_region 8 with fail
   rw[←HV1.out];clear HV1 x5 s0 s1 s2 s3 s4 s5 s6 s7 s8 s9;refine wp_region_held_drew (S:=(fun W'=>W'.cell? ⟨o,5,none⟩=some (.slice (some ⟨g,0,none⟩) on oc')∧W'.cell? ⟨wr.heap.size,4,none⟩=some (.slice k1 k2 k3))) (by kernel_rfl) ?_ (fun hHeld=>?_)
   ·exact⟨z5,v4⟩
   refine zK (i:=0) (v:= .pointer (some ⟨o,5,none⟩)) rfl ?_;simp only[zT,zS,zZ,Act.put,yT,yZ,yS];refine zK (i:=1) (v:= .slice (some ⟨g,0,none⟩) on oc') rfl ?_;simp only[zT,zS,zZ,Act.put,yT,yZ,yS];refine zK (i:=2) (v:= .int .i64 (j:Int)) rfl ?_;simp only[zT,zS,zZ,Act.put,yT,yZ,yS];refine zK (i:=3) (v:= .pointer (some ⟨wr.heap.size,4,none⟩)) rfl ?_;simp only[zT,zS,zZ,Act.put,yT,yZ,yS];refine zK (i:=4) (v:= .slice k1 k2 k3) rfl ?_;simp only[zT,zS,zZ,Act.put,yT,yZ,yS];refine wpAnyH_ready (rs:=[5]) (by kernel_rfl) (by simp) ?_;refine AllReadyH.cons rfl (fun K hK=>?_) AllReadyH.nil
   try simp only[zT,zS,zZ]
   go_simp;go_at_call 62
   refine HC.out.mono ?_;rintro e w6 ⟨rfl,rfl⟩;go_wp2_with fail
   refine hK.out _ _ ?_ (fun hHeld=>?_)
   ·exact⟨z5,v4⟩
   clear hK K
   try simp only[zT,zS,zZ,Act.put,yT,yZ,yS]
   refine zK (i:=6) (v:= .pointer (some ⟨g,j*10,none⟩)) rfl ?_;simp only[zT,zS,zZ,Act.put,yT,yZ,yS];refine zK (i:=7) (v:= .pointer (some ⟨g,j*10+4,none⟩)) rfl ?_;simp only[zT,zS,zZ,Act.put,yT,yZ,yS];refine wpAnyH_ready (rs:=[8]) (by kernel_rfl) (by simp) ?_;refine AllReadyH.cons rfl (fun K hK=>?_) AllReadyH.nil
   try simp only[zT,zS,zZ]
   go_simp;refine hK.out _ _ ?_ (fun hHeld=>?_)
   ·exact⟨(aN (Mt V1 ⟨g,_,none⟩ _ o (fun e=>HVO.out.2 e))).trans z5,(aN (Mt V1 ⟨g,_,none⟩ _ wr.heap.size (fun e=>HVO.out.1 e))).trans v4⟩
   clear hK K
   try simp only[zT,zS,zZ,Act.put,yT,yZ,yS]
   refine MU (by kernel_rfl) ?_ _;go_wp2_with fail
   go_roundw
   case rel=>exact⟨j+1,by omega,by go_num,HN1,HN2,HN3⟩
   case measure=>(simp[intOf];try omega)
  ·obtain rfl:j=on:=by omega
   have hlt': ¬(j:Int)<(j:Int):=by omega
   have hoo:=HOO.out;rw[←HLL.out,A7,HLL.out]at hoo;obtain⟨X2,hB2,hX2⟩:=HCP.out wr o ob oc' HBW.out HO.out HBB.out hoo HNE.out;have HEN:=zH (jo hB2 (by have:=HBT.out;omega));have HW1R:=zH HBW.out;have HX2:=zH hX2;clear hoo hB2 hX2 HBW HBB HOO;go_wp2_with fail
   refine HEN.out.mono ?_;rintro e w5 ⟨rfl,X3,R3,hB3,hE3,hX3,hR3⟩;have HCT:=zH (jH hB3 0 (by have:=HBE.out;omega) (by omega));simp only[Int.natCast_zero,Int.cast_ofNat_Int,Nat.sub_zero]at HCT;have HB5:Hid (Below W1.heap.size W1 w5∧wr.heap.size≤w5.heap.size):=zH ⟨HW1R.out.trans (hE3.below HW1R.out.size (fun k q z=>by have:=HX2.out k z;omega)),hE3.size⟩;have HX3:Hid (∀k,X3 k→W1.heap.size≤k):=zH (fun k q=>(hX3 k q).elim (HX2.out k) (fun z=>MP HW1R.out.size z));clear hB3 hE3 hX3 hR3 HEN;go_wp2_with fail
   refine HCT.out.mono ?_;rintro e w6 ⟨rfl,X4,R4,hB4,hE4,hX4,hR4⟩;have hsp:=qK (aZ t).opn.length (aZ t);have hall:=xE (aZ t).opn.length (aZ t);have hnl:=qL (aZ t).opn.length (aZ t);have hbl:=qM (aZ t).opn.length (aZ t);obtain⟨tz,htz⟩: ∃q,je (aZ t).opn.length (aZ t)=q:=⟨_,rfl⟩;rw[htz]at hB4 hsp hall hnl hbl;have hoz:tz.opn=[]:=M7 (by omega);have hnz:tz.nm=nm:=by
    rw[hsp.1,←HNM.out];unfold aZ kT
    split
    ·rfl
    ·exact(om t _).1
   obtain⟨fa,fc,hcells,hns⟩:=hB4.fin hoz;rw[hnz]at hcells;have hb6:Below W1.heap.size W1 w6:=HB5.out.1.trans (hE4.below HB5.out.1.size (fun k q z=>by have:=HX3.out k z;omega));have hbw:Below w.heap.size w w6:=HB1.out.trans (hb6.mono HB1.out.size);have hlt4:=hB4.lt;have hdoc:mD t=qo (dO tz):=by unfold mD;rw[←hall]
   have hnlz:nlL (dO tz)≤60000:=by
    have h1:=Cu tz;have h2:=HBE.out;omega
   have HTD:=zH (C8 (fun k=>R4 k∨X4 k) nm (dO tz) (.slice fa tz.kids.length fc) w6 (HU.out _ hbw) hnlz hns (fun k q=>hlt4 k q.symm));rw[←hdoc]at HTD;have kr:=HKR.out.below (W':=w6) (hb6.mono (Mo _));have hwz:w.heap.size<W1.heap.size:=by rw[HZ1.out];omega
   have HKR6:=zH kr;have HBW6:=zH hbw;have x0:=hcells 0 _ rfl;have x1:=hcells 1 _ rfl;have x2:=hcells 2 _ rfl;have x3:=hcells 3 _ rfl;have x4:=hcells 4 _ rfl;obtain⟨tn,htn⟩: ∃n,tz.kids.length=n:=⟨_,rfl⟩;rw[htn]at HTD x4;unfold rQ pF at HTD;clear hB4 hE4 hX4 hR4 hsp hall hnl hbl htz hoz hnz hcells hns hb6 hbw hlt4 hdoc hnlz kr htn HCT;go_wp2_with fail
   refine HTD.out.mono ?_;rintro e w7 ⟨⟨s1,s2,s3⟩,rfl,hs,hb7⟩;unfold rQ pF;simp only[pv]at hs ⊢;have kr7:=HKR6.out.below hb7;have z0:=kr7.cell 0;have z1:=kr7.cell 1;have z2:=kr7.cell 2;have z3:=kr7.cell 3;have z4:=kr7.cell 4;simp only[Ml,Mk]at z0 z1 z2 z3 z4;have f0:w7.frozen? ⟨w.heap.size,0,none⟩=false:=kr7.frozen (by simp);have f1:w7.frozen? ⟨w.heap.size,1,none⟩=false:=kr7.frozen (by simp);have f2:w7.frozen? ⟨w.heap.size,2,none⟩=false:=kr7.frozen (by simp);have f3:w7.frozen? ⟨w.heap.size,3,none⟩=false:=kr7.frozen (by simp);have f4:w7.frozen? ⟨w.heap.size,4,none⟩=false:=kr7.frozen (by simp);have hb7w:Below w.heap.size w w7:=HBW6.out.trans (hb7.mono HBW6.out.size);have hs67:=HBW6.out.size;have hs16:W1.heap.size≤w6.heap.size:=by have:=HKR6.out.lt;have:=HZ1.out;omega
   obtain⟨F,hF⟩: ∃F,((((w7.setCell ⟨w.heap.size,0,none⟩ (.string ⟨nm.a.toArray⟩)).setCell ⟨w.heap.size,1,none⟩ (.string ⟨nm.b.toArray⟩)).setCell ⟨w.heap.size,2,none⟩ (.string ⟨nm.c.toArray⟩)).setCell ⟨w.heap.size,3,none⟩ (.string ⟨nm.d.toArray⟩)).setCell ⟨w.heap.size,4,none⟩ (.slice s1 s2 s3)=F:=⟨_,rfl⟩;have kF:Blk F w.heap.size 38 [.string ⟨nm.a.toArray⟩,.string ⟨nm.b.toArray⟩,.string ⟨nm.c.toArray⟩,.string ⟨nm.d.toArray⟩,.slice s1 s2 s3]:=by
    rw[←hF];exact((((kr7.set 0 _).set 1 _).set 2 _).set 3 _).set 4 _
   have HFIN:Hid (H8 nm (mD t) w (.returned (.agg #[.string ⟨nm.a.toArray⟩,.string ⟨nm.b.toArray⟩,.string ⟨nm.c.toArray⟩,.string ⟨nm.d.toArray⟩,.slice s1 s2 s3])) F):=zH (by
    have hFs:F.heap.size=w7.heap.size:=by rw[←hF];simp only[eH]
    refine⟨(s1,s2,s3),rfl,(hs.keep (fun k q=>?_)).mono (fun k q=>⟨by omega,by rw[hFs];exact q.2⟩),?_⟩
    ·have hne:k≠w.heap.size:=by have:=HKR6.out.lt;omega
     rw[←hF];simp only[Mt _ (⟨w.heap.size,_,none⟩:Addr) _ k hne]
    ·rw[←hF]
     exact((((hb7w.setCell (Mo _) _).setCell (Mo _) _).setCell (Mo _) _).setCell (Mo _) _).setCell (Mo _) _)
   have HKF:=zH kF;have HFF:=zH hF;clear hs kr7 hb7 hb7w hs67 hs16 kF hF HTD x0 x1 x2 x3 x4;go_wp2_with fail
   rw[HFF.out];have e0:=HKF.out.cell 0;have e1:=HKF.out.cell 1;have e2:=HKF.out.cell 2;have e3:=HKF.out.cell 3;have e4:=HKF.out.cell 4;simp only[Ml,Mk]at e0 e1 e2 e3 e4;refine Nf (v:= .agg #[.string ⟨nm.a.toArray⟩,.string ⟨nm.b.toArray⟩,.string ⟨nm.c.toArray⟩,.string ⟨nm.d.toArray⟩,.slice s1 s2 s3]) (by simp[results,Tryz.results31,go_sem,e0,e1,e2,e3,e4]) rfl ?_;exact HFIN.out
end
theorem Exc.exq {X:Nat→Prop} {w w':World} (h:Exc X w w'):Exq X w w':=⟨h.os,h.tape,h.output,h.size,h.block⟩
abbrev BIM:BIT:=fun X R w b t=>BM true X R w b t
theorem AfC.aft {X R S:Nat→Prop} {b:Nat} {t':Bt} {w w':World} (h:AfC true X R b t' w w'):Aft BIM X R S w b t' w':=by
 obtain⟨X',R',h1,h2,h3,h4⟩:=h;exact⟨X',R',h1,h2.exq,h3,fun k q=>(h4 k q).imp id (fun z=> .inr z)⟩
theorem Bc:bv BIM U8 where
 lt:=fun h=>h.lt
 keep:=fun h hX hR hs=>h.keep hX hR hs
 sep:=fun h=>h.sep
 more:=fun h h1 h2=>BM.more h h1 h2
 new:=fun w=>(G5 w).mono fun e w' ⟨h1,h2,h3⟩=>⟨_,_,h1,h2,h3,fun k q=>Ot q.symm⟩
 title:=fun n0 n1 n2 n3 h _=>(Bd h ⟨n0,n1,n2,n3⟩).mono fun e w' ⟨h1,h2,h3⟩=>⟨h1,_,_,h2,h3.exq,fun k q=> .inl q,fun k q=> .inl q⟩
 opn:=fun h _ hx hS hb=>(Ev h hx hS (by omega)).mono fun e w' ⟨h1,h2⟩=>⟨h1,h2.aft⟩
 add:=fun h _ hx hS hb=>(G7 h hx hS (by omega)).mono fun e w' ⟨h1,h2⟩=>⟨h1,h2.aft⟩
 close:=fun k h _ hb=>(Bi h k (by omega)).mono fun e w' ⟨h1,h2⟩=>⟨h1,h2.aft⟩
 shut:=fun K h _ hv hS hK hb=>(Eu h K _ hv hS (by omega) (by omega)).mono fun e w' ⟨h1,h2⟩=>⟨h1,h2.aft⟩
 text:=fun g i h _ hv hS hb=>(Et h g i hv hS (by omega)).mono fun e w' ⟨h1,h2⟩=>⟨h1,h2.aft⟩
 nd:=fun h _ hb=>(jo h (by omega)).mono fun e w' ⟨h1,h2⟩=>⟨h1,h2.aft⟩
 depth:=fun h _=>(jG h).mono fun e w' ⟨h1,h2⟩=>⟨h1,by rw[←h2];exact Mr _ _⟩
 doc:=fun h hT hb=>(G6 h hT (by omega)).mono fun e w' ⟨s,h1,h2,h3⟩=>⟨s,h1,h2,h3⟩
 tb:=fun h hb=>h.below hb
end Go.Proofs.YtebabjnngdjceaaGreatDoor

/- A table's reader: the gl -/
import Derived.Test.YtebabjnngdjceaaGreatDoorVe
import Derived.Test.YtebabjnngdjceaaGreatDoorCd
set_option linter.unusedVariables false
set_option linter.unusedSimpArgs false
set_option maxRecDepth 100000
set_option maxHeartbeats 8000000
namespace Go.Proofs.YtebabjnngdjceaaGreatDoor
open Go.RowKit
theorem nH {W W':World}{args:Array Value}{v:Value}(h:(gQ args).run Tryz.prog W=.ok (.value v) W'):(Builtin.append_ #[29,29] 29 args).run Tryz.prog W=.ok v W':=by
 unfold gQ at h;rw[QD]at h
 cases k:(Builtin.append_ #[29,29] 29 args).run Tryz.prog W with
 | ok u w1=>
  rw[k,Qm,QG]at h;injection h with h1 h2
  injection h1 with h1
  rw[h1,h2]
 | _=>rw[k]at h;cases h
def RS.add (s:RS)(d:List Dgn):RS:={s with d:=s.d++d}
theorem RS.add_nil (s:RS):s.add []=s:=by simp[RS.add]
theorem Km {ln:Int}{D:List Dg}{j:Nat}{x:Dg}(h:D[j]? =some x)(s:RS):{s.add ((D.take j).map (fun q=>(q.1,ln,q.2.2)))with d:=(s.add ((D.take j).map (fun q=>(q.1,ln,q.2.2)))).d++ [(x.1,ln,x.2.2)] }=s.add ((D.take (j+1)).map (fun q=>(q.1,ln,q.2.2))):=by
 rw[dQ h];simp[RS.add]
structure GlJ (w W:World)(B h:Nat)(line:Int)(vl xv vd:Value)(s:RS)(g:List Gly)(D:List Dg)(wr:World):Prop where
 ri:RI w B line vl s wr
 fr:FrR W wr
 gl:aW W.heap.size wr xv g
 ds:Ds wr vd D
 own:∀x,wr.cell? ⟨B,7,none⟩=some x→x.ownBlock≠some h
 vd:∀b k c,vd=.slice (some b) k c→b.block=h
 hB:h≠B
 hl:h<wr.heap.size
theorem GlJ.keep {w W:World}{B h:Nat}{line:Int}{vl xv vd:Value}{s:RS}{g:List Gly}{D:List Dg}{A A':World}(q:GlJ w W B h line vl xv vd s g D A)(hb:Below A.heap.size A A'):GlJ w W B h line vl xv vd s g D A':=by
 refine⟨q.ri.keep hb,q.fr.trans (FrR.below hb),q.gl.keep hb,q.ds.below hb,fun x hx=>q.own x ?_,q.vd,q.hB,PH q.hl hb.size⟩;rw[←hx];exact(hb.cell (p:=⟨B,7,none⟩) q.ri.lt).symm
theorem Fs.one9 {α:Type}{n:Nat}{f:α→List Value}{W W':World}{v:Value}{l:List α}{h:Nat}(q:Fs n f W v l)(hv:∀b k c,v=.slice (some b) k c→b.block=h)(hh:W'.heap[h]? =W.heap[h]?):Fs n f W' v l:=by
 obtain⟨a,cap,rfl,hc,hr⟩:=q;refine⟨a,cap,rfl,hc,fun j x hj=>?_⟩;obtain⟨b,off,rfl,h0⟩:=hr j x hj;have e:b=h:=hv _ _ _ rfl;exact⟨b,off,rfl,fun i c hi=>(Qh (by show W'.heap[b]? =W.heap[b]?;rw[e];exact hh)).trans (h0 i c hi)⟩
theorem GlJ.step {w W:World}{B h:Nat}{line:Int}{vl xv vd:Value}{s:RS}{g:List Gly}{D:List Dg}{A:World}(q:GlJ w W B h line vl xv vd s g D A)(x:Dgn)(hD:s.d.length≤500000):
  ∃a c a' c' w2,A.cell? ⟨B,7,none⟩=some (.slice a s.d.length c)∧(gQ #[.slice a s.d.length c,.slice (some ⟨A.heap.size,0,none⟩) 1 1]).run Tryz.prog (A.alloc (.cells (fT (wD x)).toArray 46))=.ok (.value (.slice a' (s.d.length+1) c')) w2∧w2.cell? ⟨B,7,none⟩=some (.slice a s.d.length c)∧w2.frozen? ⟨B,7,none⟩=false∧
   GlJ w W B h line vl xv vd {s with d:=s.d++ [x] } g D (w2.setCell ⟨B,7,none⟩ (.slice a' (s.d.length+1) c')):=by
 obtain⟨a,c,a',c',w2,c7,hr,q7,f7,hRI,hF,hap⟩:=q.ri.tell x hD;obtain⟨p1,p2⟩:=hap h q.hl q.hB (q.own _ c7);refine⟨a,c,a',c',w2,c7,hr,q7,f7,hRI,q.fr.trans hF,q.gl.sam (hF.sam _ (by decide) (by decide)),Fs.one9 q.ds q.vd p1,fun y hy=>?_,q.vd,q.hB,PH q.hl hF.size⟩;rw[World.cell?_setCell_same' _ _ _ (by rw[q7];rfl)]at hy;injection hy with hy
 rw[←hy];exact p2
theorem uW {w:World}{B:Nat}{line:Int}{vl:Value}{s:RS}(b:Txt)(W:World)(hRI:RI w B line vl s W)(hb:b.length≤2000)(hk:s.k≤1000000)(hd:s.d.length≤400000):
  Calls Tryz.prog 164 #[.pointer (some ⟨B,0,none⟩),.string ⟨b.toArray⟩] W fun e W'=> ∃x,e=.returned x∧aW W.heap.size W' x (lgF b).1∧RI w B line vl (s.add (aY (line+s.k-1) (lgF b).2)) W'∧FrR W W':=by
 have hlg:=(jA b).2;obtain⟨ln,hln⟩:∃ln,line+(s.k:Int)-1=ln:=⟨_,rfl⟩;rw[hln];have HL:=zH (pu 0 0 b W hb);unfold Nb at HL;have hg1:(lgF b).1=(jG (0,0) (bR 0 (dec b)).1).1:=rfl;have hg2:aY ln (lgF b).2=(bR 0 (dec b)).2.map (fun q=>(q.1,ln,q.2.2)):=by
  show List.map _ (List.map _ _)=_;rw[List.map_map];rfl
 have hdl:(bR 0 (dec b)).2.length≤2000:=by
  have:(lgF b).2.length=(bR 0 (dec b)).2.length:=by show(List.map _ _).length=_;rw[Qy]
  omega
 rw[hg1,hg2];obtain⟨C,hC⟩:∃C,jG (0,0) (bR 0 (dec b)).1=C:=⟨_,rfl⟩;obtain⟨D,hD⟩:∃D,(bR 0 (dec b)).2=D:=⟨_,rfl⟩;rw[hC,hD]at HL⊢;rw[hD]at hdl;obtain⟨g,f1,f2⟩:=C;simp only at HL⊢;have HRI:=zH hRI;clear hRI hC hD hg1 hg2 hlg;go_enter Tryz.func164,Tryz.ntmps164
 go_wp2_with (go_at_call 33;refine HL.out.mono ?_;rintro e w1 ⟨xv,vd,rfl,o1,d1,b1⟩;obtain⟨da,dc,rfl⟩:=(ag.sl ax d1).len;obtain⟨xa,xc,rfl⟩:=(ag.sl ah o1).len;have O1:=zH o1;have D1:=zH d1;have B1:=zH b1;clear o1 d1 b1)
 obtain⟨h,HJ0⟩:∃h,Hid (GlJ w W B h line vl (.slice xa g.length xc) (.slice da D.length dc) s g D (w1.alloc (.cells #[.int .u8 f1,.int .u8 f2] 28))):=by
  have hlt:=HRI.out.lt;have hz1:=B1.out.size;have bF:=ae w1 (.cells #[.int .u8 f1,.int .u8 f2] 28);have hzF:(w1.alloc (.cells #[.int .u8 f1,.int .u8 f2] 28)).heap.size=w1.heap.size+1:=PS ..;have bA:=B1.out.trans (bF.mono hz1);have key:∀h,W.heap.size≤h→h<w1.heap.size+1→(∀b k c,Value.slice da D.length dc=.slice (some b) k c→b.block=h)→GlJ w W B h line vl (.slice xa g.length xc) (.slice da D.length dc) s g D (w1.alloc (.cells #[.int .u8 f1,.int .u8 f2] 28)):=fun h q1 q2 q3=>by
   refine⟨HRI.out.keep bA,FrR.below bA,O1.out.keep bF,(ag.sl ax D1.out).below bF,fun x hx=>?_,q3,by omega,by omega⟩;obtain⟨vr,vdr,k1,-,k3⟩:=HRI.out.val;have c7:W.cell? ⟨B,7,none⟩=some vdr:=k1.cell 7;rw[bA.cell (p:=⟨B,7,none⟩) hlt,c7]at hx;injection hx with hx
   rw[←hx];intro e;obtain⟨-,cur,hc⟩:=k3.ty e;have:=(Py.1 hc).1;omega
  rcases D1.out.2 with⟨hn,-⟩| ⟨q,cap,cur,hx,hb',hgg,-⟩
  ·exact⟨w1.heap.size,zH (key _ hz1 (by omega) (fun b k c e=>by rw[hn]at e;injection e with e;cases e))⟩
  ·exact⟨q,zH (key q hb' (by have:=(Py.1 hgg).1;omega) (fun b k c e=>by rw[hx]at e;injection e with e;injection e with e;rw[←e]))⟩
 clear HL O1 D1 B1;go_loopw [19] (fun i wr=> ∃j:Nat,i=.int .i64 (j:Int)∧j≤D.length∧Hid (GlJ w W B h line vl (.slice xa g.length xc) (.slice da D.length dc) (s.add ((D.take j).map (fun q=>(q.1,ln,q.2.2)))) g D wr)) (fun i _=>D.length-(intOf i).toNat)
 case atStart=>exact⟨0,rfl,by omega,by simp only[List.take_zero,QH,RS.add_nil];exact HJ0⟩
 case round=>
  obtain⟨j,rfl,hj,HJ⟩:=hrel;obtain⟨s',hs'⟩:∃s',s.add ((D.take j).map (fun q=>(q.1,ln,q.2.2)))=s':=⟨_,rfl⟩;have hsk:s'.k=s.k:=by rw[←hs'];rfl
  have hsd:s'.d.length≤500000:=by
   rw[←hs'];show(s.d++_).length≤_;rw[PL,Qy,PW];omega
  by_cases hlt:j<D.length
  ·obtain⟨⟨k,l0,cl⟩,hx⟩:∃x,D[j]? =some x:=⟨D[j],Pz hlt⟩
   have hlt':(j:Int)<(D.length:Int):=by omega
   have HNX:=zH (Km (ln:=ln) hx s);rw[hs']at HJ HNX;obtain⟨g0,off,rfl,c0,c1,c2⟩:=Fs.d HJ.out.ds hx;simp only at c0 c1 c2 HNX;have hlt2:=HJ.out.ri.lt;have A1:Hid (∀V,Below wr.heap.size wr V→Calls Tryz.prog 159 #[.pointer (some ⟨B,0,none⟩)] V fun e w'=>e=.returned (.int .i64 (w6 ln))∧Below V.heap.size V w'):=zH fun V hV=>by
    have h:=pY V (HJ.out.ri.keep hV) (by omega);rw[hsk,hln]at h;exact h
   have bX:=zH (ae wr (.cells #[.int .i64 k,.int .i64 l0,.int .i64 cl] 46));have kX:=zH (PK wr (.cells #[.int .i64 k,.int .i64 l0,.int .i64 cl] 46));clear hx hs';go_wp2_with (go_at_call 159;refine(A1.out _ bX.out).mono ?_;rintro e w2 ⟨rfl,b2⟩;have B2:=zH b2;have z1:w2.cell? ⟨wr.heap.size,1,none⟩=some (.int .i64 l0):=(Blk.below (L:=[_,_,_]) kX.out b2).cell 1;have z2:w2.frozen? ⟨wr.heap.size,1,none⟩=false:=(Blk.below (L:=[_,_,_]) kX.out b2).frozen (by simp);clear b2)
   have hBc:=zH ((bX.out.trans (B2.out.mono bX.out.size)).setCell (p:=⟨wr.heap.size,1,none⟩) (Px _) (.int .i64 (w6 ln)));have kC:Blk (w2.setCell ⟨wr.heap.size,1,none⟩ (.int .i64 (w6 ln))) wr.heap.size 46 [.int .i64 k,.int .i64 (w6 ln),.int .i64 cl]:=(Blk.below (L:=[_,_,_]) kX.out B2.out).set 1 _;obtain⟨Wc,hWc⟩:∃Wc,w2.setCell ⟨wr.heap.size,1,none⟩ (.int .i64 (w6 ln))=Wc:=⟨_,rfl⟩;rw[hWc]at hBc kC⊢;have kD:=kC.below (PG Wc.heap.size Wc).drew;have hJc:=HJ.out.keep ((hBc.out).drew);obtain⟨a,c,a',c',w3,c7,hr,q7,f7,hJ3⟩:=hJc.step (k,ln,cl) hsd;have hJ3':Hid (GlJ w W B h line vl (.slice xa g.length xc) (.slice (some ⟨g0,off,none⟩) D.length dc) (s.add ((D.take (j+1)).map (fun q=>(q.1,ln,q.2.2)))) g D (w3.setCell ⟨B,7,none⟩ (.slice a' (s'.d.length+1) c'))):=zH (by rw[←HNX.out];exact hJ3);have kk:(Builtin.append_ #[29,29] 29 #[.slice a s'.d.length c,.slice (some ⟨Wc.heap.size,0,none⟩) 1 1]).run Tryz.prog (Wc.alloc (.cells #[.int .i64 k,.int .i64 (w6 ln),.int .i64 cl] 46)).drew=.ok (.slice a' (s'.d.length+1) c') w3:=nH hr;have e0:Wc.drew.cell? ⟨wr.heap.size,0,none⟩=some (.int .i64 k):=kD.cell 0;have e1:Wc.drew.cell? ⟨wr.heap.size,1,none⟩=some (.int .i64 (w6 ln)):=kD.cell 1;have e2:Wc.drew.cell? ⟨wr.heap.size,2,none⟩=some (.int .i64 cl):=kD.cell 2;have bL:=ae Wc (.cells #[.int .i64 k,.int .i64 (w6 ln),.int .i64 cl] 46);have c7':(Wc.alloc (.cells #[.int .i64 k,.int .i64 (w6 ln),.int .i64 cl] 46)).drew.cell? ⟨B,7,none⟩=some (.slice a s'.d.length c):=(bL.cell (p:=⟨B,7,none⟩) hJc.ri.lt).trans c7;obtain⟨m,hm⟩:∃m,s'.d.length=m:=⟨_,rfl⟩;rw[hm]at c7 kk q7 c7' hJ3';clear hJ3 hJc hr kC kD bL hWc z1 z2 hBc HJ HNX hm A1;go_region_law ((refine bI rfl (.tmp 30) (.tmp 32) 29 29 rfl _ _ rfl rfl kk ?_))
   all_goals
    go_wp2_with fail
    go_roundw
    case rel=>exact⟨j+1,by go_num,by omega,hJ3'⟩
    case measure=>simp[intOf];omega
  ·obtain rfl:j=D.length:=by omega
   rw[Qa]at hs';have HF:=zH HJ.out;rw[Qa]at HF;clear HJ HJ0;go_wp2_with fail
   go_ret;exact⟨_,rfl,HF.out.gl,HF.out.ri,HF.out.fr⟩
def M7 (BI:BIT)(w0:World)(Y:Nat→Prop)(w:World)(B:Nat)(s':Md)(g:List Gly)(x:Value)(w':World):Prop:=
 ∃Y' S,MM BI w0 Y' w' B s'∧Exc Y w w'∧(∀k,Y' k→Y k∨w.heap.size≤k)∧FsS S 2 aR w' x g∧ ∀k,S k→w.heap.size≤k∧k<w'.heap.size∧ ¬Y' k
section
variable {BI:BIT}{TB:World→Prop}{w w0:World}{B:Nat}{s:Md}{Y:Nat→Prop}
attribute [local go_sem ↓ high] bH
theorem MM.more (I:eD BI)(h:MM BI w0 Y w B s){W:World}(hb:Below w.heap.size w W){u x:Value}{m:List Dgn}{g:List Gly}(hu:Ds W u m)(hx:aW w.heap.size W x g)(hl:s.d.length+m.length≤1000000):
  ∃dv dv' w2,W.cell? ⟨B,14,none⟩=some dv∧w.cell? ⟨B,14,none⟩=some dv∧(gQ #[dv,u]).run Tryz.prog W=.ok (.value dv') w2∧w2.cell? ⟨B,14,none⟩=some dv∧w2.frozen? ⟨B,14,none⟩=false∧M7 BI w0 Y w B {s with d:=s.d++m} g x (w2.setCell ⟨B,14,none⟩ dv')∧(∃a c,dv=.slice a s.d.length c)∧ ∃a c,dv'=.slice a (s.d++m).length c:=by
 obtain⟨h1,h2,X,R,lo,b,wv,rv,tv,dv,h3,h4⟩:=h;obtain⟨dv',w2,lo',hr,q7,f7,hM,hE,hL⟩:=h3.dgs I hb hu hl;have hY:∀k,X k∨lo' k≠0→Y k∨W.heap.size≤k:=fun k q=>q.elim (fun z=> .inl ((h4 k).2 (.inl z))) (fun z=>(hL k z).imp (fun z=>(h4 k).2 (.inr z)) id)
 have hYl:∀k,Y k→k<w.heap.size:=fun k q=>((h4 k).1 q).elim (fun z=>h3.lt I k (.inl z)) (fun z=>h3.ll k z)
 have hs:=hb.size;have hs0:=h1.size;have hgx:∀k,x.ownBlock=some k→w.heap.size≤k∧k<W.heap.size:=fun k e=>⟨(hx.ty e).1,hx.ltb e⟩
 have hF:aW w.heap.size (w2.setCell ⟨B,14,none⟩ dv') x g:=by
  refine hx.kp (fun k e=>hE.block k (hgx k e).2 (fun q=>?_));have:=h3.ll k q;have:=(hgx k e).1;omega
 have hEY:Exc Y w (w2.setCell ⟨B,14,none⟩ dv'):=(Exc.of (X:=Y) hb).trans (hE.mono (Y:=Y) (fun k _ q=>(h4 k).2 (.inr q))) (fun _ _ q=>q);refine⟨dv,dv',w2,(h3.box.below hb).cell 14,h3.box.cell 14,hr,q7,f7,⟨fun k=>X k∨lo' k≠0,fun k=>x.ownBlock=some k,⟨h1.trans (hEY.below hs0 (fun k hk q=>by have:=h2 k q;omega)),fun k q=>(hY k q).elim (h2 k) (fun z=>by omega),X,R,lo',b,wv,rv,tv,dv',hM,fun k=>RJ⟩,hEY,fun k q=>(hY k q).imp id (fun z=>by omega),xg ah hF,fun k e=>⟨(hgx k e).1,hF.ltb e,fun q=>(hY k q).elim (fun z=>by have:=hYl k z;have:=(hgx k e).1;omega) (fun z=>by have:=(hgx k e).2;omega)⟩⟩,h3.d_at,hM.d_at⟩
theorem QT9 {P:Prop}(h:P:=by
 refine hK.out _ _ ?_ (fun hHeld=>?_)
 ·exact trivial
 clear hK K
 try simp only[zA,Act.put]
 refine wpAnyH_ready (rs:=[8]) (by kernel_rfl) (by simp) ?_;refine AllReadyH.cons rfl (fun K hK=>?_) AllReadyH.nil
 try simp only[zG]
 rw[PZ (by kernel_rfl)];refine wp_append_run (.tmp 18) (.tmp 21) 29 29 rfl _ _ rfl rfl (nH hr) ?_;refine hK.out _ _ ?_ (fun hHeld=>?_)
 ·exact trivial
 clear hK K
 try simp only[zA,Act.put]
 refine zK (i:=9) (v:= .pointer (some ⟨B,0,none⟩)) rfl ?_;simp only[zA,Act.put];refine zK (i:=10) (v:= .pointer (some ⟨B,14,none⟩)) rfl ?_;simp only[zA,Act.put];refine wpAnyH_ready (rs:=[11]) (by kernel_rfl) (by simp) ?_;refine AllReadyH.cons rfl (fun K hK=>?_) AllReadyH.nil
 try simp only[zG]
 go_simp;refine hK.out _ _ ?_ (fun hHeld=>?_)
 ·exact trivial
 clear hK K
 try simp only[zA,Act.put]
 refine Qd (by kernel_rfl) ?_ _;go_wp2_with fail
 go_ret;exact⟨_,rfl,HG.out⟩):P:=h
theorem Db (I:eD BI)(h:MM BI w0 Y w B s)(ln:Int)(L:List Txt)(v:Value)(hv:Ss w v L)(hl:lnT L≤40000)(hL:∀s∈L,s.length≤2000)(hD:s.d.length≤500000):
  Calls Tryz.prog 85 #[ak B,.int .i64 ln,v] w fun e w'=> ∃x,e=.returned x∧M7 BI w0 Y w B {s with d:=s.d++aY ln (dE 0 L).2} (dE 0 L).1 x w':=by
 have HW:=zH (tJ 0 L v w hv hl hL);have hq2:=(eZ 0 L ([],[])).2;have hql:(dE 0 L).2.length≤80000:=by rw[jr];unfold dI;simp only[PQ]at hq2;omega
 obtain⟨q,hq⟩:∃q,dE 0 L=q:=⟨_,rfl⟩;rw[hq]at HW hql⊢;have HA:Hid (∀V d,bG w.heap.size V d (bv q.2)→Calls Tryz.prog 37 #[.int .i64 ln,d] V fun e w'=>e=.returned d∧bG w.heap.size w' d (atL ln (bv q.2))∧Exc (fun k=>d.ownBlock=some k) V w'):=zH (fun V d h=>rZ ln V h (by unfold bv;simp;omega));have HM:Hid (∀W x d,aW w.heap.size W x q.1→bG w.heap.size W d (aY ln q.2)→Below w.heap.size w W→ ∃dv dv' w2,W.cell? ⟨B,14,none⟩=some dv∧w.cell? ⟨B,14,none⟩=some dv∧(gQ #[dv,d]).run Tryz.prog W=.ok (.value dv') w2∧w2.cell? ⟨B,14,none⟩=some dv∧w2.frozen? ⟨B,14,none⟩=false∧M7 BI w0 Y w B {s with d:=s.d++aY ln q.2} q.1 x (w2.setCell ⟨B,14,none⟩ dv')∧(∃a c,dv=.slice a s.d.length c)∧ ∃a c,dv'=.slice a (s.d++aY ln q.2).length c):=
  zH (fun W x d o1 o2 hb=>h.more I hb (ag.sl ax o2) o1 (by unfold aY;simp;omega))
 have HD0:Hid (∃a c,∀W,Below w.heap.size w W→W.cell? ⟨B,14,none⟩=some (.slice a s.d.length c)):=zH (by
  obtain⟨h1,h2,X,R,lo,b,wv,rv,tv,dv,h3,h4⟩:=h;obtain⟨a,c,e⟩:=h3.d_at;exact⟨a,c,fun W hb=>by rw[(h3.box.below hb).cell 14,←e];rfl⟩)
 clear hv hl hL hq hql hq2 hD h;go_enter Tryz.func85,Tryz.ntmps85
 go_wp2_with fail
 refine HW.out.mono ?_;rintro e w2 ⟨x,d,rfl,o1,o2,b2⟩;obtain⟨ea,ec,rfl⟩:=(ag.sl ax o2).len;obtain⟨xa,xc,rfl⟩:=(ag.sl ah o1).len;obtain⟨da,dc,hdc⟩:=HD0.out;have hd2:=hdc w2 b2;have HA2:Hid (∀V,Below w2.heap.size w2 V→Calls Tryz.prog 37 #[.int .i64 ln,.slice ea (bv q.2).length ec] V fun e w'=> ∃a' m' c' w4,e=.returned (.slice ea (bv q.2).length ec)∧w'.cell? ⟨B,14,none⟩=some (.slice da s.d.length dc)∧(gQ #[.slice da s.d.length dc,.slice ea (bv q.2).length ec]).run Tryz.prog w'=.ok (.value (.slice a' m' c')) w4∧w4.cell? ⟨B,14,none⟩=some (.slice da s.d.length dc)∧w4.frozen? ⟨B,14,none⟩=false∧Hid (M7 BI w0 Y w B {s with d:=s.d++aY ln q.2} q.1 (.slice xa q.1.length xc) (w4.setCell ⟨B,14,none⟩ (.slice a' m' c')))):=zH (fun V hV=>by
  have o1':=o1.keep hV;have o2':=o2.keep hV;refine(HA.out V _ o2').mono ?_;rintro e w3 ⟨rfl,m1,m2⟩;obtain⟨p1,p2,p3⟩:=sw (ln:=ln) o1' o2' (b2.trans (hV.mono b2.size)) m1 m2;obtain⟨dv,dv',w4,g1,g2,hr,g3,g4,hG,-,⟨a',c',rfl⟩⟩:=HM.out w3 _ _ p1 p2 p3;have e1:=hdc w3 p3;rw[g1]at e1;obtain rfl:=PT e1;exact⟨a',_,c',w4,rfl,g1,hr,g3,g4,zH hG⟩)
 have HV2:Hid (Below w2.heap.size w2 w2.drew):=zH (PG _ w2).drew;clear HD0 HW hdc o1 o2 b2 HA HM;obtain⟨m,hm⟩:∃m,s.d.length=m:=⟨_,rfl⟩;rw[hm]at hd2 HA2;obtain⟨n2,hn2⟩:∃m,(bv q.2).length=m:=⟨_,rfl⟩;obtain⟨n1,hn1⟩:∃m,q.1.length=m:=⟨_,rfl⟩;rw[hn2,hn1]at HA2;rw[hn2,hn1];clear hm hn2 hn1;go_wp2_with fail
 refine wp_region_held_drew (S:=(fun _=>True)) (by kernel_rfl) ?_ (fun hHeld=>?_)
 ·exact trivial
 refine zK (i:=0) (v:= .pointer (some ⟨B,0,none⟩)) rfl ?_;simp only[zA,Act.put];refine zK (i:=1) (v:= .pointer (some ⟨B,0,none⟩)) rfl ?_;simp only[zA,Act.put];refine zK (i:=2) (v:= .pointer (some ⟨B,0,none⟩)) rfl ?_;simp only[zA,Act.put];refine zK (i:=3) (v:= .pointer (some ⟨B,14,none⟩)) rfl ?_;simp only[zA,Act.put];refine zK (i:=5) (v:= .int .i64 ln) rfl ?_;simp only[zA,Act.put];refine zK (i:=6) (v:= .slice ea n2 ec) rfl ?_;simp only[zA,Act.put];refine wpAnyH_ready (rs:=[4,7]) (by kernel_rfl) (by simp) ?_;refine AllReadyH.cons rfl (fun K hK=>?_) (AllReadyH.cons rfl (fun K hK=>?_) AllReadyH.nil)
 ·try simp only[zG]
  go_simp;refine hK.out _ _ ?_ (fun hHeld=>?_)
  ·exact trivial
  clear hK K
  try simp only[zA,Act.put]
  refine wpAnyH_ready (rs:=[7]) (by kernel_rfl) (by simp) ?_;refine AllReadyH.cons rfl (fun K hK=>?_) AllReadyH.nil
  try simp only[zG]
  go_simp;go_at_call 37
  refine(HA2.out _ HV2.out).mono ?_;rintro e w3 ⟨a',m',c',w4,rfl,c3,hr,c4,f4,HG⟩;go_wp2_with fail
  exact QT9
 ·try simp only[zG]
  go_simp;go_at_call 37
  refine(HA2.out _ HV2.out).mono ?_;rintro e w3 ⟨a',m',c',w4,rfl,c3,hr,c4,f4,HG⟩;go_wp2_with fail
  refine hK.out _ _ ?_ (fun hHeld=>?_)
  ·exact trivial
  clear hK K
  try simp only[zA,Act.put]
  refine wpAnyH_ready (rs:=[4]) (by kernel_rfl) (by simp) ?_;refine AllReadyH.cons rfl (fun K hK=>?_) AllReadyH.nil
  try simp only[zG]
  go_simp;exact QT9
end
def StS (W:World)(v:Value)(l:List Txt):Prop:=Ss W v l∧ ∀b k c,v=.slice (some b) k c→ ∃cur fz,W.heap[b.block]? =some (.cells cur 9 fz)
theorem StS.nil (W:World):StS W (.slice none 0 0) []:=⟨Fs.nil W,fun b k c e=>by injection e with e;cases e⟩
theorem QUa {P:Prop}(h:P:=by
 refine⟨?_,fun b k c e=>?_⟩
 ·obtain⟨a,cap,rfl,hc,hr⟩:=h1
  cases a with
  | none=>
   refine⟨none,cap,rfl,hc,fun j x hj=>?_⟩;obtain⟨b,off,e,-⟩:=hr j x hj
   cases e
  | some b=>
   exact Fs.one9 (h:=b.block) ⟨some b,cap,rfl,hc,hr⟩ (fun b' k c e=>by injection e with e;injection e with e;rw[e]) (key b _ _ rfl)
 ·obtain⟨cur,fz,q⟩:=h2 b k c e
  exact⟨cur,fz,by rw[key b k c e];exact q⟩):P:=h
theorem StS.fr {W W':World}{v:Value}{l:List Txt}(h:StS W v l)(hf:FrR W W'):StS W' v l:=by
 obtain⟨h1,h2⟩:=h;have key:∀b k c,v=.slice (some b) k c→W'.heap[b.block]? =W.heap[b.block]? :=fun b k c e=>by
  obtain⟨cur,fz,q⟩:=h2 b k c e;rw[q];exact hf.sam 0 (by decide) (by decide) b.block cur fz (P6 _) q
 exact QUa
theorem StS.own {base:Nat}{W:World}{v:Value}{l:List Txt}(h:iN base W v l):StS W v l:=by
 refine⟨ag.sl (f:=jw) (n:=1) (fun _=>rfl) h,fun b k c e=>?_⟩;rcases h.2 with⟨hn,-⟩| ⟨g,cap,cur,hx,-,hgg,-⟩
 ·rw[hn]at e;injection e with e;cases e
 ·rw[hx]at e
  injection e with e
  injection e with e
  subst e;exact⟨cur,_,hgg⟩
noncomputable def zC (x lo:Value):Sem Value:=Instr.slice 22 x (some lo) none none
theorem oO (x lo:Value):Instr.slice 22 x (some lo) none none=zC x lo:=rfl
theorem StS.tail {W:World}{v:Value}{l:List Txt}(h:StS W v l)(h1:1≤l.length):∃a c,(∀W':World,(zC v (.int .i64 1)).run Tryz.prog W'=.ok (.slice a l.tail.length c) W')∧StS W (.slice a l.tail.length c) l.tail:=by
 obtain⟨i0,hi,hz0,hz1,hz2⟩:=Ql JY;obtain⟨a,cap,rfl,hc,hr⟩:=h.1;have ht:l.tail=l.drop 1:=by simp
 have hl:l.tail.length=l.length-1:=by simp
 refine⟨(if cap=1 then a else a.map (·.add (1*1))),cap-1,fun W'=>?_,⟨?_,?_⟩⟩
 ·have q1:1≤cap:=by omega
  unfold zC;have e1:((1:Int)≤(cap:Int)):=by omega
  simp[Instr.slice,Instr.sliceBounds,Instr.sliceBound,asIntOf,QB Tryz.underlying22,q1,h1,sizeOf,typeInfo,hi,hz1,hl];intro hh
  exfalso
  omega
 ·refine⟨_,_,rfl,by rw[hl];omega,fun j x hj=>?_⟩
  have hj1:j<l.length-1:=by
   have:=(Pw.1 hj).1;omega
  rw[ht,QE]at hj;obtain⟨g,off,rfl,h0⟩:=hr (1+j) x hj;rw[PO (by omega)];refine⟨g,off+1,?_,fun i c hi=>?_⟩
  ·simp only[Re,QC,RB]
   rw[QV]
  ·have:=h0 i c hi
   rw[show off+1+(j*1+i)=off+((1+j)*1+i) by omega];exact this
 ·intro b k c e
  cases a with
  | none=>
   exfalso
   injection e with e
   split at e<;>cases e
  | some b0=>
   obtain⟨cur,fz,q⟩:=h.2 b0 _ _ rfl;injection e with e
   split at e
   ·injection e with e
    subst e;exact⟨cur,fz,q⟩
   ·simp only[Re]at e
    injection e with e
    subst e;exact⟨cur,fz,q⟩
theorem eY.jo {base:Nat}{W:World}{v:Value}{l:List (List Gly)}(h:eY base W v l):qL (fun b=>base≤b∧ ∃cur fz,W.heap[b]? =some (.cells cur 35 fz)) W v l:=by
 obtain⟨L,S,hL,hl,hS,hE⟩:=h.own;exact⟨L,hl,ag.sl aX hL,fun i s r a b=>(hE i s r a b).mono hS⟩
theorem eY.fr {base:Nat}{W W':World}{v:Value}{l:List (List Gly)}(h:eY base W v l)(hf:FrR W W'):eY base W' v l:=h.sam (hf.sam _ (by decide) (by decide)) (hf.sam _ (by decide) (by decide))
abbrev GlF (base:Nat)(W:World)(v:Value)(g:List Gly):Prop:=FsS (fun b=>base≤b∧ ∃cur fz,W.heap[b]? =some (.cells cur 35 fz)) 2 aR W v g
theorem GlF.own {base base':Nat}{W:World}{v:Value}{g:List Gly}(h:aW base' W v g)(hb:base≤base'):GlF base W v g:=iX ah (h.mono hb)
theorem FrR.ext {W0 A A':World}(h:FrR W0 A)(hb:Below W0.heap.size A A'):FrR W0 A':=
 ⟨PY h.size hb.size,fun g o ho h1 h2=>(hb.block g (Py.1 ho).1).trans (h.same g o ho h1 h2),fun B x h1 h2=>by
  obtain⟨k1,cur,fz,k2⟩:=h.rw4 B x h1 h2;obtain⟨_,_,k4⟩:=h2;have k3:=hb.block B (Py.1 k4).1;exact⟨(Qh k3).trans k1,cur,fz,k3.trans k2⟩⟩
theorem RI.ext {w W0 A A':World}{B:Nat}{line:Int}{vl:Value}{s s0:RS}(h:RI w B line vl s A)(fr:FrR W0 A)(h0:RI w B line vl s0 W0)(hr:s.rows=s0.rows)(hb:Below W0.heap.size A A')(h2:aF 46 w.heap.size A A'):RI w B line vl s A':=by
 obtain⟨vr,vd,q1,q2,q3⟩:=h.val;obtain⟨vr0,vd0,p1,p2,p3⟩:=h0.val;have f:=fr.ext hb;obtain⟨k1,-⟩:=fr.rw4 B vr0 (p1.cell 4) ⟨_,_,p1⟩;rw[q1.cell 4]at k1;injection k1 with k1
 have e:vr=vr0:=k1;subst e;refine⟨h.sz,h.bel.trans (hb.mono h0.bel.size),vr,vd,(hb.block B h0.lt).trans q1,?_,q3.sam h2⟩;rw[hr];exact p2.sam (f.sam _ (by decide) (by decide)) (f.sam _ (by decide) (by decide)) (f.sam _ (by decide) (by decide))
structure BlM (w W0:World)(B C C1:Nat)(line:Int)(vl:Value)(s:RS)(tx:List (List Gly))(bh:List Txt)(en:Bool)(W:World):Prop where
 ri:RI w B line vl s W
 fr:FrR W0 W
 b1:Blk W C 183 [.pointer (some ⟨B,0,none⟩)]
 tx:∃v,Blk W C1 53 [v]∧eY W0.heap.size W v tx
 bh:∃v,Blk W (C1+1) 22 [v]∧StS W v bh
 en:Blk W (C1+2) 4 [.bool en]
 b2:Blk W (C1+3) 183 [.pointer (some ⟨B,0,none⟩)]
 h0:∃s0,RI w B line vl s0 W0∧s.rows=s0.rows
 c0:W0.heap.size≤C
 c1:C<C1
section
variable {w W0:World}{B C C1:Nat}{line:Int}{vl:Value}{s s':RS}{tx:List (List Gly)}{bh:List Txt}{en:Bool}{A A':World}
theorem BlM.go (h:BlM w W0 B C C1 line vl s tx bh en A)(hr:RI w B line vl s' A')(hf:FrR A A')(hrw:s'.rows=s.rows:=by rfl):BlM w W0 B C C1 line vl s' tx bh en A':=by
 obtain⟨v,h1,h2⟩:=h.tx;obtain⟨u,h3,h4⟩:=h.bh;obtain⟨s0,k1,k2⟩:=h.h0;exact⟨hr,h.fr.trans hf,hf.blk h.b1 (by decide) (by decide),⟨v,hf.blk h1 (by decide) (by decide),h2.fr hf⟩,⟨u,hf.blk h3 (by decide) (by decide),h4.fr hf⟩,hf.blk h.en (by decide) (by decide),hf.blk h.b2 (by decide) (by decide),⟨s0,k1,hrw.trans k2⟩,h.c0,h.c1⟩
theorem StS.sam {W W':World}{v:Value}{l:List Txt}(h:StS W v l)(hs:aF 9 0 W W'):StS W' v l:=by
 obtain⟨h1,h2⟩:=h;have key:∀b k c,v=.slice (some b) k c→W'.heap[b.block]? =W.heap[b.block]? :=fun b k c e=>by
  obtain⟨cur,fz,q⟩:=h2 b k c e;rw[q];exact hs b.block cur fz (P6 _) q
 exact QUa
theorem aF.zero {e:TypeId}{base:Nat}{W W':World}(h:aF e base W W')(hb:∀g,g<base→W'.heap[g]? =W.heap[g]?):aF e 0 W W':=fun g cur fz _ hg=>by
 by_cases q:base≤g
 ·exact h g cur fz q hg
 ·rw[hb g (by omega)];exact hg
theorem K7 {W W':World}{args:Array Value}{v:Value}(h:(mJ args).run Tryz.prog W=.ok (.value v) W'):(Builtin.append_ #[53,53] 53 args).run Tryz.prog W=.ok v W':=by
 unfold mJ at h;rw[QD]at h
 cases k:(Builtin.append_ #[53,53] 53 args).run Tryz.prog W with
 | ok u w1=>
  rw[k,Qm,QG]at h;injection h with h1 h2
  injection h1 with h1
  rw[h1,h2]
 | _=>rw[k]at h;cases h
theorem EJ {α:Type}{v v':α}{w w':World}(h:Result.ok v w=Result.ok v' w'):w=w':=by
 injection h
theorem eY.ko {base:Nat}{W:World}{v:Value}{l:List (List Gly)}(h:eY base W v l)(hb:base≤W.heap.size)(hl:l.length≤500000)(s:PV){v':Value}{w':World}(hr:(mJ #[v,.slice (some ⟨W.heap.size,0,none⟩) 1 1]).run Tryz.prog (W.alloc (.cells #[pv s] 26))=.ok (.value v') w'):KeepsOthers W w':=by
 obtain⟨L,S,hL,hLl,hS,hE⟩:=h.own;obtain⟨i0,hi,hz0,hz1,hz2⟩:=Ql mg;obtain⟨a',c',w2,hr2,ho,hg,hty⟩:=Fg (P:=Tryz.prog) (t:=53) aX jQ (by decide) Tryz.underlying53 hi hz0 hz1 hz2 rfl (by decide) hL hb (by omega) s;have e:w'=w2:=by
  have h1:=K7 hr;rw[show(aJ s).toArray= #[pv s] from rfl]at hr2;exact EJ (h1.symm.trans hr2)
 subst e;refine(KeepsOthers.alloc W _).trans (KeepsOthers.of_grownBy hg (fun j o e ho=>?_));obtain⟨cur,fz,hc⟩:=hty j e;rw[hc]at ho
 cases ho
 rfl
theorem BlM.push (h:BlM w W0 B C C1 line vl s tx bh en A)(hl:tx.length≤500000)(q:PV)(r:List Gly)(hs:GlF W0.heap.size A (pv q) r):
  ∃ta tc a' c' w',A.cell? ⟨C1,0,none⟩=some (.slice ta tx.length tc)∧(mJ #[.slice ta tx.length tc,.slice (some ⟨A.heap.size,0,none⟩) 1 1]).run Tryz.prog (A.alloc (.cells #[pv q] 26))=.ok (.value (.slice a' (tx.length+1) c')) w'∧w'.cell? ⟨C1,0,none⟩=some (.slice ta tx.length tc)∧w'.frozen? ⟨C1,0,none⟩=false∧
   BlM w W0 B C C1 line vl s (tx++ [r]) bh en (w'.setCell ⟨C1,0,none⟩ (.slice a' (tx.length+1) c'))∧KeepsOthers A (w'.setCell ⟨C1,0,none⟩ (.slice a' (tx.length+1) c')):=by
 obtain⟨v,t1,t2⟩:=h.tx;obtain⟨u,t3,t4⟩:=h.bh;obtain⟨s0,k1,k2⟩:=h.h0;obtain⟨ta,tc,rfl⟩:=t2.len;have hc0:=h.c0;have hc1:=h.c1;obtain⟨a',c',w',hr,ci,hb,sam⟩:=t2.push h.fr.size hl q r hs;have ko:=t2.ko h.fr.size hl q hr;have z:∀{e:TypeId},e≠26→aF e 0 A w':=fun he=>(sam _ he).zero (fun g hg=>hb.block g hg)
 have t1':=t1.sam (P6 _) (z (by decide));have ri1:=h.ri.ext h.fr k1 k2 hb (fun g cur fz _ hg=>z (e:=46) (by decide) g cur fz (P6 _) hg);have fr1:=h.fr.ext hb;have hb2:Below W0.heap.size w' (w'.setCell ⟨C1,0,none⟩ (.slice a' (tx.length+1) c')):=(PG _ w').setCell (p:=⟨C1,0,none⟩) (by show W0.heap.size≤C1;omega) _;have st:∀{e:TypeId},e≠53→aF e 0 w' (w'.setCell ⟨C1,0,none⟩ (.slice a' (tx.length+1) c')):=fun he=>aF.set t1' (fun q=>he q) 0 _
 refine⟨ta,tc,a',c',w',t1.cell 0,hr,t1'.cell 0,t1'.frozen (by simp),⟨?_,fr1.ext hb2,?_,⟨_,t1'.set 0 _,?_⟩,⟨u,?_,?_⟩,?_,?_,⟨s0,k1,k2⟩,h.c0,h.c1⟩,ko.trans (KeepsOthers.setCell _ _ _)⟩
 ·exact ri1.ext fr1 k1 k2 hb2 (fun g cur fz _ hg=>st (e:=46) (by decide) g cur fz (P6 _) hg)
 ·exact(h.b1.sam (P6 _) (z (by decide))).sam (P6 _) (st (by decide))
 ·exact ci.sam (aF.set t1' (by decide) 0 _) (aF.set t1' (by decide) 0 _)
 ·exact(t3.sam (P6 _) (z (by decide))).sam (P6 _) (st (by decide))
 ·exact(t4.sam (z (by decide))).sam (st (by decide))
 ·exact(h.en.sam (P6 _) (z (by decide))).sam (P6 _) (st (by decide))
 ·exact(h.b2.sam (P6 _) (z (by decide))).sam (P6 _) (st (by decide))
end
section
variable {w W0:World}{B C C1:Nat}{line:Int}{vl:Value}{s s':RS}{tx:List (List Gly)}{bh:List Txt}{en:Bool}{A A':World}
theorem BlM.keep (h:BlM w W0 B C C1 line vl s tx bh en A)(hb:Below A.heap.size A A'):BlM w W0 B C C1 line vl s tx bh en A':=h.go (h.ri.keep hb) (FrR.below hb)
theorem StS.fr0 {v:Value}{l:List Txt}{B':Nat}:Fr0 B' (fun W=>StS W v l):=fun A A' row h hg hr=>by
 obtain⟨h1,h2⟩:=h;refine⟨?_,fun b k c e=>?_⟩
 ·obtain⟨a,cap,rfl,hc,hr'⟩:=h1
  cases a with
  | none=>
   refine⟨none,cap,rfl,hc,fun j x hj=>?_⟩;obtain⟨b,off,e,-⟩:=hr' j x hj
   cases e
  | some b=>
   obtain⟨cur,fz,q⟩:=h2 b _ _ rfl;exact Fs.one9 (h:=b.block) ⟨some b,cap,rfl,hc,hr'⟩ (fun b' k c e=>by injection e with e;injection e with e;rw[e]) (by rw[q];exact aF.others hg hr b.block cur fz (P6 _) q)
 ·obtain⟨cur,fz,q⟩:=h2 b k c e
  exact⟨cur,fz,aF.others hg hr b.block cur fz (P6 _) q⟩
theorem eY.fr0 {base B':Nat}{v:Value}{l:List (List Gly)}:Fr0 B' (fun W=>eY base W v l):=fun A A' row h hg hr=>h.sam (aF.others hg hr) (aF.others hg hr)
theorem BlM.brk (h:BlM w W0 B C C1 line vl s tx bh en A){v:Value}{bh':List Txt}(hs:StS A v bh'):
  BlM w W0 B C C1 line vl s tx bh' true ((A.setCell ⟨C1+1,0,none⟩ v).setCell ⟨C1+1+1,0,none⟩ (.bool true)):=by
 obtain⟨v0,t1,t2⟩:=h.tx;obtain⟨u,t3,t4⟩:=h.bh;obtain⟨s0,k1,k2⟩:=h.h0;have hc0:=h.c0;have hc1:=h.c1;have b1:Below W0.heap.size A (A.setCell ⟨C1+1,0,none⟩ v):=(PG _ A).setCell (p:=⟨C1+1,0,none⟩) (by show W0.heap.size≤C1+1;omega) _;have e1:Blk (A.setCell ⟨C1+1,0,none⟩ v) (C1+2) 4 [.bool en]:=h.en.other (by omega) _ _;have b2:Below W0.heap.size (A.setCell ⟨C1+1,0,none⟩ v) ((A.setCell ⟨C1+1,0,none⟩ v).setCell ⟨C1+1+1,0,none⟩ (.bool true)):=(PG _ _).setCell (p:=⟨C1+1+1,0,none⟩) (by show W0.heap.size≤C1+1+1;omega) _;have s1:∀{e:TypeId},e≠22→aF e 0 A (A.setCell ⟨C1+1,0,none⟩ v):=fun he=>aF.set t3 (fun q=>he q) 0 _
 have s2:∀{e:TypeId},e≠4→aF e 0 (A.setCell ⟨C1+1,0,none⟩ v) ((A.setCell ⟨C1+1,0,none⟩ v).setCell ⟨C1+1+1,0,none⟩ (.bool true)):=fun he=>aF.set e1 (fun q=>he q) 0 _
 have ri1:=h.ri.ext h.fr k1 k2 b1 (fun g cur fz _ hg=>s1 (e:=46) (by decide) g cur fz (P6 _) hg);have fr1:=h.fr.ext b1;refine⟨ri1.ext fr1 k1 k2 b2 (fun g cur fz _ hg=>s2 (e:=46) (by decide) g cur fz (P6 _) hg),fr1.ext b2,?_,⟨v0,?_,?_⟩,⟨v,?_,?_⟩,e1.set 0 _,?_,⟨s0,k1,k2⟩,h.c0,h.c1⟩
 ·exact(h.b1.sam (P6 _) (s1 (by decide))).sam (P6 _) (s2 (by decide))
 ·exact(t1.sam (P6 _) (s1 (by decide))).sam (P6 _) (s2 (by decide))
 ·exact(t2.sam (fun g cur fz _ hg=>s1 (by decide) g cur fz (P6 _) hg) (fun g cur fz _ hg=>s1 (by decide) g cur fz (P6 _) hg)).sam (fun g cur fz _ hg=>s2 (by decide) g cur fz (P6 _) hg) (fun g cur fz _ hg=>s2 (by decide) g cur fz (P6 _) hg)
 ·exact(t3.set 0 v).sam (P6 _) (s2 (by decide))
 ·exact(hs.sam (s1 (by decide))).sam (s2 (by decide))
 ·exact(h.b2.sam (P6 _) (s1 (by decide))).sam (P6 _) (s2 (by decide))
theorem GlF.fr0 {base B':Nat}{v:Value}{g:List Gly}:Fr0 B' (fun W=>GlF base W v g):=fun A A' row h hg hr=>by
 have hs:aF 35 base A A':=aF.others hg hr;refine FsS.mono (FsS.keep h (fun b q=>?_)) (fun b q=>?_)
 ·obtain⟨q1,cur,fz,q2⟩:=q
  rw[hs b cur fz q1 q2,q2]
 ·obtain⟨q1,cur,fz,q2⟩:=q
  exact⟨q1,cur,fz,hs b cur fz q1 q2⟩
theorem JR.glf {base:Nat}{W W':World}{v:Value}{g:List Gly}(h:JR (fun b=>base≤b∧ ∃cur fz,W.heap[b]? =some (.cells cur 35 fz)) base W' v g)(hb:Below W.heap.size W W'):GlF base W' v g:=
 FsS.mono h (fun b q=>by
  rcases q with⟨q1,cur,fz,q2⟩| q
  ·exact⟨q1,cur,fz,(hb.block b (Py.1 q2).1).trans q2⟩
  ·exact q)
theorem BlM.fr0 {B':Nat}(h1:w.heap.size≤B')(h2:W0.heap.size≤B'):Fr0 B' (BlM w W0 B C C1 line vl s tx bh en):=fun A A' row h hg hr=>by
 obtain⟨v,q1,q2⟩:=h.tx;obtain⟨u,q3,q4⟩:=h.bh;exact⟨RI.fr0 h1 A A' row h.ri hg hr,FrR.fr0 h2 A A' row h.fr hg hr,Blk.fr0 A A' row h.b1 hg hr,⟨v,Blk.fr0 A A' row q1 hg hr,eY.fr0 A A' row q2 hg hr⟩,⟨u,Blk.fr0 A A' row q3 hg hr,StS.fr0 A A' row q4 hg hr⟩,Blk.fr0 A A' row h.en hg hr,Blk.fr0 A A' row h.b2 hg hr,h.h0,h.c0,h.c1⟩
end
theorem Ot {base:Nat}{W:World}{x u:Value}{l m:List PV}(h:ag 26 1 aJ base W x l)(hu:Fs 1 aJ W u m)(hb:base≤W.heap.size)(hd:l.length+m.length≤1000000):
  ∃x' w',(mJ #[x,u]).run Tryz.prog W=.ok (.value x') w'∧ag 26 1 aJ base w' x' (l++m)∧W.grownBy w' x.ownBlock∧(x'.ownBlock=x.ownBlock∨x'.ownBlock=some W.heap.size):=by
 obtain⟨i0,hi,hz0,hz1,hz2⟩:=Ql mg;obtain⟨x',w',hr,r⟩:=lM aX jQ (by decide) Tryz.underlying53 hi hz0 hz1 hz2 rfl (by decide) h hu hb hd;refine⟨x',w',?_,r⟩;unfold mJ;simp only[QD,QG,Qm,hr]
section
variable {BI:BIT}{TB:World→Prop}{X R:Nat→Prop}{lo:Nat→Nat}{w w0:World}{B b:Nat}{s:Md}{wv rv tv dv:Value}{Y:Nat→Prop}
structure Ps (BI:BIT)(X R:Nat→Prop)(lo lo':Nat→Nat)(w W W2 F:World)(B b:Nat)(s:Md)(wv rv tv dv:Value)(j z:Nat)(v':Value):Prop where
 box0:Blk W2 B 79 (mnC b s.th wv (kdM s) (lnM s) rv tv dv)
 box:Blk F B 79 ((mnC b s.th wv (kdM s) (lnM s) rv tv dv).set j v')
 own:∀k,v'.ownBlock=some k→F.heap[k]? =W2.heap[k]?
 exc:Exc (fun k=>lo k≠0) W F
 kp:∀S:Nat→Prop,(∀k,S k→k<w.heap.size∧lo k≠z∧lo k≠2)→Kp S W F
 lab:∀{k:Nat} y,y≠z→y≠0→lo k=y→lo' k=y
 l0:∀{k:Nat},k<w.heap.size→lo k=0→lo' k=0
 labo:∀k,v'.ownBlock=some k→lo' k=z
 more:∀k,lo' k≠0→lo k≠0∨W.heap.size≤k
 lt:∀k,lo' k≠0→k<F.heap.size
 bi:BI X R F b s.b
theorem MC.grow (I:bu BI TB)(h:MC BI X R lo w B b s wv rv tv dv){W W2:World}(hb:Below w.heap.size w W)(j z:Nat)(hz0:z≠0)(hz2:z≠2){v v':Value}(hvb:∀k,v.ownBlock=some k→lo k=z)(hg:W.grownBy W2 v.ownBlock)(hown:v'.ownBlock=v.ownBlock∨v'.ownBlock=some W.heap.size)(hlt:∀k,v'.ownBlock=some k→k<W2.heap.size):
  Ps BI X R lo (jK lo z v'.ownBlock) w W W2 (W2.setCell ⟨B,j,none⟩ v') B b s wv rv tv dv j z v':=by
 have hW:=h.keep I hb;have hs:=hb.size;have ho4:∀k,v'.ownBlock=some k→lo k=z∨W.heap.size≤k:=fun k e=>by
  rcases hown with q | q
  ·exact .inl (hvb k (by rw[←q];exact e))
  ·rw[q]at e
   obtain rfl:=PT e;exact .inr (Px _)
 have ho3:∀k,v'.ownBlock=some k→lo k=z∨w.heap.size≤k:=fun k e=>(ho4 k e).imp id (fun z=>by omega)
 have hE2:Exc (fun k=>v.ownBlock=some k) W W2:=⟨hg.os,hg.tape,hg.output,hg.size,fun k hk hx=>hg.block k hk (fun e=>hx e.symm)⟩;have hBz:¬v.ownBlock=some B:=fun e=>by have:=hvb B e;rw[h.lb]at this;omega
 have box2:Blk W2 B 79 (mnC b s.th wv (kdM s) (lnM s) rv tv dv):=hE2.blk hW.box hBz;have hE3:Exc (fun k=>v.ownBlock=some k∨k=B) W (W2.setCell ⟨B,j,none⟩ v'):=(hE2.mono (fun k _ q=> .inl q)).set j _ (fun _=> .inr rfl);have hBs:∀k,v'.ownBlock=some k→k≠B:=fun k e q=>by
  subst q;rcases ho3 _ e with q | q
  ·rw[h.lb]at q;omega
  ·have:=h.ll k (by rw[h.lb];decide);omega
 have hne:∀k,lo k≠z→lo k≠2→ ¬(v.ownBlock=some k∨k=B):=fun k q1 q2 q=>q.elim (fun e=>q1 (hvb k e)) (fun e=>q2 (by rw[e];exact h.lb))
 have kp:∀S:Nat→Prop,(∀k,S k→k<w.heap.size∧lo k≠z∧lo k≠2)→Kp S W (W2.setCell ⟨B,j,none⟩ v'):=fun S hS k q=>hE3.block k (PH (hS k q).1 hs) (hne k (hS k q).2.1 (hS k q).2.2)
 have hFs:=hE3.size;have hsz:(W2.setCell ⟨B,j,none⟩ v').heap.size=W2.heap.size:=eG _ _ _;refine⟨box2,box2.set j v',fun k e=>PN _ ⟨B,j,none⟩ _ _ (hBs k e),?_,kp,fun {k} y q0 q1 q=>by rw[jJ ho3 (h.ll k (by omega)) (by omega),q],fun {k} hk q=>by rw[jJ ho3 hk (by omega),q],fun k e=>sN e,fun k q=>xU ho4 hz0 q,fun k q=>?_,?_⟩
 ·exact hE3.mono (Y:=fun k=>lo k≠0) (fun k hk q=>by
   rcases q with q | q
   ·rw[hvb k q];exact hz0
   ·rw[q,h.lb];decide)
 ·refine xV (N:=(W2.setCell ⟨B,j,none⟩ v').heap.size) (fun k q=>by have:=h.ll k q;omega) (fun k e=>?_) q
  rw[hsz];exact hlt k e
 ·exact I.keep hW.bi (kp X (fun k q=>⟨h.lt I k (.inl q),by rw[h.lx k q];omega,by rw[h.lx k q];decide⟩)) (kp R (fun k q=>⟨h.lt I k (.inr (.inl q)),by rw[h.lr k q];omega,by rw[h.lr k q];decide⟩)) hFs
theorem MC.row (I:bu BI TB)(h:MC BI X R lo w B b s wv rv tv dv){v0:Int×List (List Gly)}(hv:s.v=some v0){W:World}(hb:Below w.heap.size w W){S:Nat→Prop}{p:PV}{g:List Gly}(hp:FsS S 2 aR W (pv p) g)(hS:∀k,S k→k<w.heap.size∧ ¬X k∧lo k=0){u:Value}(hu:Fs 1 aJ W u [p])(hl:v0.2.length≤500000):
  ∃rv' w2 lo',(mJ #[rv,u]).run Tryz.prog W=.ok (.value rv') w2∧w2.cell? ⟨B,8,none⟩=some rv∧w2.frozen? ⟨B,8,none⟩=false∧MC BI X (fun k=>R k∨S k) lo' (w2.setCell ⟨B,8,none⟩ rv') B b {s with v:=some (v0.1,v0.2++ [g]) } wv rv' tv dv∧
   Exc (fun k=>lo k≠0) W (w2.setCell ⟨B,8,none⟩ rv')∧(∀k,lo' k≠0→lo k≠0∨W.heap.size≤k)∧(∃a c,rv=.slice a v0.2.length c)∧ ∃a c,rv'=.slice a (v0.2.length+1) c:=by
 have hW:=h.keep I hb;have hrw:rwM s=v0.2:=by unfold rwM;rw[hv]
 obtain⟨L,hL,hLo,hLg⟩:=hW.rg;rw[hrw]at hL hLg;obtain⟨rv',w2,hr,ho,hg,hown⟩:=Ot hLo hu (P6 _) (by simp;omega);have hs:=hb.size;have hG:=h.grow I hb 8 5 (by decide) (by decide) h.rgb hg hown (fun k e=>ho.ltb e);obtain⟨F,hF⟩:∃F,w2.setCell ⟨B,8,none⟩ rv'=F:=⟨_,rfl⟩;rw[hF]at hG;have hrg:=h.rg.len;have kR:Kp R W F:=hG.kp R (fun k q=>⟨h.lt I k (.inr (.inl q)),by rw[h.lr k q];decide,by rw[h.lr k q];decide⟩);have kS:Kp S W F:=hG.kp S (fun k q=>⟨(hS k q).1,by rw[(hS k q).2.2];decide,by rw[(hS k q).2.2];decide⟩);have kz:∀y,y≠0→y≠2→y≠5→Kp (fun k=>lo k=y) W F:=fun y q0 q2 q5=>hG.kp _ (fun k q=>⟨h.ll k (by omega),by omega,by omega⟩)
 have hkd:kdM {s with v:=some (v0.1,v0.2++ [g]) }=kdM s:=by unfold kdM;rw[hv]
 have hlm:lnM {s with v:=some (v0.1,v0.2++ [g]) }=lnM s:=by unfold lnM;rw[hv]
 have hgn:s.g=none:=h.ok.vg.resolve_left (by rw[hv];simp);refine⟨rv',w2,jK lo 5 rv'.ownBlock,hr,hG.box0.cell 8,hG.box0.frozen (by simp[mnC]),?_,by rw[hF];exact hG.exc,hG.more,?_,?_⟩
 ·rw[hF]
  refine⟨⟨.inr hgn,fun _=>h.ok.vw (by rw[hv];simp),h.ok.gw⟩,hG.lt,fun k q=>hG.l0 (h.lt I k (.inl q)) (h.lx k q),fun k q=>q.elim (fun q=>hG.l0 (h.lt I k (.inr (.inl q))) (h.lr k q)) (fun q=>hG.l0 (hS k q).1 (hS k q).2.2),?_,hG.lab 2 (by decide) (by decide) h.lb,?_,hW.dg.kp (fun k e=>kz 3 (by decide) (by decide) (by decide) k (h.dgb k e)),fun k e=>hG.lab 3 (by decide) (by decide) (h.dgb k e),
   hW.tx.kp (fun k e=>kz 4 (by decide) (by decide) (by decide) k (h.txb k e)),fun k e=>hG.lab 4 (by decide) (by decide) (h.txb k e),⟨L++ [p],by simp[rwM,hL],ho.kp (fun k e=>hG.own k e),fun i p' r a c=>?_⟩,fun k e=>hG.labo k e,fun e=>(by cases e),h.tn,(hW.wt.keep (kz 6 (by decide) (by decide) (by decide))).relab (fun k q=>hG.lab 6 (by decide) (by decide) q)⟩
  ·refine I.more hG.bi (fun k q=> .inl q) (fun k q=>q.imp id (fun q=>⟨?_,(hS k q).2.1⟩))
   have:=hG.exc.size;have:=(hS k q).1;omega
  ·rw[hkd,hlm];exact hG.box
  ·by_cases hi:i<L.length
   ·rw[P7 hi]at a
    have c':v0.2[i]? =some r:=by
     have c2:(v0.2++ [g])[i]? =some r:=c;rw[P7 (by omega)]at c2;exact c2
    exact((hLg i p' r a c').keep kR).mono (fun k q=> .inl q)
   ·rw[P5 (by omega)]at a
    have c':[g][i-v0.2.length]? =some r:=by
     have c2:(v0.2++ [g])[i]? =some r:=c;rw[P5 (by omega)]at c2;exact c2
    have hi0:i-L.length=0:=by
     have:=(Pw.1 a).1;simp at this;omega
    rw[hi0]at a;rw[←hL,hi0]at c';simp at a c';subst a c';exact(hp.keep kS).mono (fun k q=> .inr q)
 ·rw[hrw]at hrg;exact hrg
 ·obtain⟨a,c,e⟩:=(ag.sl aX ho).len
  exact⟨a,c,by rw[e];simp[hL]⟩
theorem MC.txt (I:bu BI TB)(h:MC BI X R lo w B b s wv rv tv dv){g0:Int×List Txt}(hv:s.g=some g0){W:World}(hb:Below w.heap.size w W){t:Txt}{u:Value}(hu:Ss W u [t])(hl:g0.2.length≤500000):
  ∃tv' w2 lo',(rR #[tv,u]).run Tryz.prog W=.ok (.value tv') w2∧w2.cell? ⟨B,13,none⟩=some tv∧w2.frozen? ⟨B,13,none⟩=false∧MC BI X R lo' (w2.setCell ⟨B,13,none⟩ tv') B b {s with g:=some (g0.1,g0.2++ [t]) } wv rv tv' dv∧
   Exc (fun k=>lo k≠0) W (w2.setCell ⟨B,13,none⟩ tv')∧(∀k,lo' k≠0→lo k≠0∨W.heap.size≤k)∧(∃a c,tv=.slice a g0.2.length c)∧ ∃a c,tv'=.slice a (g0.2.length+1) c:=by
 have hW:=h.keep I hb;have htx:txM s=g0.2:=by unfold txM;rw[hv]
 have hTo:=hW.tx;rw[htx]at hTo;obtain⟨tv',w2,hr,ho,hg,hown⟩:=BV hTo hu (P6 _) (by simp;omega);have hs:=hb.size;have hG:=h.grow I hb 13 4 (by decide) (by decide) h.txb hg hown (fun k e=>ho.ltb e);obtain⟨F,hF⟩:∃F,w2.setCell ⟨B,13,none⟩ tv'=F:=⟨_,rfl⟩;rw[hF]at hG;have kR:Kp R W F:=hG.kp R (fun k q=>⟨h.lt I k (.inr (.inl q)),by rw[h.lr k q];decide,by rw[h.lr k q];decide⟩);have kz:∀y,y≠0→y≠2→y≠4→Kp (fun k=>lo k=y) W F:=fun y q0 q2 q5=>hG.kp _ (fun k q=>⟨h.ll k (by omega),by omega,by omega⟩)
 have hvn:s.v=none:=h.ok.vg.resolve_right (by rw[hv];simp);have hkd:kdM {s with g:=some (g0.1,g0.2++ [t]) }=kdM s:=by unfold kdM;rw[hvn,hv]
 have hlm:lnM {s with g:=some (g0.1,g0.2++ [t]) }=lnM s:=by unfold lnM;rw[hvn,hv]
 refine⟨tv',w2,jK lo 4 tv'.ownBlock,hr,hG.box0.cell 13,hG.box0.frozen (by simp[mnC]),?_,by rw[hF];exact hG.exc,hG.more,?_,?_⟩
 ·rw[hF]
  refine⟨⟨.inl hvn,h.ok.vw,fun _=>h.ok.gw (by rw[hv];simp)⟩,hG.lt,fun k q=>hG.l0 (h.lt I k (.inl q)) (h.lx k q),fun k q=>hG.l0 (h.lt I k (.inr (.inl q))) (h.lr k q),hG.bi,hG.lab 2 (by decide) (by decide) h.lb,?_,hW.dg.kp (fun k e=>kz 3 (by decide) (by decide) (by decide) k (h.dgb k e)),fun k e=>hG.lab 3 (by decide) (by decide) (h.dgb k e),
   ho.kp (fun k e=>hG.own k e),fun k e=>hG.labo k e,hW.rg.keep kR (fun k e=>kz 5 (by decide) (by decide) (by decide) k (h.rgb k e)),fun k e=>hG.lab 5 (by decide) (by decide) (h.rgb k e),h.rn,fun e=>(by cases e),(hW.wt.keep (kz 6 (by decide) (by decide) (by decide))).relab (fun k q=>hG.lab 6 (by decide) (by decide) q)⟩
  rw[hkd,hlm];exact hG.box
 ·have:=(ag.sl dF h.tx).len
  rw[htx]at this;exact this
 ·obtain⟨a,c,e⟩:=(ag.sl dF ho).len
  exact⟨a,c,by rw[e];simp⟩
end
theorem sQ:∀l:List Gly,aZ l=0↔ink l=[]
 | []=>by simp[aZ,ink]
 | g::l=>by
  have ih:=sQ l;unfold aZ ink;rw[List.filter_cons]
  by_cases hg:g.1=32
  ·have e:(g.1 != 32)=false:=by simp[hg]
   rw[e]
   by_cases h0:aZ l=0
   ·rw[PZ ⟨h0,hg⟩]
    have:=ih.1 h0;unfold ink at this;simp[this]
   ·rw[PO (fun h=>h0 h.1)]
    have:¬ink l=[]:=fun e=>h0 (ih.2 e)
    unfold ink at this;simp only[Qf,Q8]
    constructor
    ·intro h;omega
    ·intro h;exact absurd h this
  ·have e:(g.1 != 32)=true:=by simp[hg]
   rw[e,PO (fun h=>hg h.2)];simp
def dW (k ln n:Int)(p:PV):NV:=⟨k,ln,n,p,aj,aj,[],aj,false,false⟩
theorem rX {S:Nat→Prop}{V:World}{k ln n:Int}{p:PV}{g:List Gly}(h:FsS S 2 aR V (pv p) g):qK S V (dW k ln n p) (.mk (cB k ln n g) []):=
 ⟨⟨rfl,rfl,rfl,h,GrS.nil S V,rfl,TrS.nil S V,rfl,rfl⟩,NsS.nil S V⟩
section
variable {BI:BIT}{TB:World→Prop}{w w0:World}{B:Nat}{s:Md}{Y:Nat→Prop}
attribute [local go_sem ↓ high] fq
def DR (s:Md)(r:aI)(g:List Gly):Md:=if r.mac≠ []∧r.args=[] then aD s 5 r.line else xq s r g
theorem aT {x:RV}(w:World):∃W1,w.alloc (.cells (ai x).toArray 33)=W1∧Below w.heap.size w W1∧Blk W1 w.heap.size 33 (ai x):=
 ⟨_,rfl,ae _ _,PK w _⟩
theorem MM.kd (h:MM BI w0 Y w B s)(I:bu BI TB):∀W,Below w.heap.size w W→W.cell? ⟨B,3,none⟩=some (.int .i64 (kdM s)):=by
 obtain⟨h1,h2,X,R,lo,b,wv,rv,tv,dv,h3,h4⟩:=h;exact fun W hb=>(h3.box.below hb).cell 3
theorem MM.wn (h:MM BI w0 Y w B s)(I:bu BI TB)(hw:s.w=none):∀W,Below w.heap.size w W→W.cell? ⟨B,2,none⟩=some (.pointer none):=by
 obtain⟨h1,h2,X,R,lo,b,wv,rv,tv,dv,h3,h4⟩:=h;have hwt:=h3.wt;rw[hw]at hwt;obtain rfl:wv=.pointer none:=hwt;exact fun W hb=>(h3.box.below hb).cell 2
theorem MM.take (I:bu BI TB)(h:MM BI w0 Y w B s){m:MWt}(hw:s.w=some m){W1:World}(hb:Below w.heap.size w W1):∃gq,W1.cell? ⟨B,2,none⟩=some (ak gq)∧(∀(i:Nat) c,(af (wH m))[i]? =some c→W1.cell? ⟨gq,i,none⟩=some c)∧
  ∀W2,Below W1.heap.size W1 W2→W2.cell? ⟨B,2,none⟩=some (ak gq)∧W2.frozen? ⟨B,2,none⟩=false∧B<w.heap.size∧ ∀V,Exc (fun k=>w.heap.size≤k) (W2.setCell ⟨B,2,none⟩ (.pointer none)) V→ ∃Y',MM BI w0 Y' V B {s with w:=none}∧Exc Y w V∧ ∀k,Y' k→Y k:=by
 obtain⟨h1,h2,X,R,lo,b,wv,rv,tv,dv,h3,h4⟩:=h;have hwt:=h3.wt;rw[hw]at hwt;obtain⟨gq,rfl,hg6,hgb⟩:=hwt;refine⟨gq,(h3.box.below hb).cell 2,fun i c hc=>by rw[(hgb.below hb).cell i];exact hc,fun W2 hb2=>?_⟩;have hs1:=hb.size;have hb3:=hb.trans (hb2.mono hb.size);have hM:=h3.keep I hb3;have hN:=hM.noWait I;refine⟨hM.box.cell 2,hM.box.frozen (by simp[mnC]),h3.box.lt,fun V hV=>?_⟩;have kk:∀S:Nat→Prop,(∀k,S k→k<w.heap.size)→Kp S (W2.setCell ⟨B,2,none⟩ (.pointer none)) V:=fun S hS k q=>hV.block k (by rw[eG];have:=hS k q;have:=hb3.size;omega) (fun z=>by have:=hS k q;omega)
 have hlo:∀k,(if lo k=6 then 0 else lo k)≠0→lo k≠0:=fun k q e=>q (by rw[PO (by omega),e])
 have hV2:=hN.keepK I (kk X (fun k q=>h3.lt I k (.inl q))) (kk R (fun k q=>h3.lt I k (.inr (.inl q)))) (kk _ (fun k q=>h3.ll k (hlo k q))) hV.size;have hE:Exc Y w V:=((Exc.of (X:=Y) hb3).trans ((Exc.refl (X:=Y) W2).set 2 (.pointer none) (g:=B) (fun _=>(h4 B).2 (.inr (by rw[h3.lb];decide)))) (fun _ _ q=>q)).trans hV (fun k hk q=>by omega);refine⟨fun k=>X k∨(if lo k=6 then 0 else lo k)≠0,⟨h1.trans (hE.below h1.size (fun k hk q=>by have:=h2 k q;omega)),fun k q=>h2 k ((h4 k).2 (q.imp id (hlo k))),X,R,_,b,_,rv,tv,dv,hV2,fun k=>RJ⟩,hE,fun k q=>(h4 k).2 (q.imp id (hlo k))⟩
theorem Mi (I:bu BI TB)(h:MM BI w0 Y w B s)(hT:TB w0){S:Nat→Prop}{ln:Int}{m text:Txt}{args:List Txt}{va:Option Addr}{vc:Nat}{ua:Option Addr}{uc:Nat}{g:List Gly}(hg:FsS S 2 aR w (.slice ua g.length uc) g)(hS:∀k,S k→k<w.heap.size∧ ¬Y k)(hb:btl s.b+g.length+10≤30000)(hgl:g.length≤30000)(hD:s.d.length≤500000)(hr:(rwM s).length≤500000)(hm:m≠ [])(ha:args=[]):
  Calls Tryz.prog 59 #[ak B,.agg (ai (ln,m,(va,args.length,vc),text)).toArray,.slice ua g.length uc] w (dK BI w0 Y w B (.tuple #[]) (aD s 5 ln)):=by
 obtain⟨W1,hW1,b1,kx⟩:=aT (x:=(ln,m,(va,args.length,vc),text)) w;have hM1:=h.keep I b1;have x0:=kx.cell 0;have x1:=kx.cell 1;have x2:=kx.cell 2;have HX0:Hid (∀V,Below W1.heap.size W1 V→V.cell? ⟨w.heap.size,0,none⟩=some (.int .i64 ln)):=zH (fun V hV=>(kx.below hV).cell 0);have HB1:=zH b1;have k3:=hM1.kd I W1 (PG _ _);have HKD:Hid (∀V,Below W1.heap.size W1 V→V.cell? ⟨B,3,none⟩=some (.int .i64 (kdM s))):=zH (hM1.kd I);have d1:=cO hm;have HT:=zH (dH I hM1 5 ln hD);subst ha;simp only[ai,bE,PD,PE,PQ]at hW1 x0 x1 x2⊢;clear h hg hS hb hgl hD hr hM1 kx b1 k3 HKD hm;go_enter Tryz.func59,Tryz.ntmps59
 go_wp2_with fail
 refine HT.out.mono ?_;rintro e w2 ⟨rfl,m2⟩;have M2:=zH (m2.pre HB1.out);clear m2;go_wp2_with fail
 go_end0;exact⟨rfl,M2.out⟩
theorem A9 (I:bu BI TB)(h:MM BI w0 Y w B s)(hT:TB w0){S:Nat→Prop}{ln:Int}{m text:Txt}{args:List Txt}{va:Option Addr}{vc:Nat}{ua:Option Addr}{uc:Nat}{g:List Gly}(hg:FsS S 2 aR w (.slice ua g.length uc) g)(hS:∀k,S k→k<w.heap.size∧ ¬Y k)(hb:btl s.b+g.length+10≤30000)(hgl:g.length≤30000)(hD:s.d.length≤500000)(hr:(rwM s).length≤500000)(hma:m=[]∨(m≠ []∧args≠ [])){v0:Int×List (List Gly)}(hv:s.v=some v0):
  Calls Tryz.prog 59 #[ak B,.agg (ai (ln,m,(va,args.length,vc),text)).toArray,.slice ua g.length uc] w (dK BI w0 Y w B (.tuple #[]) ({s with v:=some (v0.1,v0.2++ [g]) })):=by
 obtain⟨W1,hW1,b1,kx⟩:=aT (x:=(ln,m,(va,args.length,vc),text)) w;have hM1:=h.keep I b1;have x0:=kx.cell 0;have x1:=kx.cell 1;have x2:=kx.cell 2;have HX0:Hid (∀V,Below W1.heap.size W1 V→V.cell? ⟨w.heap.size,0,none⟩=some (.int .i64 ln)):=zH (fun V hV=>(kx.below hV).cell 0);have HB1:=zH b1;have k3:=hM1.kd I W1 (PG _ _);have HKD:Hid (∀V,Below W1.heap.size W1 V→V.cell? ⟨B,3,none⟩=some (.int .i64 (kdM s))):=zH (hM1.kd I);have hmf:m=[]∨((m== [])=false∧ ¬(args.length:Int)=0):=hma.imp id (fun⟨hm,ha⟩=>⟨cO hm,by have:=Qp.2 ha;omega⟩);clear hma;rcases hmf with rfl | ⟨d1,hal⟩
 all_goals
  have hkd:kdM s=6:=by unfold kdM;rw[hv]
  rw[hkd]at k3;have hrl:v0.2.length≤500000:=by unfold rwM at hr;rw[hv]at hr;exact hr
  have HR:Hid (∃ra rc ra' rc' w2,W1.cell? ⟨B,8,none⟩=some (.slice ra v0.2.length rc)∧(W1.alloc (.cells #[.slice ua g.length uc] 26)).cell? ⟨B,8,none⟩=some (.slice ra v0.2.length rc)∧(mJ #[.slice ra v0.2.length rc,.slice (some ⟨W1.heap.size,0,none⟩) 1 1]).run Tryz.prog (W1.alloc (.cells #[.slice ua g.length uc] 26))=.ok (.value (.slice ra' (v0.2.length+1) rc')) w2∧w2.cell? ⟨B,8,none⟩=some (.slice ra v0.2.length rc)∧w2.frozen? ⟨B,8,none⟩=false∧Hid (aV BI w0 Y w B {s with v:=some (v0.1,v0.2++ [g]) } (w2.setCell ⟨B,8,none⟩ (.slice ra' (v0.2.length+1) rc')))):=zH (by
   obtain⟨h1,h2,X,R,lo,b,wv,rv,tv,dv,h3,h4⟩:=h;have bl:=ae W1 (.cells #[.slice ua g.length uc] 26);have hb2:Below w.heap.size w (W1.alloc (.cells #[.slice ua g.length uc] 26)):=b1.trans (bl.mono b1.size);obtain⟨rv',w2,lo',q1,q2,q3,q4,q5,q6,⟨ra,rc,rfl⟩,⟨ra',rc',rfl⟩⟩:=h3.row I hv hb2 (p:=(ua,g.length,uc)) (hg.keep (Kp.below hb2 (fun k q=>(hS k q).1))) (fun k q=>⟨(hS k q).1,fun e=>(hS k q).2 ((h4 k).2 (.inl e)),QA fun e=>(hS k q).2 ((h4 k).2 (.inr e))⟩) (dM aX W1 26 [(ua,g.length,uc)]) hrl;refine⟨ra,rc,ra',rc',w2,(h3.box.below b1).cell 8,(h3.box.below hb2).cell 8,q1,q2,q3,zH (MM.aft h1 h2 ?_ q4 (fun k q=> .inl ((h4 k).2 (.inl q))) (fun k q=>(q6 k q).imp (fun z=>(h4 k).2 (.inr z)) (fun z=>PY hb2.size z)))⟩;exact(Exc.of (X:=Y) hb2).trans (q5.mono (Y:=Y) (fun k _ q=>(h4 k).2 (.inr q))) (fun _ _ q=>q))
  obtain⟨ra,rc,ra',rc',w2,c8,c8',hrun,q8,f8,HF⟩:=HR.out;obtain⟨nv,hnv⟩:∃n,v0.2.length=n:=⟨_,rfl⟩;obtain⟨ng,hng⟩:∃n,g.length=n:=⟨_,rfl⟩;rw[hnv]at c8 c8' hrun q8 HF;rw[hng]at c8' hrun;rw[hng];simp only[ai,bE,PD,PE,PQ]at hW1 x0 x1 x2⊢;clear h hg hS hb hgl hD hr hM1 kx b1 HKD HR hkd hrl hnv hng;go_enter Tryz.func59,Tryz.ntmps59
  go_wp2_with fail
  go_end0;exact⟨rfl,HF.out⟩
theorem A8 (I:bu BI TB)(h:MM BI w0 Y w B s)(hT:TB w0){S:Nat→Prop}{ln:Int}{m text:Txt}{args:List Txt}{va:Option Addr}{vc:Nat}{ua:Option Addr}{uc:Nat}{g:List Gly}(hg:FsS S 2 aR w (.slice ua g.length uc) g)(hS:∀k,S k→k<w.heap.size∧ ¬Y k)(hb:btl s.b+g.length+10≤30000)(hgl:g.length≤30000)(hD:s.d.length≤500000)(hr:(rwM s).length≤500000)(hma:m=[]∨(m≠ []∧args≠ []))(hv:s.v=none)(hv2:s.g=none){m0:MWt}(hw:s.w=some m0):
  Calls Tryz.prog 59 #[ak B,.agg (ai (ln,m,(va,args.length,vc),text)).toArray,.slice ua g.length uc] w (dK BI w0 Y w B (.tuple #[]) (dh {s with w:=none} (cB m0.kind m0.line m0.n g))):=by
 obtain⟨W1,hW1,b1,kx⟩:=aT (x:=(ln,m,(va,args.length,vc),text)) w;have hM1:=h.keep I b1;have x0:=kx.cell 0;have x1:=kx.cell 1;have x2:=kx.cell 2;have HX0:Hid (∀V,Below W1.heap.size W1 V→V.cell? ⟨w.heap.size,0,none⟩=some (.int .i64 ln)):=zH (fun V hV=>(kx.below hV).cell 0);have HB1:=zH b1;have k3:=hM1.kd I W1 (PG _ _);have HKD:Hid (∀V,Below W1.heap.size W1 V→V.cell? ⟨B,3,none⟩=some (.int .i64 (kdM s))):=zH (hM1.kd I);have hmf:m=[]∨((m== [])=false∧ ¬(args.length:Int)=0):=hma.imp id (fun⟨hm,ha⟩=>⟨cO hm,by have:=Qp.2 ha;omega⟩);clear hma;rcases hmf with rfl | ⟨d1,hal⟩
 all_goals
  have hkd:kdM s=0:=by unfold kdM;rw[hv,hv2]
  rw[hkd]at k3;obtain⟨gq,c2,hcg,hW⟩:=h.take I hw b1;have hb2:=ae W1 (.cells #[.int .i64 m0.kind,.int .i64 m0.line,.int .i64 m0.n,.slice none 0 0,.slice none 0 0,.slice none 0 0,.string ⟨#[]⟩,.slice none 0 0,.bool false,.bool false] 58);obtain⟨c2',f2',hBl,hV⟩:=hW _ hb2;have hBk:Blk (W1.alloc (.cells #[.int .i64 m0.kind,.int .i64 m0.line,.int .i64 m0.n,.slice none 0 0,.slice none 0 0,.slice none 0 0,.string ⟨#[]⟩,.slice none 0 0,.bool false,.bool false] 58)) W1.heap.size 58 (af (wH m0)):=PK W1 _;have hBne:W1.heap.size≠B:=fun e=>by have:=b1.size;omega
  have hs1:=b1.size;have hBk3:Blk (((W1.alloc (.cells #[.int .i64 m0.kind,.int .i64 m0.line,.int .i64 m0.n,.slice none 0 0,.slice none 0 0,.slice none 0 0,.string ⟨#[]⟩,.slice none 0 0,.bool false,.bool false] 58)).setCell ⟨B,2,none⟩ (.pointer none)).setCell ⟨W1.heap.size,3,none⟩ (.slice ua g.length uc)) W1.heap.size 58 (af (dW m0.kind m0.line m0.n (ua,g.length,uc))):=
   Blk.set (L:=af (wH m0)) (Exc.blk ((Exc.refl (X:=fun k=>k=B) (W1.alloc (.cells #[.int .i64 m0.kind,.int .i64 m0.line,.int .i64 m0.n,.slice none 0 0,.slice none 0 0,.slice none 0 0,.string ⟨#[]⟩,.slice none 0 0,.bool false,.bool false] 58))).set 2 (.pointer none) (g:=B) (fun _=>rfl)) hBk hBne) 3 (.slice ua g.length uc)
  obtain⟨Y',hM',hE',hY'⟩:=hV (((W1.alloc (.cells #[.int .i64 m0.kind,.int .i64 m0.line,.int .i64 m0.n,.slice none 0 0,.slice none 0 0,.slice none 0 0,.string ⟨#[]⟩,.slice none 0 0,.bool false,.bool false] 58)).setCell ⟨B,2,none⟩ (.pointer none)).setCell ⟨W1.heap.size,3,none⟩ (.slice ua g.length uc)) ((Exc.refl _ _).set 3 _ (fun _=>hs1));have HO:Hid (Calls Tryz.prog 86 #[ak B,.agg #[.int .i64 m0.kind,.int .i64 m0.line,.int .i64 m0.n,.slice ua g.length uc,.slice none 0 0,.slice none 0 0,.string ⟨#[]⟩,.slice none 0 0,.bool false,.bool false]] (((W1.alloc (.cells #[.int .i64 m0.kind,.int .i64 m0.line,.int .i64 m0.n,.slice none 0 0,.slice none 0 0,.slice none 0 0,.string ⟨#[]⟩,.slice none 0 0,.bool false,.bool false] 58)).setCell ⟨B,2,none⟩ (.pointer none)).setCell ⟨W1.heap.size,3,none⟩ (.slice ua g.length uc)) (dK BI w0 Y w B (.tuple #[]) (dh {s with w:=none} (cB m0.kind m0.line m0.n g)))):=zH (by
   have hbl:btl s.b+nlN (.mk (cB m0.kind m0.line m0.n g) [])≤30000:=by
    have:nlN (.mk (cB m0.kind m0.line m0.n g) [])=3+g.length:=by simp[nlN,nlL,hdl,cB,bS,lens,cZ]
    omega
   have hgV:FsS S 2 aR (((W1.alloc (.cells #[.int .i64 m0.kind,.int .i64 m0.line,.int .i64 m0.n,.slice none 0 0,.slice none 0 0,.slice none 0 0,.string ⟨#[]⟩,.slice none 0 0,.bool false,.bool false] 58)).setCell ⟨B,2,none⟩ (.pointer none)).setCell ⟨W1.heap.size,3,none⟩ (.slice ua g.length uc)) (.slice ua g.length uc) g:=hg.keep (fun k q=>hE'.block k (hS k q).1 (hS k q).2);refine(qo I hM' hT (S:=S) (x:=dW m0.kind m0.line m0.n (ua,g.length,uc)) (rX hgV) (fun k q=>⟨PH (hS k q).1 hE'.size,fun e=>(hS k q).2 (hY' k e)⟩) hbl hD).mono ?_;rintro e w' ⟨rfl,m1⟩;exact⟨rfl,aV.trans hE' (fun k q=> .inl (hY' k q)) m1⟩)
  have g0:=hcg 0 _ rfl;have g1:=hcg 1 _ rfl;have g2:=hcg 2 _ rfl;have g3:=hcg 3 _ rfl;have g4:=hcg 4 _ rfl;have g5:=hcg 5 _ rfl;have g6:=hcg 6 _ rfl;have g7:=hcg 7 _ rfl;have g8:=hcg 8 _ rfl;have g9:=hcg 9 _ rfl;have y0:=hBk3.cell 0;have y1:=hBk3.cell 1;have y2:=hBk3.cell 2;have y3:=hBk3.cell 3;have y4:=hBk3.cell 4;have y5:=hBk3.cell 5;have y6:=hBk3.cell 6;have y7:=hBk3.cell 7;have y8:=hBk3.cell 8;have y9:=hBk3.cell 9;have yf:(W1.alloc (.cells #[.int .i64 m0.kind,.int .i64 m0.line,.int .i64 m0.n,.slice none 0 0,.slice none 0 0,.slice none 0 0,.string ⟨#[]⟩,.slice none 0 0,.bool false,.bool false] 58)).frozen? ⟨W1.heap.size,3,none⟩=false:=hBk.frozen (by simp[af]);simp only[af,wH,dW,pv,PD,PE]at g0 y0 g1 y1 g2 y2 g3 y3 g4 y4 g5 y5 g6 y6 g7 y7 g8 y8 g9 y9;simp only[ai,bE,PD,PE,PQ]at hW1 x0 x1 x2⊢;clear h hg hS hb hgl hD hr hM1 kx b1 HKD hkd hv hv2 hw hW hb2 hV hBk hM' hE' hY' hcg hBk3;go_enter Tryz.func59,Tryz.ntmps59
  go_wp2_with fail
  refine HO.out.mono ?_;rintro e w2 ⟨rfl,m2⟩;have M2:=zH m2;clear m2;go_wp2_with fail
  go_end0;exact⟨rfl,M2.out⟩
theorem Mh (I:bu BI TB)(h:MM BI w0 Y w B s)(hT:TB w0){S:Nat→Prop}{ln:Int}{m text:Txt}{args:List Txt}{va:Option Addr}{vc:Nat}{ua:Option Addr}{uc:Nat}{g:List Gly}(hg:FsS S 2 aR w (.slice ua g.length uc) g)(hS:∀k,S k→k<w.heap.size∧ ¬Y k)(hb:btl s.b+g.length+10≤30000)(hgl:g.length≤30000)(hD:s.d.length≤500000)(hr:(rwM s).length≤500000)(hm:m=[])(hv:s.v=none)(hv2:s.g=none)(hw:s.w=none)(hi:ink g=[]):
  Calls Tryz.prog 59 #[ak B,.agg (ai (ln,m,(va,args.length,vc),text)).toArray,.slice ua g.length uc] w (dK BI w0 Y w B (.tuple #[]) ({s with b:=bM s.b})):=by
 obtain⟨W1,hW1,b1,kx⟩:=aT (x:=(ln,m,(va,args.length,vc),text)) w;have hM1:=h.keep I b1;have x0:=kx.cell 0;have x1:=kx.cell 1;have x2:=kx.cell 2;have HX0:Hid (∀V,Below W1.heap.size W1 V→V.cell? ⟨w.heap.size,0,none⟩=some (.int .i64 ln)):=zH (fun V hV=>(kx.below hV).cell 0);have HB1:=zH b1;have k3:=hM1.kd I W1 (PG _ _);have HKD:Hid (∀V,Below W1.heap.size W1 V→V.cell? ⟨B,3,none⟩=some (.int .i64 (kdM s))):=zH (hM1.kd I);subst hm;have hkd:kdM s=0:=by unfold kdM;rw[hv,hv2]
 rw[hkd]at k3 HKD;have c2:=hM1.wn I hw W1 (PG _ _);have HC2:Hid (∀V,Below W1.heap.size W1 V→V.cell? ⟨B,2,none⟩=some (.pointer none)):=zH (hM1.wn I hw);obtain⟨b,X,R,cb,hXY,hBI,hAF⟩:=hM1.call I hT;have HCB:Hid (∀V,Below W1.heap.size W1 V→V.cell? ⟨B,0,none⟩=some (ak b)):=zH (fun V hV=>(hBI V hV).2.2);have HE:Hid (∀V,Below W1.heap.size W1 V→Calls Tryz.prog 63 #[ak b] V fun e w'=>e=.returned (.tuple #[])∧aV BI w0 Y w B {s with b:=bM s.b} w'):=zH (fun V hV=>by
  refine(I.nd (hBI V hV).1 (hBI V hV).2.1 (by omega)).mono ?_;rintro e w' ⟨rfl,ha⟩;exact⟨rfl,(hAF _ _ V w' hV (fun k q=>q.elim) ha).pre b1⟩)
 have HTR:=zH (sS g (.slice ua g.length uc) W1 ((hg.keep (Kp.below b1 (fun k q=>(hS k q).1))).1) (by omega));have htn:=qa g;have ht0:aZ g=0:=(sQ g).2 hi;rw[ht0]at htn;simp only[ai,bE,PD,PE,PQ]at hW1 x0 x1 x2⊢;clear h hg hS hb hgl hD hr hM1 kx b1 hkd hv hv2 hw hBI hAF hXY hi ht0;go_enter Tryz.func59,Tryz.ntmps59
 go_wp2_with fail
 refine HTR.out.mono ?_;rintro e w2 ⟨u,rfl,o1,b2⟩;obtain⟨ta,tc,rfl⟩:=(ag.sl ah o1).len;rw[htn]at o1⊢;have cb2:=HCB.out w2 b2;have c22:=HC2.out w2 b2;have x02:=HX0.out w2 b2;have B2:=zH b2;clear o1 b2 HTR HCB HC2 HX0 HKD;go_wp2_with fail
 refine(HE.out w2 B2.out).mono ?_;rintro e w3 ⟨rfl,m2⟩;have M2:=zH m2;clear m2;go_wp2_with fail
 go_end0;exact⟨rfl,M2.out⟩
theorem QUb {P:Prop}(h:P:=by
 have hb2:=b1.trans (hV.mono b1.size);refine(I.text (S:=S) g ln (hBI V hV).1 (hBI V hV).2.1 (hg.keep (Kp.below hb2 (fun k q=>(hS k q).1))) (fun k q=>⟨PH (hS k q).1 hb2.size,fun e=>(hS k q).2 (hXY k e)⟩) (by omega)).mono ?_;rintro e w' ⟨rfl,ha⟩;exact⟨rfl,(hAF S _ V w' hV (fun k q=>(hS k q).2) ha).pre b1⟩):P:=h
theorem Dj (I:bu BI TB)(h:MM BI w0 Y w B s)(hT:TB w0){S:Nat→Prop}{ln:Int}{m text:Txt}{args:List Txt}{va:Option Addr}{vc:Nat}{ua:Option Addr}{uc:Nat}{g:List Gly}(hg:FsS S 2 aR w (.slice ua g.length uc) g)(hS:∀k,S k→k<w.heap.size∧ ¬Y k)(hb:btl s.b+g.length+10≤30000)(hgl:g.length≤30000)(hD:s.d.length≤500000)(hr:(rwM s).length≤500000)(hm:m=[])(hv:s.v=none)(hv2:s.g=none)(hw:s.w=none)(hi:ink g≠ []):
  Calls Tryz.prog 59 #[ak B,.agg (ai (ln,m,(va,args.length,vc),text)).toArray,.slice ua g.length uc] w (dK BI w0 Y w B (.tuple #[]) ({s with b:=iA s.b g ln})):=by
 obtain⟨W1,hW1,b1,kx⟩:=aT (x:=(ln,m,(va,args.length,vc),text)) w;have hM1:=h.keep I b1;have x0:=kx.cell 0;have x1:=kx.cell 1;have x2:=kx.cell 2;have HX0:Hid (∀V,Below W1.heap.size W1 V→V.cell? ⟨w.heap.size,0,none⟩=some (.int .i64 ln)):=zH (fun V hV=>(kx.below hV).cell 0);have HB1:=zH b1;have k3:=hM1.kd I W1 (PG _ _);have HKD:Hid (∀V,Below W1.heap.size W1 V→V.cell? ⟨B,3,none⟩=some (.int .i64 (kdM s))):=zH (hM1.kd I);subst hm;have hkd:kdM s=0:=by unfold kdM;rw[hv,hv2]
 rw[hkd]at k3 HKD;have c2:=hM1.wn I hw W1 (PG _ _);have HC2:Hid (∀V,Below W1.heap.size W1 V→V.cell? ⟨B,2,none⟩=some (.pointer none)):=zH (hM1.wn I hw);obtain⟨b,X,R,cb,hXY,hBI,hAF⟩:=hM1.call I hT;have HCB:Hid (∀V,Below W1.heap.size W1 V→V.cell? ⟨B,0,none⟩=some (ak b)):=zH (fun V hV=>(hBI V hV).2.2);have HE:Hid (∀V,Below W1.heap.size W1 V→Calls Tryz.prog 92 #[ak b,.slice ua g.length uc,.int .i64 ln] V fun e w'=>e=.returned (.tuple #[])∧aV BI w0 Y w B {s with b:=iA s.b g ln} w'):=zH (fun V hV=>by
  exact QUb)
 have HTR:=zH (sS g (.slice ua g.length uc) W1 ((hg.keep (Kp.below b1 (fun k q=>(hS k q).1))).1) (by omega));have htn:=qa g;have ht0:¬aZ g=0:=fun e=>hi ((sQ g).1 e)
 obtain⟨tn,htt⟩:∃n,aZ g=n:=⟨_,rfl⟩;rw[htt]at htn ht0;have ht1:¬(tn:Int)=0:=by omega
 simp only[ai,bE,PD,PE,PQ]at hW1 x0 x1 x2⊢;clear h hg hS hb hgl hD hr hM1 kx b1 hkd hv hv2 hw hBI hAF hXY hi htt;go_enter Tryz.func59,Tryz.ntmps59
 go_wp2_with fail
 refine HTR.out.mono ?_;rintro e w2 ⟨u,rfl,o1,b2⟩;obtain⟨ta,tc,rfl⟩:=(ag.sl ah o1).len;rw[htn]at o1⊢;have cb2:=HCB.out w2 b2;have c22:=HC2.out w2 b2;have x02:=HX0.out w2 b2;have B2:=zH b2;clear o1 b2 HTR HCB HC2 HX0 HKD;go_wp2_with fail
 go_still_tail 7,(by kernel_rfl)
 change wpList _ _ _ _ _ w2.drew;have HE2:=zH (HE.out w2.drew (B2.out.drew));go_wp2_with fail
 refine HE2.out.mono ?_;rintro e w3 ⟨rfl,m2⟩;have M2:=zH m2;clear m2;go_wp2_with fail
 go_end0;exact⟨rfl,M2.out⟩
theorem Dk (I:bu BI TB)(h:MM BI w0 Y w B s)(hT:TB w0){S:Nat→Prop}{ln:Int}{m text:Txt}{args:List Txt}{va:Option Addr}{vc:Nat}{ua:Option Addr}{uc:Nat}{g:List Gly}(hg:FsS S 2 aR w (.slice ua g.length uc) g)(hS:∀k,S k→k<w.heap.size∧ ¬Y k)(hb:btl s.b+g.length+10≤30000)(hgl:g.length≤30000)(hD:s.d.length≤500000)(hr:(rwM s).length≤500000)(hm:m≠ [])(ha:args≠ [])(hv:s.v=none)(hv2:s.g=none)(hw:s.w=none):
  Calls Tryz.prog 59 #[ak B,.agg (ai (ln,m,(va,args.length,vc),text)).toArray,.slice ua g.length uc] w (dK BI w0 Y w B (.tuple #[]) ({s with b:=iA s.b g ln})):=by
 obtain⟨W1,hW1,b1,kx⟩:=aT (x:=(ln,m,(va,args.length,vc),text)) w;have hM1:=h.keep I b1;have x0:=kx.cell 0;have x1:=kx.cell 1;have x2:=kx.cell 2;have HX0:Hid (∀V,Below W1.heap.size W1 V→V.cell? ⟨w.heap.size,0,none⟩=some (.int .i64 ln)):=zH (fun V hV=>(kx.below hV).cell 0);have HB1:=zH b1;have k3:=hM1.kd I W1 (PG _ _);have HKD:Hid (∀V,Below W1.heap.size W1 V→V.cell? ⟨B,3,none⟩=some (.int .i64 (kdM s))):=zH (hM1.kd I);have d1:=cO hm;have hal:¬(args.length:Int)=0:=by have:=Qp.2 ha;omega
 have hkd:kdM s=0:=by unfold kdM;rw[hv,hv2]
 rw[hkd]at k3 HKD;have c2:=hM1.wn I hw W1 (PG _ _);have HC2:Hid (∀V,Below W1.heap.size W1 V→V.cell? ⟨B,2,none⟩=some (.pointer none)):=zH (hM1.wn I hw);obtain⟨b,X,R,cb,hXY,hBI,hAF⟩:=hM1.call I hT;have HCB:Hid (∀V,Below W1.heap.size W1 V→V.cell? ⟨B,0,none⟩=some (ak b)):=zH (fun V hV=>(hBI V hV).2.2);have HE:Hid (∀V,Below W1.heap.size W1 V→Calls Tryz.prog 92 #[ak b,.slice ua g.length uc,.int .i64 ln] V fun e w'=>e=.returned (.tuple #[])∧aV BI w0 Y w B {s with b:=iA s.b g ln} w'):=zH (fun V hV=>by
  exact QUb)
 simp only[ai,bE,PD,PE,PQ]at hW1 x0 x1 x2⊢;clear h hg hS hb hgl hD hr hM1 kx b1 hkd hv hv2 hw hBI hAF hXY ha;go_enter Tryz.func59,Tryz.ntmps59
 go_wp2_with fail
 go_still_tail 7,(by kernel_rfl)
 change wpList _ _ _ _ _ W1.drew;have HE2:=zH (HE.out W1.drew ((PG _ W1).drew));go_wp2_with fail
 refine HE2.out.mono ?_;rintro e w3 ⟨rfl,m2⟩;have M2:=zH m2;clear m2;go_wp2_with fail
 go_end0;exact⟨rfl,M2.out⟩
theorem A7 (I:bu BI TB)(h:MM BI w0 Y w B s)(hT:TB w0)(hg0:s.g=none){S:Nat→Prop}{x:RV}{r:aI}(hx:iO w x r){u:Value}{g:List Gly}(hg:FsS S 2 aR w u g)(hS:∀k,S k→k<w.heap.size∧ ¬Y k)(hb:btl s.b+g.length+10≤30000)(hgl:g.length≤30000)(hD:s.d.length≤500000)(hr:(rwM s).length≤500000):
  Calls Tryz.prog 59 #[ak B,.agg (ai x).toArray,u] w (dK BI w0 Y w B (.tuple #[]) (DR s r g)):=by
 obtain⟨ln,m,args,text⟩:=r;obtain⟨xl,xm,⟨va,vn,vc⟩,xt⟩:=x;obtain⟨h1,h2,h3,h4⟩:=hx;simp only[bE]at h1 h2 h3 h4;subst h1 h2 h3;obtain⟨a',c',e⟩:=h4.len;injection e with e1 e2 e3
 subst e1 e2 e3;obtain⟨ua,uc,rfl⟩:=hg.1.len;unfold DR xq;simp only
 by_cases hm:xm=[]
 ·rw[PO (fun q=>q.1 hm)]
  cases hv:s.v with
  | some v0=>exact A9 I h hT hg hS hb hgl hD hr (.inl hm) hv
  | none=>
   cases hw:s.w with
   | some m0=>
    have:=A8 I h hT (ln:=xl) (text:=xt) (args:=args) (va:=va) (vc:=vc) hg hS hb hgl hD hr (.inl hm) hv hg0 hw;rw[hv]at this;exact this
   | none=>
    by_cases hi:ink g=[]
    ·simp only
     rw[PZ ⟨hm,hi⟩];have:=Mh I h hT (ln:=xl) (text:=xt) (args:=args) (va:=va) (vc:=vc) hg hS hb hgl hD hr hm hv hg0 hw hi;rw[hv,hw]at this;exact this
    ·simp only
     rw[PO (fun q=>hi q.2)];have:=Dj I h hT (ln:=xl) (text:=xt) (args:=args) (va:=va) (vc:=vc) hg hS hb hgl hD hr hm hv hg0 hw hi;rw[hv,hw]at this;exact this
 ·by_cases ha:args=[]
  ·rw[PZ ⟨hm,ha⟩]
   exact Mi I h hT hg hS hb hgl hD hr hm ha
  ·rw[PO (fun q=>ha q.2)]
   cases hv:s.v with
   | some v0=>exact A9 I h hT hg hS hb hgl hD hr (.inr ⟨hm,ha⟩) hv
   | none=>
    cases hw:s.w with
    | some m0=>
     have:=A8 I h hT (ln:=xl) (text:=xt) (args:=args) (va:=va) (vc:=vc) hg hS hb hgl hD hr (.inr ⟨hm,ha⟩) hv hg0 hw;rw[hv]at this;exact this
    | none=>
     simp only;rw[PO (fun q=>hm q.1)];have:=Dk I h hT (ln:=xl) (text:=xt) (args:=args) (va:=va) (vc:=vc) hg hS hb hgl hD hr hm ha hv hg0 hw;rw[hv,hw]at this;exact this
end
def lI (s:Md)(r:aI):Md×Bool:=match s.g with
 | some g=>if r.mac=[] then({s with g:=some (g.1,g.2++ [r.text]) },true) else(s,false)
 | none=>match fP r with
  | some q=>(DR {s with d:=s.d++aY r.line q.2} r q.1,true)
  | none=>(s,false)
theorem KZ {W W':World}{args:Array Value}{v:Value}(h:(rR args).run Tryz.prog W=.ok (.value v) W'):(Builtin.append_ #[22,22] 22 args).run Tryz.prog W=.ok v W':=by
 unfold rR at h;simp only[QD,QG]at h
 cases k:(Builtin.append_ #[22,22] 22 args).run Tryz.prog W with
 | ok v' w'=>rw[k]at h;simp only[Qm]at h;injection h with h1 h2;injection h1 with h1;rw[h1,h2]
 | _=>rw[k]at h;simp[Result.andThen]at h
section
variable {BI:BIT}{TB:World→Prop}{w w0:World}{B:Nat}{s:Md}{Y:Nat→Prop}
attribute [local go_sem ↓ high] bH
theorem Dh (I:bu BI TB)(h:MM BI w0 Y w B s){g0:Int×List Txt}(hv:s.g=some g0){ln:Int}{text:Txt}{va:Option Addr}{vn vc:Nat}(hl:g0.2.length≤500000):
  Calls Tryz.prog 26 #[ak B,.agg (ai (ln,[],(va,vn,vc),text)).toArray] w (dK BI w0 Y w B (.bool true) {s with g:=some (g0.1,g0.2++ [text]) }):=by
 obtain⟨W1,hW1,b1,kx⟩:=aT (x:=(ln,[],(va,vn,vc),text)) w;have x1:=kx.cell 1;have x3:=kx.cell 3;have hvn:s.v=none:=by obtain⟨-,-,X,R,lo,b,wv,rv,tv,dv,h3,-⟩:=h;exact h3.ok.vg.resolve_right (by rw[hv];simp)
 have k3:=(h.keep I b1).kd I W1 (PG _ _);have hkd:kdM s=7:=by unfold kdM;rw[hvn,hv]
 rw[hkd]at k3;have hR:∃ta tc ta' tc' w2,W1.cell? ⟨B,13,none⟩=some (.slice ta g0.2.length tc)∧(W1.alloc (.cells #[.string ⟨text.toArray⟩] 9)).drew.cell? ⟨B,13,none⟩=some (.slice ta g0.2.length tc)∧(rR #[.slice ta g0.2.length tc,.slice (some ⟨W1.heap.size,0,none⟩) 1 1]).run Tryz.prog (W1.alloc (.cells #[.string ⟨text.toArray⟩] 9)).drew=.ok (.value (.slice ta' (g0.2.length+1) tc')) w2∧w2.cell? ⟨B,13,none⟩=some (.slice ta g0.2.length tc)∧w2.frozen? ⟨B,13,none⟩=false∧
   Hid (aV BI w0 Y w B {s with g:=some (g0.1,g0.2++ [text]) } (w2.setCell ⟨B,13,none⟩ (.slice ta' (g0.2.length+1) tc')))∧Hid (w.heap.size≠B∧w2.cell? ⟨w.heap.size,1,none⟩=some (.string ⟨#[]⟩)):=by
  obtain⟨h1,h2,X,R,lo,b,wv,rv,tv,dv,h3,h4⟩:=h;have bl:=ae W1 (.cells #[.string ⟨text.toArray⟩] 9);have hb2:Below w.heap.size w (W1.alloc (.cells #[.string ⟨text.toArray⟩] 9)).drew:=(b1.trans (bl.mono b1.size)).drew;have hfs:Ss (W1.alloc (.cells #[.string ⟨text.toArray⟩] 9)).drew (.slice (some ⟨W1.heap.size,0,none⟩) 1 1) [text]:=Fs.below (dM dF W1 9 [text]) (PG _ _).drew;obtain⟨tv',w2,lo',q1,q2,q3,q4,q5,q6,⟨ta,tc,rfl⟩,⟨ta',tc',rfl⟩⟩:=h3.txt I hv hb2 hfs hl;refine⟨ta,tc,ta',tc',w2,(h3.box.below b1).cell 13,(h3.box.below hb2).cell 13,q1,q2,q3,zH (MM.aft h1 h2 ?_ q4 (fun k q=> .inl ((h4 k).2 (.inl q))) (fun k q=>(q6 k q).imp (fun z=>(h4 k).2 (.inr z)) (fun z=>PY hb2.size z))),zH ⟨fun e=>?_,?_⟩⟩
  ·exact(Exc.of (X:=Y) hb2).trans (q5.mono (Y:=Y) (fun k _ q=>(h4 k).2 (.inr q))) (fun _ _ q=>q)
  ·have:=h3.box.lt;omega
  ·have hx:=kx.below (bl.drew)
   have hne:¬lo w.heap.size≠0:=fun e=>by have:=h3.ll _ e;omega
   have hne2:w.heap.size≠B:=fun e=>by have:=h3.box.lt;omega
   have e1:=q5.blk hx hne;have e2:w2.heap[w.heap.size]? =(w2.setCell ⟨B,13,none⟩ (.slice ta' (g0.2.length+1) tc')).heap[w.heap.size]? :=(PN _ ⟨B,13,none⟩ _ _ hne2).symm;have e3:Blk w2 w.heap.size 33 (ai (ln,[],(va,vn,vc),text)):=e2.trans e1;exact e3.cell 1
 obtain⟨ta,tc,ta',tc',w2,c13,c13',hrun,q13,f13,HF,HY⟩:=hR;have kk:=KZ hrun;obtain⟨n,hn⟩:∃n,g0.2.length=n:=⟨_,rfl⟩;rw[hn]at c13 c13' kk q13 HF;have hne:=HY.out.1;have y1:=HY.out.2;have z1:(w2.setCell ⟨B,13,none⟩ (.slice ta' (n+1) tc')).cell? ⟨w.heap.size,1,none⟩=some (.string ⟨#[]⟩):=(Qh (PN w2 ⟨B,13,none⟩ (.slice ta' (n+1) tc') w.heap.size hne)).trans y1;simp only[ai,bE,PD,PE]at hW1 x1 x3⊢;clear h kx b1 hkd hvn hl hn hrun HY hv;go_enter Tryz.func26,Tryz.ntmps26
 go_wp2_with fail
 go_region_law ((refine bI rfl (.tmp 21) (.tmp 24) 22 22 rfl _ _ rfl rfl kk ?_))
 all_goals
  go_wp2_with fail
  go_ret;exact⟨rfl,HF.out⟩
theorem MM.refl (h:MM BI w0 Y w B s):aV BI w0 Y w B s w:=⟨Y,h,Exc.refl _ _,fun k q=> .inl q⟩
theorem Gx (I:bu BI TB)(h:MM BI w0 Y w B s){g0:Int×List Txt}(hv:s.g=some g0){ln:Int}{m text:Txt}(hm:m≠ []){va:Option Addr}{vn vc:Nat}:
  Calls Tryz.prog 26 #[ak B,.agg (ai (ln,m,(va,vn,vc),text)).toArray] w (dK BI w0 Y w B (.bool false) s):=by
 obtain⟨W1,hW1,b1,kx⟩:=aT (x:=(ln,m,(va,vn,vc),text)) w;have x1:=kx.cell 1;have hvn:s.v=none:=by obtain⟨-,-,X,R,lo,b,wv,rv,tv,dv,h3,-⟩:=h;exact h3.ok.vg.resolve_right (by rw[hv];simp)
 have hM1:=h.keep I b1;have k3:=hM1.kd I W1 (PG _ _);have hkd:kdM s=7:=by unfold kdM;rw[hvn,hv]
 rw[hkd]at k3;have d1:=cO hm;have HF:=zH ((MM.refl hM1).pre b1);simp only[ai,bE,PD,PE]at hW1 x1⊢;clear h kx b1 hkd hvn hv hM1 hm;go_enter Tryz.func26,Tryz.ntmps26
 go_wp2_with fail
 go_ret;exact⟨rfl,HF.out⟩
theorem Gy (I:bu BI TB)(h:MM BI w0 Y w B s)(hT:TB w0)(hv:s.g=none){x:RV}{r:aI}(hx:iO w0 x r)(hl:fJ r){q:List Gly×List (Int×Int)}(hq:fP r=some q)(hb:btl s.b+q.1.length+10≤30000)(hgl:q.1.length≤30000)(hql:q.2.length≤90000)(hD:s.d.length≤400000)(hr:(rwM s).length≤500000):
  Calls Tryz.prog 26 #[ak B,.agg (ai x).toArray] w (dK BI w0 Y w B (.bool true) (DR {s with d:=s.d++aY r.line q.2} r q.1)):=by
 obtain⟨W1,hW1,b1,kx⟩:=aT (x:=x) w;have hM1:=h.keep I b1;have k3:=hM1.kd I W1 (PG _ _);have hk7:¬kdM s=7:=by unfold kdM;rw[hv];cases s.v<;>simp
 have hYl:=h.lt I;have hwb:Below w0.heap.size w0 W1:=h.1.trans (b1.mono h.1.size);have hx1:iO W1 x r:=⟨hx.line,hx.mac,hx.text,Fs.below hx.args hwb⟩;have HI:=zH (qW x r W1 hx1 hl);unfold fK at HI;rw[hq]at HI;simp only[QW,Q6]at HI;have HM:Hid (∀xx d w2,aW W1.heap.size w2 xx q.1→bG W1.heap.size w2 d (aY r.line q.2)→Below W1.heap.size W1 w2→ ∃da dc da' m' dc' w3,w2.cell? ⟨B,14,none⟩=some (.slice da s.d.length dc)∧(gQ #[.slice da s.d.length dc,d]).run Tryz.prog w2=.ok (.value (.slice da' m' dc')) w3∧w3.cell? ⟨B,14,none⟩=some (.slice da s.d.length dc)∧w3.frozen? ⟨B,14,none⟩=false∧
   (∀(i:Nat) u,(ai x)[i]? =some u→w2.cell? ⟨w.heap.size,i,none⟩=some u∧(w3.setCell ⟨B,14,none⟩ (.slice da' m' dc')).cell? ⟨w.heap.size,i,none⟩=some u)∧
   Hid (Calls Tryz.prog 59 #[ak B,.agg (ai x).toArray,xx] (w3.setCell ⟨B,14,none⟩ (.slice da' m' dc')) (dK BI w0 Y w B (.tuple #[]) (DR {s with d:=s.d++aY r.line q.2} r q.1)))):=zH (fun xx d w2 o1 o2 hb2=>by
  obtain⟨dv,dv',w3,p1,-,p2,p3,p4,⟨Y',S,hM,hE,hY',hg,hS⟩,⟨da,dc,rfl⟩,⟨da',dc',rfl⟩⟩:=hM1.more I hb2 (ag.sl ax o2) o1 (by unfold aY;simp;omega);have hs1:=b1.size;refine⟨da,dc,da',_,dc',w3,p1,p2,p3,p4,fun i u hu=>⟨by rw[(kx.below hb2).cell i];exact hu,?_⟩,zH ?_⟩
  ·have hxe:¬Y w.heap.size:=fun e=>by have:=hYl _ e;omega
   rw[(hE.blk kx hxe).cell i];exact hu
  ·have hxF:iO (w3.setCell ⟨B,14,none⟩ (.slice da' (s.d++aY r.line q.2).length dc')) x r:=⟨hx.line,hx.mac,hx.text,Fs.below hx.args hM.1⟩
   refine(A7 I hM hT hv hxF hg (fun k z=>⟨(hS k z).2.1,(hS k z).2.2⟩) hb hgl (by simp[aY];omega) hr).mono ?_;rintro e w' ⟨rfl,m1⟩;exact⟨rfl,(aV.trans hE hY' m1).pre b1⟩)
 obtain⟨sf,hsf⟩:∃sf,DR {s with d:=s.d++aY r.line q.2} r q.1=sf:=⟨_,rfl⟩;obtain⟨kd,hkd⟩:∃k,kdM s=k:=⟨_,rfl⟩;have HX:Hid (∀(i:Nat) u,(ai x)[i]? =some u→W1.cell? ⟨w.heap.size,i,none⟩=some u):=zH (fun i u hu=>by rw[kx.cell i];exact hu);rw[hsf]at HM⊢;rw[hkd]at k3 hk7;obtain⟨n,hn⟩:∃n,s.d.length=n:=⟨_,rfl⟩;rw[hn]at HM;obtain⟨xl,xm,⟨va,vn,vc⟩,xt⟩:=x;simp only[ai,bE]at hW1 HI HM HX⊢;have x0:=HX.out 0 _ rfl;have x1:=HX.out 1 _ rfl;have x2:=HX.out 2 _ rfl;have x3:=HX.out 3 _ rfl;clear h hx hl hq hb hgl hql hD hr hM1 hYl hwb hx1 kx b1 hsf hkd hn hv HX;go_enter Tryz.func26,Tryz.ntmps26
 go_wp2_with fail
 refine HI.out.mono ?_;rintro e w2 ⟨xx,d,rfl,o1,o2,b2⟩;obtain⟨da,dc,da',m',dc',w3,c14,hrun,q14,f14,hc,HG⟩:=HM.out xx d w2 o1 o2 b2;obtain⟨ea,ec,rfl⟩:=(ag.sl ax o2).len;obtain⟨xa,xc,rfl⟩:=(ag.sl ah o1).len;obtain⟨n1,hn1⟩:∃n,q.1.length=n:=⟨_,rfl⟩;obtain⟨n2,hn2⟩:∃n,(aY r.line q.2).length=n:=⟨_,rfl⟩;have z0:=(hc 0 _ rfl).2;have z1:=(hc 1 _ rfl).2;have z2:=(hc 2 _ rfl).2;have z3:=(hc 3 _ rfl).2;rw[hn1]at HG;rw[hn2]at hrun;rw[hn1,hn2];clear o1 o2 b2 hc HM HI hn1 hn2 x0 x1 x2 x3;go_wp2_with fail
 refine HG.out.mono ?_;rintro e w4 ⟨rfl,m4⟩;have M4:=zH m4;clear m4;go_wp2_with fail
 go_ret;exact⟨rfl,M4.out⟩
theorem Df (I:bu BI TB)(h:MM BI w0 Y w B s)(hv:s.g=none){x:RV}{r:aI}(hx:iO w0 x r)(hl:fJ r)(hq:fP r=none):
  Calls Tryz.prog 26 #[ak B,.agg (ai x).toArray] w (dK BI w0 Y w B (.bool false) s):=by
 obtain⟨W1,hW1,b1,kx⟩:=aT (x:=x) w;have hM1:=h.keep I b1;have k3:=hM1.kd I W1 (PG _ _);have hk7:¬kdM s=7:=by unfold kdM;rw[hv];cases s.v<;>simp
 have hwb:Below w0.heap.size w0 W1:=h.1.trans (b1.mono h.1.size);have hx1:iO W1 x r:=⟨hx.line,hx.mac,hx.text,Fs.below hx.args hwb⟩;have HI:=zH (qW x r W1 hx1 hl);unfold fK at HI;rw[hq]at HI;simp only[QI,QO]at HI;have HF:Hid (∀w2,Below W1.heap.size W1 w2→aV BI w0 Y w B s w2):=zH (fun w2 hb2=>((MM.refl (hM1.keep I hb2)).pre hb2).pre b1);obtain⟨kd,hkd⟩:∃k,kdM s=k:=⟨_,rfl⟩;rw[hkd]at k3 hk7;have x0:=kx.cell 0;have x1:=kx.cell 1;have x2:=kx.cell 2;have x3:=kx.cell 3;obtain⟨xl,xm,⟨va,vn,vc⟩,xt⟩:=x;simp only[ai,bE,PD,PE]at hW1 HI x0 x1 x2 x3⊢;clear h hx hl hq hM1 hwb hx1 kx b1 hkd hv;go_enter Tryz.func26,Tryz.ntmps26
 go_wp2_with fail
 refine HI.out.mono ?_;rintro e w2 ⟨xx,d,rfl,o1,o2,b2⟩;have F2:=zH (HF.out w2 b2);clear o1 o2 b2 HF HI;go_wp2_with fail
 go_ret;exact⟨rfl,F2.out⟩
theorem Bj {r:aI}(hl:fJ r){q:List Gly×List (Int×Int)}(hq:fP r=some q):q.1.length≤r.text.length+lnT r.args∧q.2.length≤r.text.length+lnT r.args:=by
 unfold fP at hq
 split at hq
 ·injection hq with hq
  subst hq;have:=mY 0 r.text;show(lgS 0 r.text).1.length≤_∧(lgS 0 r.text).2.length≤_;omega
 ·split at hq
  ·injection hq with hq
   subst hq;have:=eZ (FY (r.mac.headD 0)) r.args ([],[]);rw[jr];unfold dI;simp only[PQ]at this;omega
  ·split at hq
   ·injection hq with hq
    subst hq;have:=mQ (FY (r.mac.headD 0)) (FY (r.mac.getLastD 0)) r.args 0;rw[(oK r.args _ _ 0).1 rfl];omega
   ·cases hq
theorem Gz (I:bu BI TB)(h:MM BI w0 Y w B s)(hT:TB w0){x:RV}{r:aI}(hx:iO w0 x r)(hl:fJ r)(hb:btl s.b+(r.text.length+lnT r.args)+10≤30000)(hD:s.d.length≤400000)(hr:(rwM s).length≤500000)(ht:(txM s).length≤500000):
  Calls Tryz.prog 26 #[ak B,.agg (ai x).toArray] w (dK BI w0 Y w B (.bool (lI s r).2) (lI s r).1):=by
 unfold lI
 cases hv:s.g with
 | some g0=>
  obtain⟨ln,m,args,text⟩:=r;obtain⟨xl,xm,⟨va,vn,vc⟩,xt⟩:=x;obtain⟨h1,h2,h3,h4⟩:=hx;simp only at h1 h2 h3 h4;subst h1 h2 h3
  by_cases hm:xm=[]
  ·subst hm
   simp only[if_true];exact Dh I h hv (by unfold txM at ht;rw[hv]at ht;exact ht)
  ·simp only
   rw[PO hm];have:=Gx I h hv (ln:=xl) (text:=xt) (va:=va) (vn:=vn) (vc:=vc) hm;exact this
 | none=>
  cases hq:fP r with
  | none=>
   have:=Df I h hv hx hl hq;exact this
  | some q=>
   have hln:=Bj hl hq;have h1:=hl.text;have h2:=hl.args;have:=Gy I h hT hv hx hl hq (by omega) (by omega) (by omega) hD hr;rw[hv]at this;exact this
def rq (s:Md)(m:Txt):Bool:=match s.v with
 | some _=>decide (m=[69,69]∨m=[102,105])
 | none=>match s.g with
  | some _=>decide (m=[84,69])
  | none=>true
theorem GK (I:bu BI TB)(h:MM BI w0 Y w B s)(m:Txt):
  Calls Tryz.prog 27 #[ak B,.string ⟨m.toArray⟩] w fun e w'=>e=.returned (.bool (rq s m))∧w=w':=by
 have k3:=h.kd I w (PG _ _);unfold rq
 cases hv:s.v with
 | some v=>
  have hkd:kdM s=6:=by unfold kdM;rw[hv]
  rw[hkd]at k3;clear h hkd hv;simp only
  by_cases c:m∈ [[69,69],[102,105]]
  ·simp only[Qn,Qs,Ri]at c
   rcases c with rfl | rfl
   all_goals
    go_enter Tryz.func27,Tryz.ntmps27
    go_wp2_with fail
    go_ret;exact⟨rfl,rfl⟩
  ·simp only[Qn,Qs,Ri,not_or]at c
   obtain⟨c1,c2⟩:=c;have d1:=cO c1;have d2:=cO c2;rw[P8 (by rintro(q | q);exact c1 q;exact c2 q)];clear c1 c2;go_enter Tryz.func27,Tryz.ntmps27
   go_wp2_with fail
   go_ret;exact⟨rfl,rfl⟩
 | none=>
  cases hg:s.g with
  | some g=>
   have hkd:kdM s=7:=by unfold kdM;rw[hv,hg]
   rw[hkd]at k3;clear h hkd hv hg;simp only
   by_cases c:m=[84,69]
   ·subst c
    go_enter Tryz.func27,Tryz.ntmps27
    go_wp2_with fail
    go_ret;exact⟨rfl,rfl⟩
   ·have d1:=cO c
    rw[P8 c];clear c;go_enter Tryz.func27,Tryz.ntmps27
    go_wp2_with fail
    go_ret;exact⟨rfl,rfl⟩
  | none=>
   have hkd:kdM s=0:=by unfold kdM;rw[hv,hg]
   rw[hkd]at k3;clear h hkd hv hg;simp only;go_enter Tryz.func27,Tryz.ntmps27
   go_wp2_with fail
   go_ret;exact⟨rfl,rfl⟩
end
section
variable {BI:BIT}{TB:World→Prop}{w w0:World}{B:Nat}{s:Md}{Y:Nat→Prop}
theorem MM.putB (I:bu BI TB)(h:MM BI w0 Y w B s){W1 W2:World}(hb:Below w.heap.size w W1)(hE:Exc (fun k=>k=B) W1 W2){s':Md}(hsb:s'.b=s.b)(hsd:s'.d=s.d)(hsw:s'.w=s.w)(hrw:rwM s'=rwM s)(htx:txM s'=txM s)(hok:MOk s')(hvn:s'.v=none→s.v=none)(hgn:s'.g=none→s.g=none)
  (hbx:∀b wv rv tv dv,(s.v=none→rv=fM)→Blk W1 B 79 (mnC b s.th wv (kdM s) (lnM s) rv tv dv)→Blk W2 B 79 (mnC b s'.th wv (kdM s') (lnM s') rv tv dv)) {V:World} (hV:Exc (fun k=>w.heap.size≤k) W2 V):MM BI w0 Y V B s'∧Exc Y w V:=by
 obtain⟨h1,h2,X,R,lo,b,wv,rv,tv,dv,h3,h4⟩:=h;have hM:=h3.keep I hb;have hs1:=hb.size;have hs2:=hE.size;have hP:=hM.put I (s':=s') (lo':=lo) (wv':=wv) (rv':=rv) (tv':=tv) hE (hbx b wv rv tv dv hM.rn hM.box) hsb hsd hok (fun k q=>PH (hM.ll k q) hs2) hM.lx hM.lr (fun k _=>rfl) (by rw[htx];exact hM.tx) hM.txb (by rw[hrw];exact hM.rg) hM.rgb (fun e=>hM.rn (hvn e)) (fun e=>hM.tn (hgn e)) (by rw[hsw];exact hM.wt);have kk:∀S:Nat→Prop,(∀k,S k→k<w.heap.size)→Kp S W2 V:=fun S hS k q=>hV.block k (by have:=hS k q;omega) (fun z=>by have:=hS k q;omega)
 have hF:=hP.keepK I (kk X (fun k q=>h3.lt I k (.inl q))) (kk R (fun k q=>h3.lt I k (.inr (.inl q)))) (kk _ (fun k q=>h3.ll k q)) hV.size;have hEY:Exc Y w V:=((Exc.of (X:=Y) hb).trans (hE.mono (Y:=Y) (fun k _ q=>(h4 k).2 (.inr (by rw[q,h3.lb];decide)))) (fun _ _ q=>q)).trans hV (fun k hk q=>by omega);exact⟨⟨h1.trans (hEY.below h1.size (fun k hk q=>by have:=h2 k q;omega)),h2,X,R,lo,b,wv,rv,tv,dv,hF,h4⟩,hEY⟩
theorem MM.box_at (h:MM BI w0 Y w B s)(I:bu BI TB):∃b wv rv tv dv,B<w.heap.size∧(s.v=none→rv=fM)∧ ∀W,Below w.heap.size w W→Blk W B 79 (mnC b s.th wv (kdM s) (lnM s) rv tv dv):=by
 obtain⟨h1,h2,X,R,lo,b,wv,rv,tv,dv,h3,h4⟩:=h;exact⟨b,wv,rv,tv,dv,h3.box.lt,h3.rn,fun W hb=>h3.box.below hb⟩
theorem MM.shut (I:bu BI TB)(h:MM BI w0 Y w B s)(hT:TB w0)(K:List Int)(hK:K.length≤100)(hb:btl s.b≤30000):∃b,(∀W1,Below w.heap.size w W1→W1.cell? ⟨B,0,none⟩=some (ak b))∧ ∀W1 (v:Value) (S:Nat→Prop),Below w.heap.size w W1→FsS S 1 il W1 v K→(∀k,S k→k<W1.heap.size∧ ¬Y k)→
  Calls Tryz.prog 84 #[ak b,v] W1 fun e w'=>e=.returned (.tuple #[])∧aV BI w0 Y w B {s with b:=aK s.b K} w':=by
 obtain⟨b,X,R,c0,hXY,hBI,hAF⟩:=h.call I hT;refine⟨b,fun W1 hb1=>(hBI W1 hb1).2.2,fun W1 v S hb1 hv hS=>?_⟩;refine(I.shut K (hBI W1 hb1).1 (hBI W1 hb1).2.1 hv (fun k q=>⟨(hS k q).1,fun e=>(hS k q).2 (hXY k e)⟩) (by omega) hb).mono ?_;rintro e w' ⟨rfl,ha⟩;exact⟨rfl,hAF S _ W1 w' hb1 (fun k q=>(hS k q).2) ha⟩
theorem EZ (W:World)(L:List Int)(t:TypeId):FsS (fun k=>k=W.heap.size) 1 il (W.alloc (.cells (aA il L).toArray t)) (.slice (some ⟨W.heap.size,0,none⟩) L.length L.length) L:=by
 refine⟨dM Ha W t L,fun a k c e _=>?_⟩;injection e with e1
 injection e1 with e1
 subst e1;exact⟨rfl,fun _ i _=>by
  have h:=PK W (.cells (aA il L).toArray t);simp only[World.frozen?,h];simp⟩
theorem Gw (I:bu BI TB)(h:MM BI w0 Y w B s)(hT:TB w0)(x:RV)(hb:btl s.b≤30000):
  Calls Tryz.prog 52 #[ak B,.agg (ai x).toArray] w (dK BI w0 Y w B (.tuple #[]) {s with b:=aK s.b [4] }):=by
 obtain⟨W1,hW1,b1,kx⟩:=aT (x:=x) w;have hM1:=h.keep I b1;have hYl:=h.lt I;obtain⟨b,hcb,hSH⟩:=hM1.shut I hT [4] (by decide) hb;have bl:=ae W1 (.cells #[.int .i64 4] 3);have HS:=zH (hSH (W1.alloc (.cells #[.int .i64 4] 3)) (.slice (some ⟨W1.heap.size,0,none⟩) 1 1) (fun k=>k=W1.heap.size) bl (EZ W1 [4] 3) (fun k q=>⟨by simp[q],fun e=>by have:=hYl k e;have:=b1.size;omega⟩));have c0:=hcb W1 (PG _ _);have c0':=hcb _ bl;have HB1:=zH b1;obtain⟨xl,xm,⟨va,vn,vc⟩,xt⟩:=x;simp only[ai,bE]at hW1⊢;clear h hM1 hYl hcb hSH bl kx b1 hb;go_enter Tryz.func52,Tryz.ntmps52
 go_wp2_with fail
 refine HS.out.mono ?_;rintro e w2 ⟨rfl,m2⟩;have M2:=zH (m2.pre HB1.out);clear m2;go_wp2_with fail
 go_end0;exact⟨rfl,M2.out⟩
theorem yL (I:bu BI TB)(h:MM BI w0 Y w B s)(hT:TB w0)(x:RV)(hb:btl s.b≤30000)(hD:s.d.length≤500000):
  Calls Tryz.prog 56 #[ak B,.agg (ai x).toArray] w (dK BI w0 Y w B (.tuple #[]) (if(dm s.b 5).2 then {s with b:=(dm s.b 5).1} else aD {s with b:=(dm s.b 5).1} 6 x.1)):=by
 obtain⟨W1,hW1,b1,kx⟩:=aT (x:=x) w;have hM1:=h.keep I b1;have hYl:=h.lt I;obtain⟨b,X,R,c0,hXY,hBI,hAF⟩:=hM1.call I hT;have HC:Hid (Calls Tryz.prog 88 #[ak b,.int .i64 5] W1 fun e w'=>e=.returned (.bool (dm s.b 5).2)∧aV BI w0 Y W1 B {s with b:=(dm s.b 5).1} w'):=zH (by
  refine(I.close 5 (hBI W1 (PG _ _)).1 (hBI W1 (PG _ _)).2.1 hb).mono ?_;rintro e w' ⟨rfl,ha⟩;exact⟨rfl,hAF _ _ W1 w' (PG _ _) (fun k q=>q.elim) ha⟩)
 have HT:Hid (∀V,aV BI w0 Y W1 B {s with b:=(dm s.b 5).1} V→V.cell? ⟨w.heap.size,0,none⟩=some (.int .i64 x.1)∧Calls Tryz.prog 28 #[ak B,.int .i64 6,.int .i64 x.1] V (dK BI w0 Y W1 B (.tuple #[]) (aD {s with b:=(dm s.b 5).1} 6 x.1))):=zH (fun V ⟨Y',hM,hE,hY'⟩=>by
  have hs1:=b1.size;refine⟨by rw[(hE.blk kx (fun e=>by have:=hYl _ e;omega)).cell 0];rfl,(dH I hM 6 x.1 hD).mono ?_⟩;rintro e w' ⟨rfl,m1⟩;exact⟨rfl,aV.trans hE hY' m1⟩)
 obtain⟨cl,hcl⟩:∃c,dm s.b 5=c:=⟨_,rfl⟩;rw[hcl]at HC HT⊢;have HB1:=zH b1;obtain⟨xl,xm,⟨va,vn,vc⟩,xt⟩:=x;obtain⟨t2,ok⟩:=cl;simp only[ai,bE]at hW1 HT HC⊢;clear h hM1 hYl hXY hBI hAF kx b1 hb hD hcl
 cases ok with
 | true=>
  simp only[if_true];go_enter Tryz.func56,Tryz.ntmps56
  go_wp2_with fail
  refine HC.out.mono ?_;rintro e w2 ⟨rfl,m2⟩;have M2:=zH (m2.pre HB1.out);clear m2;go_wp2_with fail
  go_end0;exact⟨rfl,M2.out⟩
 | false=>
  simp only[Qf,Q8];go_enter Tryz.func56,Tryz.ntmps56
  go_wp2_with fail
  refine HC.out.mono ?_;rintro e w2 ⟨rfl,m2⟩;obtain⟨z0,ht⟩:=HT.out w2 m2;have HT2:=zH ht;clear m2 ht HT HC c0;go_wp2_with fail
  refine HT2.out.mono ?_;rintro e w3 ⟨rfl,m3⟩;have M3:=zH (m3.pre HB1.out);clear m3;go_wp2_with fail
  go_end0;exact⟨rfl,M3.out⟩
def jm (s:Md)(kd ln:Int):Md:=if kd=6 then {s with b:=bM s.b,v:=some (ln,[]) } else {s with b:=bM s.b,g:=some (ln,[]) }
theorem Bb (I:bu BI TB)(h:MM BI w0 Y w B s)(hT:TB w0)(hv:s.v=none)(hg:s.g=none)(hw:s.w=none)(x:RV)(kd:Int)(hkd:kd=6∨kd=7)(F1 F2:Nat)(hF1:Blk w F1 74 [ak B])(hF2:Blk w F2 3 [.int .i64 kd])(hY1:¬Y F1)(hY2:¬Y F2)(hb:btl s.b≤30000):
  Calls Tryz.prog 89 #[.agg (ai x).toArray,.pointer (some ⟨F1,0,none⟩),.pointer (some ⟨F2,0,none⟩)] w (dK BI w0 Y w B (.tuple #[]) (jm s kd x.1)):=by
 obtain⟨W1,hW1,b1,kx⟩:=aT (x:=x) w;have hM1:=h.keep I b1;have hYl:=h.lt I;have hs1:=b1.size;obtain⟨b,X,R,c0,hXY,hBI,hAF⟩:=hM1.call I hT;have HC:Hid (Calls Tryz.prog 63 #[ak b] W1 fun e w'=>e=.returned (.tuple #[])∧aV BI w0 Y W1 B {s with b:=bM s.b} w'):=zH (by
  refine(I.nd (hBI W1 (PG _ _)).1 (hBI W1 (PG _ _)).2.1 hb).mono ?_;rintro e w' ⟨rfl,ha⟩;exact⟨rfl,hAF _ _ W1 w' (PG _ _) (fun k q=>q.elim) ha⟩)
 have f1:W1.cell? ⟨F1,0,none⟩=some (ak B):=(hF1.below b1).cell 0;have HN:Hid (∀V,aV BI w0 Y W1 B {s with b:=bM s.b} V→V.cell? ⟨w.heap.size,0,none⟩=some (.int .i64 x.1)∧V.cell? ⟨F1,0,none⟩=some (ak B)∧V.cell? ⟨F2,0,none⟩=some (.int .i64 kd)∧(∀j,j<15→(V.cell? ⟨B,j,none⟩).isSome=true∧V.frozen? ⟨B,j,none⟩=false)∧
   aV BI w0 Y W1 B (jm s kd x.1) (((((((((((V).setCell ⟨B,3,none⟩ (.int .i64 kd)).setCell ⟨B,4,none⟩ (.int .i64 x.1)).setCell ⟨B,5,none⟩ (.int .i64 0)).setCell ⟨B,6,none⟩ (.slice none 0 0)).setCell ⟨B,7,none⟩ (.slice none 0 0)).setCell ⟨B,8,none⟩ (.slice none 0 0)).setCell ⟨B,9,none⟩ (.string ⟨#[]⟩)).setCell ⟨B,10,none⟩ (.slice none 0 0)).setCell ⟨B,11,none⟩ (.bool false)).setCell ⟨B,12,none⟩ (.bool false))):=zH (fun V ⟨Y',hM,hE,hY'⟩=>by
  have hbx:=hM.box_at I;obtain⟨b',wv,rv,tv,dv,hBl,hrn,hbx⟩:=hbx;have hB0:=hbx V (PG _ _);refine⟨by rw[(hE.blk kx (fun e=>by have:=hYl _ e;omega)).cell 0];rfl,(hE.blk (hF1.below b1) hY1).cell 0,(hE.blk (hF2.below b1) hY2).cell 0,fun j hj=>⟨by rw[hB0.cell j];simp[mnC,hj],hB0.frozen (by simp[mnC];omega)⟩,?_⟩;have hEB:Exc (fun k=>k=B) V (((((((((((V).setCell ⟨B,3,none⟩ (.int .i64 kd)).setCell ⟨B,4,none⟩ (.int .i64 x.1)).setCell ⟨B,5,none⟩ (.int .i64 0)).setCell ⟨B,6,none⟩ (.slice none 0 0)).setCell ⟨B,7,none⟩ (.slice none 0 0)).setCell ⟨B,8,none⟩ (.slice none 0 0)).setCell ⟨B,9,none⟩ (.string ⟨#[]⟩)).setCell ⟨B,10,none⟩ (.slice none 0 0)).setCell ⟨B,11,none⟩ (.bool false)).setCell ⟨B,12,none⟩ (.bool false)):=(((((((((((Exc.refl (fun k=>k=B) V).set 3 _ (fun _=>rfl)).set 4 _ (fun _=>rfl)).set 5 _ (fun _=>rfl)).set 6 _ (fun _=>rfl)).set 7 _ (fun _=>rfl)).set 8 _ (fun _=>rfl)).set 9 _ (fun _=>rfl)).set 10 _ (fun _=>rfl)).set 11 _ (fun _=>rfl)).set 12 _ (fun _=>rfl));obtain⟨F,hF⟩:∃F,((((((((((V).setCell ⟨B,3,none⟩ (.int .i64 kd)).setCell ⟨B,4,none⟩ (.int .i64 x.1)).setCell ⟨B,5,none⟩ (.int .i64 0)).setCell ⟨B,6,none⟩ (.slice none 0 0)).setCell ⟨B,7,none⟩ (.slice none 0 0)).setCell ⟨B,8,none⟩ (.slice none 0 0)).setCell ⟨B,9,none⟩ (.string ⟨#[]⟩)).setCell ⟨B,10,none⟩ (.slice none 0 0)).setCell ⟨B,11,none⟩ (.bool false)).setCell ⟨B,12,none⟩ (.bool false)=F:=⟨_,rfl⟩;rw[hF]at hEB⊢;have hv':jm s kd x.1=jm s kd x.1:=rfl;obtain⟨hM2,hE2⟩:=hM.putB I (PG _ _) hEB (s':=jm s kd x.1) (by unfold jm;split<;>rfl) (by unfold jm;split<;>rfl) (by unfold jm;split<;>rfl) (by rcases hkd with rfl | rfl<;>simp[jm,rwM,hv]) (by rcases hkd with rfl | rfl<;>simp[jm,txM,hg]) (by
    unfold jm
    split
    ·exact⟨.inr hg,fun _=>hw,fun q=>absurd hg q⟩
    ·exact⟨.inl hv,fun q=>absurd hv q,fun _=>hw⟩) (fun _=>hv) (fun _=>hg) (fun b wv rv tv dv hr hB=>by
    obtain rfl:=hr hv;rw[←hF];have hq:=(((((((((hB.set 3 (.int .i64 kd)).set 4 (.int .i64 x.1)).set 5 (.int .i64 0)).set 6 (.slice none 0 0)).set 7 (.slice none 0 0)).set 8 (.slice none 0 0)).set 9 (.string ⟨#[]⟩)).set 10 (.slice none 0 0)).set 11 (.bool false)).set 12 (.bool false);have e1:kdM (jm s kd x.1)=kd:=by
     unfold jm kdM;rcases hkd with rfl | rfl
     ·rfl
     ·simp[hv]
    have e2:lnM (jm s kd x.1)=x.1:=by
     unfold jm lnM;rcases hkd with rfl | rfl
     ·rfl
     ·simp[hv]
    have e3:(jm s kd x.1).th=s.th:=by unfold jm;split<;>rfl
    rw[e1,e2,e3];exact hq) (Exc.refl _ _)
  exact⟨Y',hM2,hE.trans hE2 (fun k hk q=>(hY' k q).elim id (fun z=>by omega)),fun k q=>hY' k q⟩)
 have HB1:=zH b1;obtain⟨sf,hsf⟩:∃sf,jm s kd x.1=sf:=⟨_,rfl⟩;rw[hsf]at HN⊢;obtain⟨xl,xm,⟨va,vn,vc⟩,xt⟩:=x;simp only[ai,bE]at hW1 HN⊢;clear h hM1 hYl hXY hBI hAF kx b1 hb hsf hkd hv hg hw hF1 hF2 hs1;go_enter Tryz.func89,Tryz.ntmps89
 go_wp2_with fail
 refine HC.out.mono ?_;rintro e w2 ⟨rfl,m2⟩;obtain⟨z0,z1,z2,zb,m3⟩:=HN.out w2 m2;have M3:=zH (m3.pre HB1.out);obtain⟨q0,hq0⟩:=P9.1 (zb 3 (by decide)).1;have fz0:=(zb 3 (by decide)).2;obtain⟨q1,hq1⟩:=P9.1 (zb 4 (by decide)).1;have fz1:=(zb 4 (by decide)).2;obtain⟨q2,hq2⟩:=P9.1 (zb 5 (by decide)).1;have fz2:=(zb 5 (by decide)).2;obtain⟨q3,hq3⟩:=P9.1 (zb 6 (by decide)).1;have fz3:=(zb 6 (by decide)).2;obtain⟨q4,hq4⟩:=P9.1 (zb 7 (by decide)).1;have fz4:=(zb 7 (by decide)).2;obtain⟨q5,hq5⟩:=P9.1 (zb 8 (by decide)).1;have fz5:=(zb 8 (by decide)).2;obtain⟨q6,hq6⟩:=P9.1 (zb 9 (by decide)).1;have fz6:=(zb 9 (by decide)).2;obtain⟨q7,hq7⟩:=P9.1 (zb 10 (by decide)).1;have fz7:=(zb 10 (by decide)).2;obtain⟨q8,hq8⟩:=P9.1 (zb 11 (by decide)).1;have fz8:=(zb 11 (by decide)).2;obtain⟨q9,hq9⟩:=P9.1 (zb 12 (by decide)).1;have fz9:=(zb 12 (by decide)).2;clear m2 m3 HN HC zb;go_wp2_with fail
 go_end0;exact⟨rfl,M3.out⟩
end
structure MC0 (BI:BIT)(X R:Nat→Prop)(lo:Nat→Nat)(w:World)(B b:Nat)(th:Bool)(t:Bt)(D:List Dgn)(T:List Txt)(tv dv:Value):Prop where
 ll:∀k,lo k≠0→k<w.heap.size
 lx:∀k,X k→lo k=0
 lr:∀k,R k→lo k=0
 bi:BI X R w b t
 lb:lo B=2
 box:Blk w B 79 (mnC b th (.pointer none) 0 0 fM tv dv)
 dg:bG 0 w dv D
 dgb:∀k,dv.ownBlock=some k→lo k=3
 tx:iN 0 w tv T
 txb:∀k,tv.ownBlock=some k→lo k=4
def MM0 (BI:BIT)(w0:World)(Y Q:Nat→Prop)(w:World)(B:Nat)(th:Bool)(t:Bt)(D:List Dgn)(T:List Txt):Prop:=
 Below w0.heap.size w0 w∧(∀k,Y k→w0.heap.size≤k)∧ ∃X R lo b tv dv,MC0 BI X R lo w B b th t D T tv dv∧(∀k,Y k↔X k∨lo k≠0)∧ ∀k,Q k→k<w.heap.size∧ ¬X k∧ ¬R k∧lo k=0
section
variable {BI:BIT}{TB:World→Prop}{X R:Nat→Prop}{lo:Nat→Nat}{w w' w0:World}{B b:Nat}{s:Md}{th:Bool}{t:Bt}{D:List Dgn}{T:List Txt}{tv dv:Value}{Y Q:Nat→Prop}
theorem MC0.lt (I:bu BI TB)(h:MC0 BI X R lo w B b th t D T tv dv):∀k,X k∨R k∨lo k≠0→k<w.heap.size:=fun k q=>
 q.elim (fun q=>I.lt h.bi k (.inl q)) (fun q=>q.elim (fun q=>I.lt h.bi k (.inr q)) (h.ll k))
theorem MC0.keepK (I:bu BI TB)(h:MC0 BI X R lo w B b th t D T tv dv)(hX:Kp X w w')(hR:Kp R w w')(hL:Kp (fun k=>lo k≠0) w w')(hs:w.heap.size≤w'.heap.size):MC0 BI X R lo w' B b th t D T tv dv:=
 have kz:∀z,z≠0→Kp (fun k=>lo k=z) w w':=fun z hz k e=>hL k (show lo k≠0 by rw[show lo k=z from e];exact hz)
 ⟨fun k q=>PH (h.ll k q) hs,h.lx,h.lr,I.keep h.bi hX hR hs,h.lb,(hL B (show lo B≠0 by rw[h.lb];decide)).trans h.box,h.dg.kp (fun k e=>kz 3 (by decide) k (h.dgb k e)),h.dgb,h.tx.kp (fun k e=>kz 4 (by decide) k (h.txb k e)),h.txb⟩
theorem MC0.keep (I:bu BI TB)(h:MC0 BI X R lo w B b th t D T tv dv)(hb:Below w.heap.size w w'):MC0 BI X R lo w' B b th t D T tv dv:=
 h.keepK I (Kp.below hb (fun k q=>h.lt I k (.inl q))) (Kp.below hb (fun k q=>h.lt I k (.inr (.inl q)))) (Kp.below hb (fun k q=>h.lt I k (.inr (.inr q)))) hb.size
theorem MM0.keep (I:bu BI TB)(h:MM0 BI w0 Y Q w B th t D T)(hb:Below w.heap.size w w'):MM0 BI w0 Y Q w' B th t D T:=by
 obtain⟨h1,h2,X,R,lo,b,tv,dv,h3,h4,h5⟩:=h;exact⟨h1.trans (hb.mono h1.size),h2,X,R,lo,b,tv,dv,h3.keep I hb,h4,fun k q=>⟨PH (h5 k q).1 hb.size,(h5 k q).2⟩⟩
theorem MM0.lt (I:bu BI TB)(h:MM0 BI w0 Y Q w B th t D T):∀k,Y k→k<w.heap.size:=by
 obtain⟨h1,h2,X,R,lo,b,tv,dv,h3,h4,h5⟩:=h;intro k hk;rcases(h4 k).1 hk with q | q
 ·exact h3.lt I k (.inl q)
 ·exact h3.lt I k (.inr (.inr q))
theorem MM0.at (h:MM0 BI w0 Y Q w B th t D T):∃b tv dv,B<w.heap.size∧Y B∧Blk w B 79 (mnC b th (.pointer none) 0 0 fM tv dv)∧Ss w tv T∧(∃a c,tv=.slice a T.length c)∧ ∃a c,dv=.slice a D.length c:=by
 obtain⟨h1,h2,X,R,lo,b,tv,dv,h3,h4,h5⟩:=h;exact⟨b,tv,dv,h3.box.lt,(h4 B).2 (.inr (by rw[h3.lb];decide)),h3.box,ag.sl dF h3.tx,(ag.sl dF h3.tx).len,(ag.sl ax h3.dg).len⟩
theorem MM0.dgs (I:bu BI TB)(h:MM0 BI w0 Y Q w B th t D T){u:Value}{m:List Dgn}(hu:Ds w u m)(hl:D.length+m.length≤1000000):
  ∃dv dv' w2 Y',w.cell? ⟨B,14,none⟩=some dv∧(gQ #[dv,u]).run Tryz.prog w=.ok (.value dv') w2∧w2.cell? ⟨B,14,none⟩=some dv∧w2.frozen? ⟨B,14,none⟩=false∧MM0 BI w0 Y' Q (w2.setCell ⟨B,14,none⟩ dv') B th t (D++m) T∧
   Exc Y w (w2.setCell ⟨B,14,none⟩ dv')∧(∀k,Y' k→Y k∨w.heap.size≤k)∧(∃a c,dv=.slice a D.length c)∧ ∃a c,dv'=.slice a (D++m).length c:=by
 obtain⟨h1,h2,X,R,lo,b,tv,dv,h3,h4,h5⟩:=h;obtain⟨dv',w2,hr,ho,hg,hown⟩:=gX h3.dg hu (P6 _) hl;have ho4:∀k,dv'.ownBlock=some k→lo k=3∨w.heap.size≤k:=fun k e=>by
  rcases hown with q | q
  ·exact .inl (h3.dgb k (by rw[←q];exact e))
  ·rw[q]at e
   obtain rfl:=PT e;exact .inr (Px _)
 have hE2:Exc (fun k=>dv.ownBlock=some k) w w2:=⟨hg.os,hg.tape,hg.output,hg.size,fun k hk hx=>hg.block k hk (fun e=>hx e.symm)⟩;have hB3:¬dv.ownBlock=some B:=fun e=>by have:=h3.dgb B e;rw[h3.lb]at this;omega
 have box2:Blk w2 B 79 (mnC b th (.pointer none) 0 0 fM tv dv):=hE2.blk h3.box hB3;have hE3:Exc (fun k=>dv.ownBlock=some k∨k=B) w (w2.setCell ⟨B,14,none⟩ dv'):=(hE2.mono (fun k _ q=> .inl q)).set 14 _ (fun _=> .inr rfl);have hBs:∀k,dv'.ownBlock=some k→k≠B:=fun k e q=>by
  subst q;rcases ho4 _ e with q | q
  ·rw[h3.lb]at q;omega
  ·have:=h3.ll k (by rw[h3.lb];decide);omega
 have hdF:bG 0 (w2.setCell ⟨B,14,none⟩ dv') dv' (D++m):=ho.kp (fun k e=>PN _ ⟨B,14,none⟩ _ _ (hBs k e));have hbx:=box2.set 14 dv';have hne:∀k,lo k≠3→lo k≠2→ ¬(dv.ownBlock=some k∨k=B):=fun k q1 q2 q=>q.elim (fun e=>q1 (h3.dgb k e)) (fun e=>q2 (by rw[e];exact h3.lb))
 have hFs:=hE3.size;have kp:∀S:Nat→Prop,(∀k,S k→k<w.heap.size∧lo k≠3∧lo k≠2)→Kp S w (w2.setCell ⟨B,14,none⟩ dv'):=fun S hS k q=>hE3.block k (hS k q).1 (hne k (hS k q).2.1 (hS k q).2.2)
 have hltF:∀k,jK lo 3 dv'.ownBlock k≠0→k<(w2.setCell ⟨B,14,none⟩ dv').heap.size:=fun k q=>xV (fun k q=>by have:=h3.ll k q;omega) (fun k e=>hdF.ltb e) q
 have kX:Kp X w (w2.setCell ⟨B,14,none⟩ dv'):=kp X (fun k q=>⟨h3.lt I k (.inl q),by rw[h3.lx k q];decide,by rw[h3.lx k q];decide⟩);have kR:Kp R w (w2.setCell ⟨B,14,none⟩ dv'):=kp R (fun k q=>⟨h3.lt I k (.inr (.inl q)),by rw[h3.lr k q];decide,by rw[h3.lr k q];decide⟩);have kz:∀z,z≠0→z≠2→z≠3→Kp (fun k=>lo k=z) w (w2.setCell ⟨B,14,none⟩ dv'):=fun z q0 q2 q3=>kp _ (fun k q=>⟨h3.ll k (by omega),by omega,by omega⟩)
 have hsh1:=(ag.sl ax h3.dg).len;have hsh2:=(ag.sl ax ho).len;obtain⟨F,hF⟩:∃F,w2.setCell ⟨B,14,none⟩ dv'=F:=⟨_,rfl⟩;rw[hF]at hE3 hdF hbx hFs kX kR kz hltF;have hEY:Exc Y w F:=hE3.mono (Y:=Y) (fun k hk q=>(h4 k).2 (.inr (by
  rcases q with q | q
  ·rw[h3.dgb k q];decide
  ·rw[q,h3.lb];decide)))
 have lab:∀{k:Nat} z,z≠3→z≠0→lo k=z→jK lo 3 dv'.ownBlock k=z:=fun {k} z q0 q1 q=>by rw[jJ ho4 (h3.ll k (by omega)) (by omega),q]
 have l0:∀{k:Nat},k<w.heap.size→lo k=0→jK lo 3 dv'.ownBlock k=0:=fun {k} hk q=>by rw[jJ ho4 hk (by omega),q]
 have hY:∀k,X k∨jK lo 3 dv'.ownBlock k≠0→Y k∨w.heap.size≤k:=fun k q=>q.elim (fun z=> .inl ((h4 k).2 (.inl z))) (fun z=>(xU ho4 (by decide) z).imp (fun z=>(h4 k).2 (.inr z)) id)
 have hs0:=h1.size;refine⟨dv,dv',w2,fun k=>X k∨jK lo 3 dv'.ownBlock k≠0,h3.box.cell 14,hr,box2.cell 14,box2.frozen (by simp[mnC]),?_,by rw[hF];exact hEY,hY,hsh1,hsh2⟩;rw[hF];refine⟨h1.trans (hEY.below hs0 (fun k hk q=>by have:=h2 k q;omega)),fun k q=>(hY k q).elim (h2 k) (fun z=>by omega),X,R,jK lo 3 dv'.ownBlock,b,tv,dv',⟨?_,fun k q=>l0 (h3.lt I k (.inl q)) (h3.lx k q),fun k q=>l0 (h3.lt I k (.inr (.inl q))) (h3.lr k q),I.keep h3.bi kX kR hFs,lab 2 (by decide) (by decide) h3.lb,hbx,hdF,fun k e=>sN e,h3.tx.kp (fun k e=>kz 4 (by decide) (by decide) (by decide) k (h3.txb k e)),fun k e=>lab 4 (by decide) (by decide) (h3.txb k e)⟩,fun k=>RJ,fun k q=>⟨PH (h5 k q).1 hFs,(h5 k q).2.1,(h5 k q).2.2.1,l0 (h5 k q).1 (h5 k q).2.2.2⟩⟩;intro k q;exact hltF k q
theorem MM0.fin (I:bu BI TB)(h:MM0 BI w0 Y Q w B th t D T){V:World}(hV:Exc (fun k=>k=B∨Q k∨w.heap.size≤k) w V)(hQ:∀k,Q k→w0.heap.size≤k)(hbx:∀b tv dv,Blk w B 79 (mnC b th (.pointer none) 0 0 fM tv dv)→Blk V B 79 (mnC b th (.pointer none) 0 0 fM fM dv)):∃Y',MM BI w0 Y' V B ⟨t,D,th,none,none,none⟩∧Exc (fun k=>Y k∨Q k) w V∧ ∀k,Y' k→Y k:=by
 obtain⟨h1,h2,X,R,lo,b,tv,dv,h3,h4,h5⟩:=h;have lab:∀{k:Nat} z,z≠4→lo k=z→(if lo k=4 then 0 else lo k)=z:=fun {k} z hz q=>by rw[PO (by omega),q]
 have hlo:∀k,(if lo k=4 then 0 else lo k)≠0→lo k≠0:=fun k q e=>q (lab 0 (by decide) e)
 have hBV:∀k,k<w.heap.size→k≠B→ ¬Q k→V.heap[k]? =w.heap[k]? :=fun k q1 q2 q3=>hV.block k q1 (fun z=>z.elim q2 (fun z=>z.elim q3 (fun z=>by omega)))
 have kX:Kp X w V:=fun k q=>hBV k (h3.lt I k (.inl q)) (fun e=>by have:=h3.lx k q;rw[e,h3.lb]at this;omega) (fun z=>(h5 k z).2.1 q)
 have kR:Kp R w V:=fun k q=>hBV k (h3.lt I k (.inr (.inl q))) (fun e=>by have:=h3.lr k q;rw[e,h3.lb]at this;omega) (fun z=>(h5 k z).2.2.1 q)
 have hEY:Exc (fun k=>Y k∨Q k) w V:=⟨hV.os,hV.tape,hV.output,hV.size,fun k q1 q2=>hV.block k q1 (fun z=>z.elim (fun z=>q2 (.inl ((h4 k).2 (.inr (by rw[z,h3.lb];decide))))) (fun z=>z.elim (fun z=>q2 (.inr z)) (fun z=>by omega)))⟩;have hs:=hEY.size;have kz:∀k,lo k≠0→lo k≠2→V.heap[k]? =w.heap[k]? :=fun k q1 q2=>hBV k (h3.ll k q1) (fun e=>q2 (by rw[e,h3.lb])) (fun z=>q1 (h5 k z).2.2.2)
 refine⟨fun k=>X k∨(if lo k=4 then 0 else lo k)≠0,⟨h1.trans (hEY.below h1.size (fun k hk q=>q.elim (fun q=>by have:=h2 k q;omega) (fun q=>by have:=hQ k q;omega))),fun k q=>h2 k ((h4 k).2 (q.imp id (hlo k))),X,R,_,b,.pointer none,fM,fM,dv,⟨⟨.inl rfl,fun _=>rfl,fun _=>rfl⟩,fun k q=>PH (h3.ll k (hlo k q)) hs,fun k q=>lab 0 (by decide) (h3.lx k q),fun k q=>lab 0 (by decide) (h3.lr k q),I.keep h3.bi kX kR hs,lab 2 (by decide) h3.lb,hbx b tv dv h3.box,h3.dg.kp (fun k e=>kz k (by rw[h3.dgb k e];decide) (by rw[h3.dgb k e];decide)),fun k e=>lab 3 (by decide) (h3.dgb k e),ag.nil _ _,fun k e=>(by cases e),⟨[],rfl,ag.nil _ _,fun i p r a c=>by simp at a⟩,fun k e=>(by cases e),fun _=>rfl,fun _=>rfl,rfl⟩,fun k=>RJ⟩,hEY,fun k q=>(h4 k).2 (q.imp id (hlo k))⟩
theorem MM.toG (I:bu BI TB)(h:MM BI w0 Y w B s){g0:Int×List Txt}(hg:s.g=some g0){W2 W3:World}(hb:Below w.heap.size w W2)(hE:Exc (fun k=>k=B) W2 W3)(hq:w.heap.size<W2.heap.size)
  (hbx:∀b tv dv,Blk W2 B 79 (mnC b s.th (.pointer none) 7 g0.1 fM tv dv)→Blk W3 B 79 (mnC b s.th (.pointer none) 0 0 fM tv dv)):MM0 BI w0 Y (fun k=>k=w.heap.size) W3 B s.th s.b s.d g0.2∧Exc Y w W3:=by
 obtain⟨h1,h2,X,R,lo,b,wv,rv,tv,dv,h3,h4⟩:=h;have hM:=h3.keep I hb;have hv:s.v=none:=h3.ok.vg.resolve_right (by rw[hg];simp);have hw:s.w=none:=h3.ok.gw (by rw[hg];simp);have hwt:=h3.wt;rw[hw]at hwt;obtain rfl:wv=.pointer none:=hwt;obtain rfl:=h3.rn hv;have hkd:kdM s=7:=by unfold kdM;rw[hv,hg]
 have hln:lnM s=g0.1:=by unfold lnM;rw[hv,hg]
 have htx:txM s=g0.2:=by unfold txM;rw[hg]
 have hB:=hM.box;rw[hkd,hln]at hB;have hB3:=hbx b tv dv hB;have hs1:=hb.size;have hs2:=hE.size;have hne:∀k,k<w.heap.size→k≠B→W3.heap[k]? =W2.heap[k]? :=fun k q1 q2=>hE.block k (by omega) q2
 have kX:Kp X W2 W3:=fun k q=>hne k (h3.lt I k (.inl q)) (fun e=>by have:=h3.lx k q;rw[e,h3.lb]at this;omega)
 have kR:Kp R W2 W3:=fun k q=>hne k (h3.lt I k (.inr (.inl q))) (fun e=>by have:=h3.lr k q;rw[e,h3.lb]at this;omega)
 have hT:=hM.tx;rw[htx]at hT;have hEY:Exc Y w W3:=(Exc.of (X:=Y) hb).trans (hE.mono (Y:=Y) (fun k _ q=>(h4 k).2 (.inr (by rw[q,h3.lb];decide)))) (fun _ _ q=>q);exact⟨⟨h1.trans (hEY.below h1.size (fun k hk q=>by have:=h2 k q;omega)),h2,X,R,lo,b,tv,dv,⟨fun k q=>by have:=h3.ll k q;omega,h3.lx,h3.lr,I.keep hM.bi kX kR hs2,h3.lb,hB3,hM.dg.kp (fun k e=>hne k (h3.dg.ltb e) (fun e2=>by have:=h3.dgb k e;rw[e2,h3.lb]at this;omega)),h3.dgb,hT.kp (fun k e=>hne k (h3.tx.ltb e) (fun e2=>by have:=h3.txb k e;rw[e2,h3.lb]at this;omega)),h3.txb⟩,h4,fun k q=>⟨by omega,fun z=>by have:=h3.lt I k (.inl z);omega,fun z=>by have:=h3.lt I k (.inr (.inl z));omega,QA fun z=>by have:=h3.ll k z;omega⟩⟩,hEY⟩
theorem MM.toV (I:bu BI TB)(h:MM BI w0 Y w B s){v0:Int×List (List Gly)}(hv:s.v=some v0):∃ra rc,(∀W,Below w.heap.size w W→ ∃b wv tv dv,Blk W B 79 (mnC b s.th wv 6 v0.1 (.slice ra v0.2.length rc) tv dv))∧ ∀W2 W3 V,Below w.heap.size w W2→Exc (fun k=>k=B) W2 W3→
  (∀b wv tv dv,Blk W2 B 79 (mnC b s.th wv 6 v0.1 (.slice ra v0.2.length rc) tv dv)→Blk W3 B 79 (mnC b s.th wv 0 0 fM tv dv))→Exc (fun k=>w.heap.size≤k) W3 V→
  ∃Y' S,MM BI w0 Y' V B {s with v:=none}∧Exc Y w V∧(∀k,Y' k→Y k)∧GrS S V (.slice ra v0.2.length rc) v0.2∧ ∀k,S k→k<w.heap.size∧ ¬Y' k:=by
 obtain⟨h1,h2,X,R,lo,b,wv,rv,tv,dv,h3,h4⟩:=h;have hg:s.g=none:=h3.ok.vg.resolve_left (by rw[hv];simp);have hw:s.w=none:=h3.ok.vw (by rw[hv];simp);have hkd:kdM s=6:=by unfold kdM;rw[hv]
 have hln:lnM s=v0.1:=by unfold lnM;rw[hv]
 have hrw:rwM s=v0.2:=by unfold rwM;rw[hv]
 obtain⟨ra,rc,e⟩:=h3.rg.len;rw[hrw]at e;subst e;have hbox:∀W,Below w.heap.size w W→Blk W B 79 (mnC b s.th wv 6 v0.1 (.slice ra v0.2.length rc) tv dv):=fun W hW=>by
  have:=h3.box.below hW;rw[hkd,hln]at this;exact this
 refine⟨ra,rc,fun W hW=>⟨b,wv,tv,dv,hbox W hW⟩,fun W2 W3 V hb hE hbx hV=>?_⟩;have hM:=h3.keep I hb;have lab:∀{k:Nat} z,z≠5→lo k=z→(if lo k=5 then 0 else lo k)=z:=fun {k} z hz q=>by rw[PO (by omega),q]
 have hlo:∀k,(if lo k=5 then 0 else lo k)≠0→lo k≠0:=fun k q e=>q (lab 0 (by decide) e)
 have hs1:=hb.size;have hs2:=hE.size;have hP:=hM.put I (s':={s with v:=none}) (lo':=fun k=>if lo k=5 then 0 else lo k) (wv':=wv) (rv':=fM) (tv':=tv) hE (by
   have e1:kdM {s with v:=none}=0:=by unfold kdM;simp[hg]
   have e2:lnM {s with v:=none}=0:=by unfold lnM;simp[hg]
   rw[e1,e2];exact hbx b wv tv dv (hbox W2 hb)) rfl rfl ⟨.inl rfl,fun _=>hw,fun _=>hw⟩ (fun k q=>by have:=h3.ll k (hlo k q);omega) (fun k q=>lab 0 (by decide) (h3.lx k q)) (fun k q=>lab 0 (by decide) (h3.lr k q)) (fun k q=>by rw[PO (by omega)]) hM.tx (fun k e=>lab 4 (by decide) (h3.txb k e)) ⟨[],rfl,ag.nil _ _,fun i p r a c=>by simp at a⟩ (fun k e=>by cases e) (fun _=>rfl) h3.tn (by rw[hw];have:=h3.wt;rw[hw]at this;exact this)
 have kk:∀S:Nat→Prop,(∀k,S k→k<w.heap.size)→Kp S W3 V:=fun S hS k q=>hV.block k (by have:=hS k q;omega) (fun z=>by have:=hS k q;omega)
 have hF:=hP.keepK I (kk X (fun k q=>h3.lt I k (.inl q))) (kk R (fun k q=>h3.lt I k (.inr (.inl q)))) (kk _ (fun k q=>h3.ll k (hlo k q))) hV.size;have hEY:Exc Y w V:=((Exc.of (X:=Y) hb).trans (hE.mono (Y:=Y) (fun k _ q=>(h4 k).2 (.inr (by rw[q,h3.lb];decide)))) (fun _ _ q=>q)).trans hV (fun k hk q=>by omega);have hkV:∀k,k<w.heap.size→k≠B→V.heap[k]? =w.heap[k]? :=fun k q1 q2=>((hV.block k (by omega) (by omega)).trans (hE.block k (by omega) q2)).trans (hb.block k q1)
 obtain⟨L,hL,hLo,hLg⟩:=h3.rg;rw[hrw]at hL hLg;refine⟨fun k=>X k∨(if lo k=5 then 0 else lo k)≠0,fun k=>R k∨(Value.slice ra v0.2.length rc).ownBlock=some k,⟨h1.trans (hEY.below h1.size (fun k hk q=>by have:=h2 k q;omega)),fun k q=>h2 k ((h4 k).2 (q.imp id (hlo k))),X,R,_,b,wv,fM,tv,dv,hF,fun k=>RJ⟩,hEY,fun k q=>(h4 k).2 (q.imp id (hlo k)),⟨L,hL,?_,fun i p r a c=>?_⟩,fun k q=>?_⟩
 ·exact(xg aX (hLo.kp (fun k e=>hkV k (hLo.ltb e) (fun e2=>by have:=h3.rgb k e;rw[e2,h3.lb]at this;omega)))).mono (fun k q=> .inr q)
 ·exact((hLg i p r a c).keep (fun k q=>hkV k (h3.lt I k (.inr (.inl q))) (fun e2=>by have:=h3.lr k q;rw[e2,h3.lb]at this;omega))).mono (fun k q=> .inl q)
 ·rcases q with q | q
  ·refine⟨h3.lt I k (.inr (.inl q)),fun z=>z.elim (fun z=>I.sep h3.bi k q z) (fun z=>z (lab 0 (by decide) (h3.lr k q)))⟩
  ·refine⟨hLo.ltb q,fun z=>z.elim (fun z=>by have:=h3.lx k z;have:=h3.rgb k q;omega) (fun z=>z (by rw[PZ (h3.rgb k q)]))⟩
end
end Go.Proofs.YtebabjnngdjceaaGreatDoor

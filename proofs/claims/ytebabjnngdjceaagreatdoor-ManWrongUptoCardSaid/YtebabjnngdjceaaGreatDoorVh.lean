/- A reader's block ends: a -/
import Derived.Test.YtebabjnngdjceaaGreatDoorYc
set_option linter.unusedVariables false
set_option linter.unusedSimpArgs false
set_option maxRecDepth 100000
set_option maxHeartbeats 16000000
namespace Go.Proofs.YtebabjnngdjceaaGreatDoor
open Go.RowKit
section
variable {BI:BIT}{TB:World→Prop}{w w0:World}{B:Nat}{s:Md}{Y Q:Nat→Prop}{th:Bool}{t:Bt}{D:List Dgn}{T:List Txt}
attribute [local go_sem ↓ high] bH
theorem rV (ln:Int)(l:List (List Gly)):nlN (.mk ⟨6,ln,0,[],l,bS⟩ [])=3+(l.length+lens l):=by simp[nlN,nlL,hdl,bS,cZ]
theorem wX (I:bu BI TB)(h:MM BI w0 Y w B s)(hT:TB w0){v0:Int×List (List Gly)}(hv:s.v=some v0)(hb:btl s.b+(v0.2.length+lens v0.2)+10≤30000):
  Calls Tryz.prog 60 #[ak B] w (dK BI w0 Y w B (.tuple #[]) (endV s v0)):=by
 obtain⟨ra,rc,hbx,hW⟩:=MM.toV I h hv;obtain⟨W2,hW2⟩:∃W2,(w.alloc (.cells #[.int .i64 6,.int .i64 v0.1,.int .i64 0,.slice none 0 0,.slice none 0 0,.slice ra v0.2.length rc,.string ⟨#[]⟩,.slice none 0 0,.bool false,.bool false] 58))=W2:=⟨_,rfl⟩;have b2:Below w.heap.size w W2:=by rw[←hW2];exact ae w _
 have kx:Blk W2 w.heap.size 58 (af ⟨6,v0.1,0,aj,aj,(ra,v0.2.length,rc),[],aj,false,false⟩):=by rw[←hW2];exact PK w _
 obtain⟨b0,wv,tv,dv,hB0⟩:=hbx w (PG _ _);have hlt:B<w.heap.size:=hB0.lt;have hB2:=hB0.below b2;have hne:w.heap.size≠B:=by omega
 obtain⟨W3,hW3⟩:∃W3,((((((((((W2).setCell ⟨B,3,none⟩ (.int .i64 0)).setCell ⟨B,4,none⟩ (.int .i64 0)).setCell ⟨B,5,none⟩ (.int .i64 0)).setCell ⟨B,6,none⟩ (.slice none 0 0)).setCell ⟨B,7,none⟩ (.slice none 0 0)).setCell ⟨B,8,none⟩ (.slice none 0 0)).setCell ⟨B,9,none⟩ (.string ⟨#[]⟩)).setCell ⟨B,10,none⟩ (.slice none 0 0)).setCell ⟨B,11,none⟩ (.bool false)).setCell ⟨B,12,none⟩ (.bool false)=W3:=⟨_,rfl⟩;have hE3:Exc (fun k=>k=B) W2 W3:=by rw[←hW3];exact(((((((((((Exc.refl (fun k=>k=B) W2).set 3 _ (fun _=>rfl)).set 4 _ (fun _=>rfl)).set 5 _ (fun _=>rfl)).set 6 _ (fun _=>rfl)).set 7 _ (fun _=>rfl)).set 8 _ (fun _=>rfl)).set 9 _ (fun _=>rfl)).set 10 _ (fun _=>rfl)).set 11 _ (fun _=>rfl)).set 12 _ (fun _=>rfl))
 have kx3:=hE3.blk kx hne;obtain⟨Y',S,hM,hE,hY',hG,hS⟩:=hW W2 W3 W3.drew b2 hE3 (fun b wv tv dv hB=>by rw[←hW3];exact(((((((((hB.set 3 (.int .i64 0)).set 4 (.int .i64 0)).set 5 (.int .i64 0)).set 6 (.slice none 0 0)).set 7 (.slice none 0 0)).set 8 (.slice none 0 0)).set 9 (.string ⟨#[]⟩)).set 10 (.slice none 0 0)).set 11 (.bool false)).set 12 (.bool false)) (Exc.of (PG _ W3).drew);obtain⟨b,X,R,c0,hXY,hBI,hAF⟩:=hM.call I hT;have HA:Hid (Calls Tryz.prog 94 #[ak b,.agg #[.int .i64 6,.int .i64 v0.1,.int .i64 0,.slice none 0 0,.slice none 0 0,.slice ra v0.2.length rc,.string ⟨#[]⟩,.slice none 0 0,.bool false,.bool false]] W3.drew fun e w'=>e=.returned (.tuple #[])∧aV BI w0 Y w B (endV s v0) w'):=zH (by
  have hnd:qK S W3.drew ⟨6,v0.1,0,aj,aj,(ra,v0.2.length,rc),[],aj,false,false⟩ (.mk ⟨6,v0.1,0,[],v0.2,bS⟩ []):=⟨⟨rfl,rfl,rfl,FsS.nil _ _ _ _,hG,rfl,TrS.nil _ _,rfl,rfl⟩,NsS.nil _ _⟩;have hs:=hE.size;refine(I.add (S:=S) (hBI _ (PG _ _)).1 (hBI _ (PG _ _)).2.1 hnd (fun k q=>⟨by have:=(hS k q).1;omega,fun e=>(hS k q).2 (hXY k e)⟩) (by rw[rV];show btl s.b+_≤_;omega)).mono ?_;rintro e w' ⟨rfl,ha⟩;exact⟨rfl,aV.trans hE (fun k q=> .inl (hY' k q)) (hAF S _ _ w' (PG _ _) (fun k q=>(hS k q).2) ha)⟩)
 have c0':W3.cell? ⟨B,0,none⟩=some (ak b):=c0;have a0:=hB0.cell 3;have e0:=hB2.cell 3;have f0:W2.frozen? ⟨B,3,none⟩=false:=hB2.frozen (by simp[mnC]);have y0:=kx3.cell 0;have a1:=hB0.cell 4;have e1:=hB2.cell 4;have f1:W2.frozen? ⟨B,4,none⟩=false:=hB2.frozen (by simp[mnC]);have y1:=kx3.cell 1;have a2:=hB0.cell 5;have e2:=hB2.cell 5;have f2:W2.frozen? ⟨B,5,none⟩=false:=hB2.frozen (by simp[mnC]);have y2:=kx3.cell 2;have a3:=hB0.cell 6;have e3:=hB2.cell 6;have f3:W2.frozen? ⟨B,6,none⟩=false:=hB2.frozen (by simp[mnC]);have y3:=kx3.cell 3;have a4:=hB0.cell 7;have e4:=hB2.cell 7;have f4:W2.frozen? ⟨B,7,none⟩=false:=hB2.frozen (by simp[mnC]);have y4:=kx3.cell 4;have a5:=hB0.cell 8;have e5:=hB2.cell 8;have f5:W2.frozen? ⟨B,8,none⟩=false:=hB2.frozen (by simp[mnC]);have y5:=kx3.cell 5;have a6:=hB0.cell 9;have e6:=hB2.cell 9;have f6:W2.frozen? ⟨B,9,none⟩=false:=hB2.frozen (by simp[mnC]);have y6:=kx3.cell 6;have a7:=hB0.cell 10;have e7:=hB2.cell 10;have f7:W2.frozen? ⟨B,10,none⟩=false:=hB2.frozen (by simp[mnC]);have y7:=kx3.cell 7;have a8:=hB0.cell 11;have e8:=hB2.cell 11;have f8:W2.frozen? ⟨B,11,none⟩=false:=hB2.frozen (by simp[mnC]);have y8:=kx3.cell 8;have a9:=hB0.cell 12;have e9:=hB2.cell 12;have f9:W2.frozen? ⟨B,12,none⟩=false:=hB2.frozen (by simp[mnC]);have y9:=kx3.cell 9;simp only[mnC,af,pv,aj,fM,PD,PE]at a0 e0 y0 a1 e1 y1 a2 e2 y2 a3 e3 y3 a4 e4 y4 a5 e5 y5 a6 e6 y6 a7 e7 y7 a8 e8 y8 a9 e9 y9;have HW2:=zH hW2;have HW3:=zH hW3;clear h hv hb hbx hW b2 kx hB0 hB2 hE3 kx3 hM hE hY' hG hS c0 hXY hBI hAF hW2 hW3;go_enter Tryz.func60,Tryz.ntmps60
 go_upto_region 1 with fail
 rw[HW2.out];have hW3:=HW3.out;go_wp2_with fail
 go_still_tail 5,(by kernel_rfl)
 change wpList _ _ _ _ _ W3.drew;go_wp2_with fail
 refine HA.out.mono ?_;rintro e w2 ⟨rfl,m2⟩;have M2:=zH m2;clear m2;go_wp2_with fail
 go_end0;exact⟨rfl,M2.out⟩
def BZ (TB:World→Prop)(tab:Int→List Txt→Tab×List Dgn)(okl:Int→Prop):Prop:= ∀(ln:Int) (L:List Txt) (v:Value) (V:World),okl ln→TB V→Ss V v L→lnT L≤40000→(∀s∈L,s.length≤2000)→
 Calls Tryz.prog 93 #[.int .i64 (IntKind.i64.wrap (ln+1)),v] V fun e w'=> ∃(r:PV) (vd:Value),e=.returned (.tuple #[tH (tab ln L).1 r,vd])∧TrS (fun b=>V.heap.size≤b∧b<w'.heap.size) w' (pv r) (tab ln L).1.rows∧bG V.heap.size w' vd (tab ln L).2∧Below V.heap.size V w'
theorem Mc (ln:Int)(t:Tab):nlN (.mk ⟨7,ln,0,[],[],t⟩ [])=3+t.cols.length+cZ t.rows:=by simp[nlN,nlL,hdl,lens]
theorem MM0.cells (h:MM0 BI w0 Y Q w B th t D T):∃b tv dv,B<w.heap.size∧Y B∧ ∀W,Below w.heap.size w W→Blk W B 79 (mnC b th (.pointer none) 0 0 fM tv dv):=by
 obtain⟨b,tv,dv,h1,h2,h3,-⟩:=h.at;exact⟨b,tv,dv,h1,h2,fun W hW=>h3.below hW⟩
theorem QUc {P:Prop}(h:P:=by
 obtain⟨F,hF⟩:∃W,w6.setCell ⟨B,14,none⟩ (.slice fa fn fc)=W:=⟨_,rfl⟩;rw[hF];obtain⟨V7,hV7⟩:∃W,((((F).setCell ⟨w.heap.size,6,none⟩ (.string ⟨T.1.cols.toArray⟩)).setCell ⟨w.heap.size,7,none⟩ (.slice r1 rn rc)).setCell ⟨w.heap.size,8,none⟩ (.bool T.1.box)).setCell ⟨w.heap.size,9,none⟩ (.bool T.1.all)=W:=⟨_,rfl⟩;obtain⟨V8,hV8⟩:∃W,V7.setCell ⟨B,13,none⟩ (.slice none 0 0)=W:=⟨_,rfl⟩;obtain⟨p1,p2,⟨p3,p4⟩,p5,b,p6,HA⟩:=HX.out F V7 V8 hF hV7 hV8;simp only[af,pv,aj]at HA;have HV7:=zH hV7;have HV8:=zH hV8;clear hF hV7 hV8 HX;obtain⟨x13,u13⟩:=P9.1 p3;have t0:=p1 0 _ rfl;have t1:=p1 1 _ rfl;have t2:=p1 2 _ rfl;have t3:=p1 3 _ rfl;obtain⟨x6,u6⟩:=P9.1 (p2 6 (by decide)).1;have v6:=(p2 6 (by decide)).2;obtain⟨x7,u7⟩:=P9.1 (p2 7 (by decide)).1;have v7:=(p2 7 (by decide)).2;obtain⟨x8,u8⟩:=P9.1 (p2 8 (by decide)).1;have v8:=(p2 8 (by decide)).2;obtain⟨x9,u9⟩:=P9.1 (p2 9 (by decide)).1;have v9:=(p2 9 (by decide)).2;have hV7:=HV7.out;have hV8:=HV8.out;go_upto_region 8 with fail
 clear hV7 hV8;have n0:=p5 0 _ rfl;have n1:=p5 1 _ rfl;have n2:=p5 2 _ rfl;have n3:=p5 3 _ rfl;have n4:=p5 4 _ rfl;have n5:=p5 5 _ rfl;have n6:=p5 6 _ rfl;have n7:=p5 7 _ rfl;have n8:=p5 8 _ rfl;have n9:=p5 9 _ rfl;simp only[pv,aj]at n0 n1 n2 n3 n4 n5 n6 n7 n8 n9;clear t0 t1 t2 t3 u6 u7 u8 u9 v6 v7 v8 v9 u13 p1 p2 p3 p4 p5;go_still_tail 5,(by kernel_rfl)
 change wpList _ _ _ _ _ V8.drew;go_wp2_with fail
 refine HA.out.mono ?_;rintro e w9 ⟨rfl,m2⟩;have M2:=zH m2;clear m2;go_wp2_with fail
 go_end0;exact⟨rfl,M2.out⟩):P:=h
theorem wY (I:bu BI TB)(h:MM BI w0 Y w B s)(hT:TB w0){tab:Int→List Txt→Tab×List Dgn}{okl:Int→Prop}(hTab:BZ TB tab okl){g0:Int×List Txt}(hg:s.g=some g0)(hok:okl g0.1)(hl:lnT g0.2≤40000)(hL:∀x∈g0.2,x.length≤2000)
  (hb:btl s.b+((tab g0.1 g0.2).1.cols.length+cZ (tab g0.1 g0.2).1.rows)+10≤30000) (hD:s.d.length+(tab g0.1 g0.2).2.length≤900000):
  Calls Tryz.prog 60 #[ak B] w (dK BI w0 Y w B (.tuple #[]) {s with b:=qI s.b (.mk ⟨7,g0.1,0,[],[],(tab g0.1 g0.2).1⟩ []),d:=s.d++(tab g0.1 g0.2).2,g:=none}):=by
 have hvn:s.v=none:=by obtain⟨-,-,X,R,lo,b,wv,rv,tv,dv,h3,-⟩:=h;exact h3.ok.vg.resolve_right (by rw[hg];simp)
 have hwn:s.w=none:=by obtain⟨-,-,X,R,lo,b,wv,rv,tv,dv,h3,-⟩:=h;exact h3.ok.gw (by rw[hg];simp)
 obtain⟨b0,wv,rv,tv,dv,hlt,hrn,hbx⟩:=h.box_at I;have hkd:kdM s=7:=by unfold kdM;rw[hvn,hg]
 have hln:lnM s=g0.1:=by unfold lnM;rw[hvn,hg]
 obtain rfl:=hrn hvn;rw[hkd,hln]at hbx;obtain⟨W2,hW2⟩:∃W2,(w.alloc (.cells #[.int .i64 7,.int .i64 g0.1,.int .i64 0,.slice none 0 0,.slice none 0 0,.slice none 0 0,.string ⟨#[]⟩,.slice none 0 0,.bool false,.bool false] 58))=W2:=⟨_,rfl⟩;have b2:Below w.heap.size w W2:=by rw[←hW2];exact ae w _
 have hz2:W2.heap.size=w.heap.size+1:=by rw[←hW2,PS]
 have kx:Blk W2 w.heap.size 58 (af ⟨7,g0.1,0,aj,aj,aj,[],aj,false,false⟩):=by rw[←hW2];exact PK w _
 have hB0:=hbx w (PG _ _);have hB2:=hB0.below b2;have hne:w.heap.size≠B:=by omega
 obtain⟨W3,hW3⟩:∃W3,((((((((((W2).setCell ⟨B,3,none⟩ (.int .i64 0)).setCell ⟨B,4,none⟩ (.int .i64 0)).setCell ⟨B,5,none⟩ (.int .i64 0)).setCell ⟨B,6,none⟩ (.slice none 0 0)).setCell ⟨B,7,none⟩ (.slice none 0 0)).setCell ⟨B,8,none⟩ (.slice none 0 0)).setCell ⟨B,9,none⟩ (.string ⟨#[]⟩)).setCell ⟨B,10,none⟩ (.slice none 0 0)).setCell ⟨B,11,none⟩ (.bool false)).setCell ⟨B,12,none⟩ (.bool false)=W3:=⟨_,rfl⟩;have hE3:Exc (fun k=>k=B) W2 W3:=by rw[←hW3];exact(((((((((((Exc.refl (fun k=>k=B) W2).set 3 _ (fun _=>rfl)).set 4 _ (fun _=>rfl)).set 5 _ (fun _=>rfl)).set 6 _ (fun _=>rfl)).set 7 _ (fun _=>rfl)).set 8 _ (fun _=>rfl)).set 9 _ (fun _=>rfl)).set 10 _ (fun _=>rfl)).set 11 _ (fun _=>rfl)).set 12 _ (fun _=>rfl))
 have kx3:=hE3.blk kx hne;have hz3:w.heap.size<W3.heap.size:=by have:=hE3.size;omega
 obtain⟨hM3,hEY3⟩:=h.toG I hg b2 hE3 (by omega) (fun b tv dv hB=>by rw[←hW3];exact(((((((((hB.set 3 (.int .i64 0)).set 4 (.int .i64 0)).set 5 (.int .i64 0)).set 6 (.slice none 0 0)).set 7 (.slice none 0 0)).set 8 (.slice none 0 0)).set 9 (.string ⟨#[]⟩)).set 10 (.slice none 0 0)).set 11 (.bool false)).set 12 (.bool false));have hT3:∀V,Below W3.heap.size W3 V→TB V:=fun V hV=>I.tb hT (hM3.1.trans (hV.mono hM3.1.size))
 obtain⟨bq,tq,dq,hBq,hYB,hboxq,hSq,⟨ta,tc,rfl⟩,-⟩:=hM3.at;have hw0:=h.1.size;obtain⟨T,hTT⟩:∃T,tab g0.1 g0.2=T:=⟨_,rfl⟩;rw[hTT]at hb hD⊢;have HP:Hid (∀V,Below W3.heap.size W3 V→Calls Tryz.prog 93 #[.int .i64 (IntKind.i64.wrap (g0.1+1)),.slice ta g0.2.length tc] V fun e w'=> ∃r1 rn rc da dn dc,e=.returned (.tuple #[.agg #[.string ⟨T.1.cols.toArray⟩,.slice r1 rn rc,.bool T.1.box,.bool T.1.all],.slice da dn dc])∧Below V.heap.size V w'∧Hid (TrS (fun b=>V.heap.size≤b∧b<w'.heap.size) w' (.slice r1 rn rc) T.1.rows∧bG V.heap.size w' (.slice da dn dc) T.2)):=zH (fun V hV=>by
  refine(hTab g0.1 g0.2 (.slice ta g0.2.length tc) V hok (hT3 V hV) (Fs.below hSq hV) hl hL).mono ?_;rintro e w' ⟨⟨r1,rn,rc⟩,vd,rfl,q1,q2,q3⟩;obtain⟨da,dc,rfl⟩:=(ag.sl ax q2).len;rw[hTT]at q1 q2⊢;exact⟨r1,rn,rc,da,_,dc,rfl,q3,zH ⟨q1,q2⟩⟩)
 have HR:Hid (∀(Vf:World) (P:Nat) (S:Nat→Prop) r1 rn rc da dn dc,Below W3.heap.size W3 Vf→W3.heap.size≤P→P<Vf.heap.size→Blk Vf P 56 [.string ⟨T.1.cols.toArray⟩,.slice r1 rn rc,.bool T.1.box,.bool T.1.all]→TrS S Vf (.slice r1 rn rc) T.1.rows→(∀k,S k→W3.heap.size≤k∧k<Vf.heap.size∧k≠P)→Ds Vf (.slice da dn dc) T.2→
   ∃ea en ec fa fn fc w6,Vf.cell? ⟨B,14,none⟩=some (.slice ea en ec)∧(gQ #[.slice ea en ec,.slice da dn dc]).run Tryz.prog Vf=.ok (.value (.slice fa fn fc)) w6∧w6.cell? ⟨B,14,none⟩=some (.slice ea en ec)∧w6.frozen? ⟨B,14,none⟩=false∧
   ∀F V7 V8,w6.setCell ⟨B,14,none⟩ (.slice fa fn fc)=F→((((F).setCell ⟨w.heap.size,6,none⟩ (.string ⟨T.1.cols.toArray⟩)).setCell ⟨w.heap.size,7,none⟩ (.slice r1 rn rc)).setCell ⟨w.heap.size,8,none⟩ (.bool T.1.box)).setCell ⟨w.heap.size,9,none⟩ (.bool T.1.all)=V7→V7.setCell ⟨B,13,none⟩ (.slice none 0 0)=V8→
    (∀j u,([.string ⟨T.1.cols.toArray⟩,.slice r1 rn rc,.bool T.1.box,.bool T.1.all]:List Value)[j]? =some u→F.cell? ⟨P,j,none⟩=some u)∧(∀j,j<10→(F.cell? ⟨w.heap.size,j,none⟩).isSome=true∧F.frozen? ⟨w.heap.size,j,none⟩=false)∧
    ((V7.cell? ⟨B,13,none⟩).isSome=true∧V7.frozen? ⟨B,13,none⟩=false)∧(∀j u,(af ⟨7,g0.1,0,aj,aj,aj,T.1.cols,(r1,rn,rc),T.1.box,T.1.all⟩)[j]? =some u→V8.cell? ⟨w.heap.size,j,none⟩=some u)∧
    ∃b,V8.cell? ⟨B,0,none⟩=some (ak b)∧Hid (Calls Tryz.prog 94 #[ak b,.agg (af ⟨7,g0.1,0,aj,aj,aj,T.1.cols,(r1,rn,rc),T.1.box,T.1.all⟩).toArray] V8.drew fun e w'=>e=.returned (.tuple #[])∧aV BI w0 Y w B {s with b:=qI s.b (.mk ⟨7,g0.1,0,[],[],T.1⟩ []),d:=s.d++T.2,g:=none} w')):=zH (by
  intro Vf P S r1 rn rc da dn dc hVf hP1 hP2 hPB hTr hS hDs;have hMf:=hM3.keep I hVf;have hsf:=hVf.size;obtain⟨ev,fv,w6,Y6,p1,p2,p3,p4,hM6,hE6,hY6,⟨ea,ec,rfl⟩,⟨fa,fc,rfl⟩⟩:=hMf.dgs I hDs (by omega);refine⟨ea,_,ec,fa,_,fc,w6,p1,p2,p3,p4,?_⟩;rintro F V7 V8 rfl rfl rfl;obtain⟨F,hF⟩:∃F,w6.setCell ⟨B,14,none⟩ (.slice fa (s.d++T.2).length fc)=F:=⟨_,rfl⟩;rw[hF]at hM6 hE6⊢;have hYl3:=hM3.lt I;have hP6:=hE6.blk hPB (fun e=>by have:=hYl3 P e;omega);have hYw:¬Y w.heap.size:=fun e=>by have:=h.lt I _ e;omega
  have hN6:=hE6.blk (kx3.below hVf) hYw;obtain⟨b6,t6,d6,hB6l,hYB6,hB6⟩:=hM6.cells;have hB6':=hB6 F (PG _ _);have hs6:=hE6.size;obtain⟨V7,hV7⟩:∃V7,((((F).setCell ⟨w.heap.size,6,none⟩ (.string ⟨T.1.cols.toArray⟩)).setCell ⟨w.heap.size,7,none⟩ (.slice r1 rn rc)).setCell ⟨w.heap.size,8,none⟩ (.bool T.1.box)).setCell ⟨w.heap.size,9,none⟩ (.bool T.1.all)=V7:=⟨_,rfl⟩;have hE7:Exc (fun k=>k=w.heap.size) F V7:=by rw[←hV7];exact(((((Exc.refl (fun k=>k=w.heap.size) F).set 6 _ (fun _=>rfl)).set 7 _ (fun _=>rfl)).set 8 _ (fun _=>rfl)).set 9 _ (fun _=>rfl))
  have hN7:Blk V7 w.heap.size 58 (af ⟨7,g0.1,0,aj,aj,aj,T.1.cols,(r1,rn,rc),T.1.box,T.1.all⟩):=by rw[←hV7];exact((((hN6.set 6 (.string ⟨T.1.cols.toArray⟩)).set 7 (.slice r1 rn rc)).set 8 (.bool T.1.box)).set 9 (.bool T.1.all))
  have hB7:∀L,Blk F B 79 L→Blk V7 B 79 L:=fun L q=>hE7.blk q (fun e=>hne e.symm)
  rw[hV7];obtain⟨V8,hV8⟩:∃V8,V7.setCell ⟨B,13,none⟩ (.slice none 0 0)=V8:=⟨_,rfl⟩;have hE8:Exc (fun k=>k=B) V7 V8:=by rw[←hV8];exact(Exc.refl (fun k=>k=B) V7).set 13 _ (fun _=>rfl)
  have hN8:=hE8.blk hN7 hne;rw[hV8];have hEF:Exc (fun k=>k=B∨k=w.heap.size∨F.heap.size≤k) F V8:=(hE7.mono (fun k _ q=> .inr (.inl q))).trans (hE8.mono (fun k _ q=> .inl q)) (fun _ _ q=>q);obtain⟨Y8,hM8,hE9,hY8⟩:=hM6.fin I hEF (fun k q=>by omega) (fun b tv dv hB=>by rw[←hV8];exact(hB7 _ hB).set 13 fM);obtain⟨b,X,R,c0,hXY,hBI,hAF⟩:=hM8.call I hT;have hs8:=hE9.size;have hYF:∀k,Y8 k→Y k∨Vf.heap.size≤k:=fun k q=>hY6 k (hY8 k q)
  have hEw:Exc Y w V8:=((hEY3.trans (Exc.of (X:=Y) hVf) (fun _ _ q=>q)).trans hE6 (fun _ _ q=>q)).trans hE9 (fun k hk q=>q.elim (fun q=>(hY6 k q).elim id (fun z=>by omega)) (fun z=>by omega));have kS:Kp S Vf V8:=fun k q=>by
   have h1:=hS k q;have e1:F.heap[k]? =Vf.heap[k]? :=hE6.block k h1.2.1 (fun e=>by have:=hYl3 k e;omega);have e2:V8.heap[k]? =F.heap[k]? :=hEF.block k (by omega) (fun z=>by rcases z with z | z | z<;>omega);exact e2.trans e1
  refine⟨fun j u hu=>by rw[hP6.cell j];exact hu,fun j hj=>⟨by rw[hN6.cell j];simp[af,hj],hN6.frozen (by simp[af];omega)⟩,⟨by rw[(hB7 _ hB6').cell 13];rfl,(hB7 _ hB6').frozen (by simp[mnC])⟩,fun j u hu=>by rw[hN8.cell j];exact hu,b,c0,zH ?_⟩;have hnd:qK S V8.drew ⟨7,g0.1,0,aj,aj,aj,T.1.cols,(r1,rn,rc),T.1.box,T.1.all⟩ (.mk ⟨7,g0.1,0,[],[],T.1⟩ []):=⟨⟨rfl,rfl,rfl,FsS.nil _ _ _ _,GrS.nil _ _,rfl,hTr.keep kS,rfl,rfl⟩,NsS.nil _ _⟩;have hdr:Below V8.heap.size V8 V8.drew:=(PG _ _).drew;refine(I.add (S:=S) (hBI _ hdr).1 (hBI _ hdr).2.1 hnd (fun k q=>⟨by have:=(hS k q).2.1;show k<V8.heap.size;omega,fun e=>by have h1:=hS k q;rcases hYF k (hXY k e)with z | z;have:=hYl3 k z;omega;omega⟩) (by rw[Mc];show btl s.b+_≤_;omega)).mono ?_;rintro e w' ⟨rfl,ha⟩;have hm:=aV.trans hEw (fun k q=>(hYF k q).imp id (fun z=>by omega)) (hAF S _ _ w' hdr (fun k q e=>by have h1:=hS k q;rcases hYF k e with z | z;have:=hYl3 k z;omega;omega) ha);rw[hvn,hwn];exact⟨rfl,hm⟩)
 have HC1:Hid (∀V,Below W3.heap.size W3 V→V.cell? ⟨w.heap.size,1,none⟩=some (.int .i64 g0.1)∧V.cell? ⟨B,13,none⟩=some (.slice ta g0.2.length tc)):=zH (fun V hV=>⟨(kx3.below hV).cell 1,(hboxq.below hV).cell 13⟩);have a0:=hB0.cell 3;have e0:=hB2.cell 3;have f0:W2.frozen? ⟨B,3,none⟩=false:=hB2.frozen (by simp[mnC]);have y0:=kx3.cell 0;have a1:=hB0.cell 4;have e1:=hB2.cell 4;have f1:W2.frozen? ⟨B,4,none⟩=false:=hB2.frozen (by simp[mnC]);have y1:=kx3.cell 1;have a2:=hB0.cell 5;have e2:=hB2.cell 5;have f2:W2.frozen? ⟨B,5,none⟩=false:=hB2.frozen (by simp[mnC]);have y2:=kx3.cell 2;have a3:=hB0.cell 6;have e3:=hB2.cell 6;have f3:W2.frozen? ⟨B,6,none⟩=false:=hB2.frozen (by simp[mnC]);have y3:=kx3.cell 3;have a4:=hB0.cell 7;have e4:=hB2.cell 7;have f4:W2.frozen? ⟨B,7,none⟩=false:=hB2.frozen (by simp[mnC]);have y4:=kx3.cell 4;have a5:=hB0.cell 8;have e5:=hB2.cell 8;have f5:W2.frozen? ⟨B,8,none⟩=false:=hB2.frozen (by simp[mnC]);have y5:=kx3.cell 5;have a6:=hB0.cell 9;have e6:=hB2.cell 9;have f6:W2.frozen? ⟨B,9,none⟩=false:=hB2.frozen (by simp[mnC]);have y6:=kx3.cell 6;have a7:=hB0.cell 10;have e7:=hB2.cell 10;have f7:W2.frozen? ⟨B,10,none⟩=false:=hB2.frozen (by simp[mnC]);have y7:=kx3.cell 7;have a8:=hB0.cell 11;have e8:=hB2.cell 11;have f8:W2.frozen? ⟨B,11,none⟩=false:=hB2.frozen (by simp[mnC]);have y8:=kx3.cell 8;have a9:=hB0.cell 12;have e9:=hB2.cell 12;have f9:W2.frozen? ⟨B,12,none⟩=false:=hB2.frozen (by simp[mnC]);have y9:=kx3.cell 9;simp only[mnC,af,pv,aj,fM,PD,PE]at a0 e0 y0 a1 e1 y1 a2 e2 y2 a3 e3 y3 a4 e4 y4 a5 e5 y5 a6 e6 y6 a7 e7 y7 a8 e8 y8 a9 e9 y9;have HW2:=zH hW2;have HW3:=zH hW3;clear h hg hok hl hL hb hD hvn hwn hrn hbx hkd hln hlt b2 hz2 kx hB0 hB2 hne hE3 kx3 hz3 hM3 hEY3 hT3 hBq hYB hboxq hSq hw0 hTab hTT hW2 hW3;go_enter Tryz.func60,Tryz.ntmps60
 go_upto_region 1 with fail
 rw[HW2.out];have hW3:=HW3.out;go_upto_region 5 with fail
 clear hW3 a0 e0 f0 a1 e1 f1 a2 e2 f2 a3 e3 f3 a4 e4 f4 a5 e5 f5 a6 e6 f6 a7 e7 f7 a8 e8 f8 a9 e9 f9;obtain⟨W4,hW4⟩:∃W,W3.drew=W:=⟨_,rfl⟩;have b4:Below W3.heap.size W3 W4:=by rw[←hW4];exact(PG _ W3).drew
 have HB4:=zH b4;refine wp_region_held_drew (S:=(fun V=>Below W3.heap.size W3 V)) (by kernel_rfl) ?_ (fun hHeld=>?_)
 ·exact(PG _ W3).drew
 rw[hW4];clear hW4 b4;refine zK (i:=0) (v:= .pointer (some ⟨w.heap.size,1,none⟩)) rfl ?_;simp only[zA,Act.put];refine Qv (i:=1) (v:= .int .i64 g0.1) rfl (by kernel_rfl) (by kernel_rfl) (by kernel_rfl) (fun _ _ _ h=>h) (Or.inl ⟨by rfl,fun w' hSw=>by(try dsimp only at hSw);have q1:=(HC1.out _ hSw).1;clear hSw;go_simp⟩) (by assumption) ?_;simp only[zA,Act.put];refine zK (i:=2) (v:= .int .i64 (IntKind.i64.wrap (g0.1+1))) rfl ?_;simp only[zA,Act.put];refine zK (i:=3) (v:= .pointer (some ⟨B,0,none⟩)) rfl ?_;simp only[zA,Act.put];refine zK (i:=4) (v:= .pointer (some ⟨B,0,none⟩)) rfl ?_;simp only[zA,Act.put];refine zK (i:=5) (v:= .pointer (some ⟨B,13,none⟩)) rfl ?_;simp only[zA,Act.put];refine Qv (i:=6) (v:= .slice ta g0.2.length tc) rfl (by kernel_rfl) (by kernel_rfl) (by kernel_rfl) (fun _ _ _ h=>h) (Or.inl ⟨by rfl,fun w' hSw=>by(try dsimp only at hSw);have q1:=(HC1.out _ hSw).2;clear hSw;go_simp⟩) (by assumption) ?_;simp only[zA,Act.put];refine wpAnyH_ready (rs:=[7,11]) (by kernel_rfl) (by simp) ?_;refine AllReadyH.cons rfl (fun K hK=>?_) (AllReadyH.cons rfl (fun K hK=>?_) AllReadyH.nil)
 ·try simp only[zG]
  go_simp;go_at_call 93
  refine(HP.out W4 HB4.out).mono ?_;rintro e w5 ⟨r1,rn,rc,da,dn,dc,rfl,b5,HK⟩;have HB5:=zH b5;clear b5;go_wp2_with fail
  refine hK.out _ _ ?_ (fun hHeld=>?_)
  ·exact HB4.out.trans (HB5.out.mono HB4.out.size)
  clear hK K
  try simp only[zA,Act.put]
  refine zK (i:=8) (v:= .tuple #[.agg #[.string ⟨T.1.cols.toArray⟩,.slice r1 rn rc,.bool T.1.box,.bool T.1.all],.slice da dn dc]) rfl ?_;simp only[zA,Act.put];refine zK (i:=9) (v:= .agg #[.string ⟨T.1.cols.toArray⟩,.slice r1 rn rc,.bool T.1.box,.bool T.1.all]) rfl ?_;simp only[zA,Act.put];refine zK (i:=10) (v:= .slice da dn dc) rfl ?_;simp only[zA,Act.put];refine wpAnyH_ready (rs:=[11]) (by kernel_rfl) (by simp) ?_;refine AllReadyH.cons rfl (fun K hK=>?_) AllReadyH.nil
  try simp only[zG]
  go_simp;refine hK.out _ _ ?_ (fun hHeld=>?_)
  ·exact(HB4.out.trans (HB5.out.mono HB4.out.size)).alloc (HB4.out.trans (HB5.out.mono HB4.out.size)).size _
  clear hK K
  try simp only[zA,Act.put]
  refine wpAnyH_ready (rs:=[12]) (by kernel_rfl) (by simp) ?_;refine AllReadyH.cons rfl (fun K hK=>?_) AllReadyH.nil
  try simp only[zG]
  go_simp;refine hK.out _ _ ?_ (fun hHeld=>?_)
  ·exact(HB4.out.trans (HB5.out.mono HB4.out.size)).alloc (HB4.out.trans (HB5.out.mono HB4.out.size)).size _
  clear hK K
  try simp only[zA,Act.put]
  refine zK (i:=13) (v:= .slice da dn dc) rfl ?_;simp only[zA,Act.put];refine Qd (by kernel_rfl) ?_ _;obtain⟨Vf,hVf⟩:∃W,w5.alloc (.cells #[.string ⟨T.1.cols.toArray⟩,.slice r1 rn rc,.bool T.1.box,.bool T.1.all] 56)=W:=⟨_,rfl⟩;have g4:=HB4.out;have g5:=HB5.out;have hBf:Below w5.heap.size w5 Vf:=by rw[←hVf];exact ae w5 _
  have hKf:Blk Vf w5.heap.size 56 [.string ⟨T.1.cols.toArray⟩,.slice r1 rn rc,.bool T.1.box,.bool T.1.all]:=by rw[←hVf];exact PK w5 _
  have s4:=g4.size;have s5:=g5.size;have b3f:Below W3.heap.size W3 Vf:=(g4.trans (g5.mono s4)).trans (hBf.mono (by omega));obtain⟨ea,en,ec,fa,fn,fc,w6,z1,hr,z2,z3,HX⟩:=HR.out Vf w5.heap.size (fun b=>W4.heap.size≤b∧b<w5.heap.size) r1 rn rc da dn dc b3f (by omega) hKf.lt hKf (HK.out.1.keep (fun k q=>hBf.block k q.2)) (fun k q=>⟨by omega,by have:=hKf.lt;omega,by omega⟩) (ag.sl ax (HK.out.2.keep hBf));rw[hVf];have HX:=zH HX;clear hVf hKf hBf b3f s4 s5 g4 g5 HK HB4 HB5;go_upto_region 7 with fail
  exact QUc
 ·try simp only[zG]
  go_simp;obtain⟨W5,hW5⟩:∃W,W4.alloc (.cells #[.string ⟨#[]⟩,.slice none 0 0,.bool false,.bool false] 56)=W:=⟨_,rfl⟩;rw[hW5];have HB6:Hid (Below W3.heap.size W3 W5):=zH (by rw[←hW5];exact HB4.out.alloc HB4.out.size _);have HK5:Hid (Blk W5 W4.heap.size 56 [.string ⟨#[]⟩,.slice none 0 0,.bool false,.bool false]):=zH (by rw[←hW5];exact PK W4 (.cells #[.string ⟨#[]⟩,.slice none 0 0,.bool false,.bool false] 56));have HSZ:Hid (W5.heap.size=W4.heap.size+1):=zH (by rw[←hW5];exact PS _ _);clear hW5;refine hK.out _ _ ?_ (fun hHeld=>?_)
  ·exact HB6.out
  clear hK K
  try simp only[zA,Act.put]
  refine wpAnyH_ready (rs:=[7]) (by kernel_rfl) (by simp) ?_;refine AllReadyH.cons rfl (fun K hK=>?_) AllReadyH.nil;go_simp;go_at_call 93
  refine(HP.out W5 HB6.out).mono ?_;rintro e w5 ⟨r1,rn,rc,da,dn,dc,rfl,b5,HK⟩;have HB5:=zH b5;clear b5;go_wp2_with fail
  refine hK.out _ _ ?_ (fun hHeld=>?_)
  ·exact HB6.out.trans (HB5.out.mono HB6.out.size)
  clear hK K
  try simp only[zA,Act.put]
  refine zK (i:=8) (v:= .tuple #[.agg #[.string ⟨T.1.cols.toArray⟩,.slice r1 rn rc,.bool T.1.box,.bool T.1.all],.slice da dn dc]) rfl ?_;simp only[zA,Act.put];refine zK (i:=9) (v:= .agg #[.string ⟨T.1.cols.toArray⟩,.slice r1 rn rc,.bool T.1.box,.bool T.1.all]) rfl ?_;simp only[zA,Act.put];refine zK (i:=10) (v:= .slice da dn dc) rfl ?_;simp only[zA,Act.put];have HC5:Hid (Blk w5 W4.heap.size 56 [.string ⟨#[]⟩,.slice none 0 0,.bool false,.bool false]):=zH (HK5.out.below HB5.out);have o0:=HC5.out.cell 0;have o1:=HC5.out.cell 1;have o2:=HC5.out.cell 2;have o3:=HC5.out.cell 3;have r0:=HC5.out.frozen (j:=0) (by simp);have r1':=HC5.out.frozen (j:=1) (by simp);have r2:=HC5.out.frozen (j:=2) (by simp);have r3:=HC5.out.frozen (j:=3) (by simp);simp only[PD,PE]at o0 o1 o2 o3;refine wpAnyH_ready (rs:=[12]) (by kernel_rfl) (by simp) ?_;refine AllReadyH.cons rfl (fun K hK=>?_) AllReadyH.nil
  try simp only[zG]
  go_simp;refine hK.out _ _ ?_ (fun hHeld=>?_)
  ·exact(HB6.out.trans (HB5.out.mono HB6.out.size)).trans (Exc.below (((((Exc.refl (fun k=>k=W4.heap.size) w5).set 0 _ (fun _=>rfl)).set 1 _ (fun _=>rfl)).set 2 _ (fun _=>rfl)).set 3 _ (fun _=>rfl)) (by have:=HB6.out.size;have:=HB5.out.size;omega) (fun k hk e=>by have:=HB4.out.size;omega))
  clear o0 o1 o2 o3 r0 r1' r2 r3 HC5;clear hK K
  try simp only[zA,Act.put]
  refine zK (i:=13) (v:= .slice da dn dc) rfl ?_;simp only[zA,Act.put];refine Qd (by kernel_rfl) ?_ _;obtain⟨Vf,hVf⟩:∃W,((((w5).setCell ⟨W4.heap.size,0,none⟩ (.string ⟨T.1.cols.toArray⟩)).setCell ⟨W4.heap.size,1,none⟩ (.slice r1 rn rc)).setCell ⟨W4.heap.size,2,none⟩ (.bool T.1.box)).setCell ⟨W4.heap.size,3,none⟩ (.bool T.1.all)=W:=⟨_,rfl⟩;have g4:=HB4.out;have g5:=HB5.out;have hsz:=HSZ.out;have hE:Exc (fun k=>k=W4.heap.size) w5 Vf:=by rw[←hVf];exact(((((Exc.refl (fun k=>k=W4.heap.size) w5).set 0 _ (fun _=>rfl)).set 1 _ (fun _=>rfl)).set 2 _ (fun _=>rfl)).set 3 _ (fun _=>rfl))
  have hKf:Blk Vf W4.heap.size 56 [.string ⟨T.1.cols.toArray⟩,.slice r1 rn rc,.bool T.1.box,.bool T.1.all]:=by rw[←hVf];exact(((((HK5.out.below g5).set 0 (.string ⟨T.1.cols.toArray⟩)).set 1 (.slice r1 rn rc)).set 2 (.bool T.1.box)).set 3 (.bool T.1.all))
  have s4:=g4.size;have s5:=g5.size;have s6:=HB6.out.size;have s7:=hE.size;have b3f:Below W3.heap.size W3 Vf:=(HB6.out.trans (g5.mono s6)).trans (hE.below (by omega) (fun k hk e=>by omega));obtain⟨ea,en,ec,fa,fn,fc,w6,z1,hr,z2,z3,HX⟩:=HR.out Vf W4.heap.size (fun b=>W5.heap.size≤b∧b<w5.heap.size) r1 rn rc da dn dc b3f (by omega) hKf.lt hKf (HK.out.1.keep (fun k q=>hE.block k q.2 (fun e=>by omega))) (fun k q=>⟨by omega,by omega,by omega⟩) (ag.sl ax (HK.out.2.kp (fun k q=>hE.block k (HK.out.2.ltb q) (fun e=>by have:=(HK.out.2.ty q).1;omega))));rw[hVf];have HX:=zH HX;clear hVf hE hKf b3f s4 s5 s6 s7 g4 g5 HK HB4 HB5 HB6 HK5 HSZ;go_upto_region 7 with fail
  exact QUc
end
section
variable {BI:BIT}{TB:World→Prop}{w w0:World}{B:Nat}{s:Md}{Y:Nat→Prop}
theorem aV.seq {s1:Md}{w1:World}(h:aV BI w0 Y w B s1 w1):∃Y1,MM BI w0 Y1 w1 B s1∧Exc Y w w1∧(∀k,Y1 k→Y k∨w.heap.size≤k)∧ ∀{s2:Md} {w2:World},aV BI w0 Y1 w1 B s2 w2→aV BI w0 Y w B s2 w2:=by
 obtain⟨Y1,h1,h2,h3⟩:=h;exact⟨Y1,h1,h2,h3,fun q=>aV.trans h2 h3 q⟩
theorem Fq (I:bu BI TB)(h:MM BI w0 Y w B s){F1 F2:Nat}{kd:Int}(hF1:Blk w F1 74 [ak B])(hF2:Blk w F2 3 [.int .i64 kd]){x:RV}{W1:World}(b1:Below w.heap.size w W1)(kx:Blk W1 w.heap.size 33 (ai x)):
  ∀V,Below W1.heap.size W1 V→V.cell? ⟨w.heap.size,0,none⟩=some (.int .i64 x.1)∧V.cell? ⟨F1,0,none⟩=some (ak B)∧V.cell? ⟨F2,0,none⟩=some (.int .i64 kd)∧V.cell? ⟨B,3,none⟩=some (.int .i64 (kdM s)):=fun V hV=>by
 have b2:=b1.trans (hV.mono b1.size);exact⟨(kx.below hV).cell 0,(hF1.below b2).cell 0,(hF2.below b2).cell 0,h.kd I V b2⟩
theorem QUd {P:Prop}(h:P:=by
 clear hW1;go_quiet (fail)
 have D1:Hid (Below W1.heap.size W1 (W1.drewN nq)):=zH (below_drewN (PG _ W1) nq);have HT2:=zH (HT.out (W1.drewN nq) D1.out);obtain⟨y0,y1,y2,y3⟩:=HC.out (W1.drewN nq) D1.out;clear HT HC z0 z1 z2 z3;go_wp2_with fail
 refine HT2.out.mono ?_;rintro e w2 ⟨rfl,m2⟩;have M2:=zH m2;clear m2;go_wp2_with fail
 go_end0;exact⟨rfl,M2.out⟩):P:=h
theorem JD (I:bu BI TB)(h:MM BI w0 Y w B s)(x:RV)(kd:Int)(hkd:kdM s≠kd)(F1 F2:Nat)(hF1:Blk w F1 74 [ak B])(hF2:Blk w F2 3 [.int .i64 kd])(hD:s.d.length≤500000):
  Calls Tryz.prog 90 #[.agg (ai x).toArray,.pointer (some ⟨F1,0,none⟩),.pointer (some ⟨F2,0,none⟩)] w (dK BI w0 Y w B (.tuple #[]) (aD s 6 x.1)):=by
 obtain⟨W1,hW1,b1,kx⟩:=aT (x:=x) w;have HC:=zH (Fq I h hF1 hF2 b1 kx);have HT:Hid (∀V,Below W1.heap.size W1 V→Calls Tryz.prog 28 #[ak B,.int .i64 6,.int .i64 x.1] V fun e w'=>e=.returned (.tuple #[])∧aV BI w0 Y w B (aD s 6 x.1) w'):=zH (fun V hV=>by
  have b2:=b1.trans (hV.mono b1.size);refine(dH I (h.keep I b2) 6 x.1 hD).mono ?_;rintro e w' ⟨rfl,m⟩;exact⟨rfl,m.pre b2⟩)
 obtain⟨sf,hsf⟩:∃sf,aD s 6 x.1=sf:=⟨_,rfl⟩;rw[hsf]at HT⊢;obtain⟨z0,z1,z2,z3⟩:=HC.out W1 (PG _ _);have hk:=hkd;obtain⟨kq,hq⟩:∃q,kdM s=q:=⟨_,rfl⟩;rw[hq]at HC z3 hk;obtain⟨xl,xm,⟨va,vn,vc⟩,xt⟩:=x;simp only[ai,bE]at hW1 HT HC z0⊢;clear h hkd hF1 hF2 hD b1 kx hsf hq;go_enter Tryz.func90,Tryz.ntmps90
 go_upto_region 1 with fail
 exact QUd
theorem GM (I:bu BI TB)(h:MM BI w0 Y w B s)(x:RV)(kd:Int)(hkd:kdM s=kd)(F1 F2:Nat)(hF1:Blk w F1 74 [ak B])(hF2:Blk w F2 3 [.int .i64 kd]){sf:Md}
  (hA:∀V,MM BI w0 Y V B s→Calls Tryz.prog 60 #[ak B] V (dK BI w0 Y V B (.tuple #[]) sf)):
  Calls Tryz.prog 90 #[.agg (ai x).toArray,.pointer (some ⟨F1,0,none⟩),.pointer (some ⟨F2,0,none⟩)] w (dK BI w0 Y w B (.tuple #[]) sf):=by
 obtain⟨W1,hW1,b1,kx⟩:=aT (x:=x) w;have HC:=zH (Fq I h hF1 hF2 b1 kx);have HT:Hid (∀V,Below W1.heap.size W1 V→Calls Tryz.prog 60 #[ak B] V fun e w'=>e=.returned (.tuple #[])∧aV BI w0 Y w B sf w'):=zH (fun V hV=>by
  have b2:=b1.trans (hV.mono b1.size);refine(hA V (h.keep I b2)).mono ?_;rintro e w' ⟨rfl,m⟩;exact⟨rfl,m.pre b2⟩)
 obtain⟨z0,z1,z2,z3⟩:=HC.out W1 (PG _ _);rw[hkd]at HC z3;obtain⟨xl,xm,⟨va,vn,vc⟩,xt⟩:=x;simp only[ai,bE]at hW1 HC z0⊢;clear h hkd hF1 hF2 b1 kx hA;go_enter Tryz.func90,Tryz.ntmps90
 go_upto_region 1 with fail
 exact QUd
theorem MM.ln (h:MM BI w0 Y w B s)(I:bu BI TB):w.cell? ⟨B,1,none⟩=some (.bool s.th)∧w.cell? ⟨B,3,none⟩=some (.int .i64 (kdM s))∧w.cell? ⟨B,4,none⟩=some (.int .i64 (lnM s)):=by
 obtain⟨b,wv,rv,tv,dv,h1,h2,h3⟩:=h.box_at I;have h4:=h3 w (PG _ _);exact⟨h4.cell 1,h4.cell 3,h4.cell 4⟩
theorem NS (I:bu BI TB)(h:MM BI w0 Y w B s){s1:Md}(hs1:upM s=s1)(hk:kdM s1=0)(hD:s.d.length≤400000)(hD1:s1.d.length≤500000):
  Calls Tryz.prog 30 #[ak B] w (dK BI w0 Y w B (.tuple #[]) (rO s1)):=by
 have HU:=zH (l9 I h (by omega));rw[hs1]at HU;have HS:Hid (∀V,aV BI w0 Y w B s1 V→V.cell? ⟨B,1,none⟩=some (.bool s1.th)∧V.cell? ⟨B,3,none⟩=some (.int .i64 0)∧Calls Tryz.prog 28 #[ak B,.int .i64 12,.int .i64 0] V fun e w'=>e=.returned (.tuple #[])∧aV BI w0 Y w B (aD s1 12 0) w'):=zH (fun V m=>by
  obtain⟨Y1,hM,-,-,hseq⟩:=m.seq;obtain⟨q1,q2,q3⟩:=hM.ln I;rw[hk]at q2;refine⟨q1,q2,(dH I hM 12 0 hD1).mono ?_⟩;rintro e w' ⟨rfl,m2⟩;exact⟨rfl,hseq m2⟩)
 clear h hs1 hk hD hD1;unfold rO
 cases hth:s1.th with
 | true=>
  rw[PZ rfl];rw[hth]at HS;clear hth;go_enter Tryz.func30,Tryz.ntmps30
  go_wp2_with fail
  refine HU.out.mono ?_;rintro e w2 ⟨rfl,m2⟩;obtain⟨q1,q2,-⟩:=HS.out w2 m2;have M2:=zH m2;clear m2 HS HU;go_wp2_with fail
  go_end0;exact⟨rfl,M2.out⟩
 | false=>
  rw[PO (by simp)];rw[hth]at HS;clear hth;go_enter Tryz.func30,Tryz.ntmps30
  go_wp2_with fail
  refine HU.out.mono ?_;rintro e w2 ⟨rfl,m2⟩;obtain⟨q1,q2,ht⟩:=HS.out w2 m2;have HT:=zH ht;clear m2 HS HU ht;go_wp2_with fail
  refine HT.out.mono ?_;rintro e w3 ⟨rfl,m3⟩;have M3:=zH m3;clear m3;go_wp2_with fail
  go_end0;exact⟨rfl,M3.out⟩
theorem JF (I:bu BI TB)(h:MM BI w0 Y w B s){s1 s3:Md}(hs1:upM s=s1)(hk:kdM s1≠0)(hD:s.d.length≤400000)(hD1:s1.d.length≤500000)(hD3:s3.d.length≤500000)
  (hA:∀V Y1,MM BI w0 Y1 V B (aD s1 7 (lnM s1))→Calls Tryz.prog 60 #[ak B] V (dK BI w0 Y1 V B (.tuple #[]) s3)):
  Calls Tryz.prog 30 #[ak B] w (dK BI w0 Y w B (.tuple #[]) (rO s3)):=by
 have HU:=zH (l9 I h (by omega));rw[hs1]at HU;have H1:Hid (∀V,aV BI w0 Y w B s1 V→V.cell? ⟨B,3,none⟩=some (.int .i64 (kdM s1))∧V.cell? ⟨B,4,none⟩=some (.int .i64 (lnM s1))∧Hid (Calls Tryz.prog 28 #[ak B,.int .i64 7,.int .i64 (lnM s1)] V fun e w'=>e=.returned (.tuple #[])∧Hid (aV BI w0 Y w B (aD s1 7 (lnM s1)) w'))):=zH (fun V m=>by
  obtain⟨Y1,hM,-,-,hseq⟩:=m.seq;obtain⟨q1,q2,q3⟩:=hM.ln I;refine⟨q2,q3,zH ((dH I hM 7 (lnM s1) hD1).mono ?_)⟩;rintro e w' ⟨rfl,m2⟩;exact⟨rfl,zH (hseq m2)⟩)
 have H2:Hid (∀V,aV BI w0 Y w B (aD s1 7 (lnM s1)) V→Calls Tryz.prog 60 #[ak B] V fun e w'=>e=.returned (.tuple #[])∧Hid (aV BI w0 Y w B s3 w')):=zH (fun V m=>by
  obtain⟨Y1,hM,-,-,hseq⟩:=m.seq;refine(hA V Y1 hM).mono ?_;rintro e w' ⟨rfl,m2⟩;exact⟨rfl,zH (hseq m2)⟩)
 have HS:Hid (∀V,aV BI w0 Y w B s3 V→V.cell? ⟨B,1,none⟩=some (.bool s3.th)∧Hid (Calls Tryz.prog 28 #[ak B,.int .i64 12,.int .i64 0] V fun e w'=>e=.returned (.tuple #[])∧aV BI w0 Y w B (aD s3 12 0) w')):=zH (fun V m=>by
  obtain⟨Y1,hM,-,-,hseq⟩:=m.seq;obtain⟨q1,q2,q3⟩:=hM.ln I;refine⟨q1,zH ((dH I hM 12 0 hD3).mono ?_)⟩;rintro e w' ⟨rfl,m2⟩;exact⟨rfl,hseq m2⟩)
 obtain⟨kq,hq⟩:∃q,kdM s1=q:=⟨_,rfl⟩;obtain⟨lq,hlq⟩:∃q,lnM s1=q:=⟨_,rfl⟩;rw[hq]at H1 hk;rw[hlq]at H1 H2;clear h hs1 hD hD1 hD3 hA hq hlq;unfold rO
 cases hth:s3.th with
 | true=>
  rw[PZ rfl];rw[hth]at HS;clear hth;go_enter Tryz.func30,Tryz.ntmps30
  go_wp2_with fail
  refine HU.out.mono ?_;rintro e w2 ⟨rfl,m2⟩;obtain⟨q2,q3,HT⟩:=H1.out w2 m2;clear m2 HU H1;go_wp2_with fail
  refine HT.out.mono ?_;rintro e w3 ⟨rfl,m3⟩;have HA:=zH (H2.out w3 m3.out);clear HT H2 q2 q3 m3;go_wp2_with fail
  refine HA.out.mono ?_;rintro e w4 ⟨rfl,M4⟩;obtain⟨q1,-⟩:=HS.out w4 M4.out;clear HA HS;go_wp2_with fail
  go_end0;exact⟨rfl,M4.out⟩
 | false=>
  rw[PO (by simp)];rw[hth]at HS;clear hth;go_enter Tryz.func30,Tryz.ntmps30
  go_wp2_with fail
  refine HU.out.mono ?_;rintro e w2 ⟨rfl,m2⟩;obtain⟨q2,q3,HT⟩:=H1.out w2 m2;clear m2 HU H1;go_wp2_with fail
  refine HT.out.mono ?_;rintro e w3 ⟨rfl,m3⟩;have HA:=zH (H2.out w3 m3.out);clear HT H2 q2 q3 m3;go_wp2_with fail
  refine HA.out.mono ?_;rintro e w4 ⟨rfl,M4⟩;obtain⟨q1,HT4⟩:=HS.out w4 M4.out;clear HA HS M4;go_wp2_with fail
  refine HT4.out.mono ?_;rintro e w5 ⟨rfl,m5⟩;have M5:=zH m5;clear m5;go_wp2_with fail
  go_end0;exact⟨rfl,M5.out⟩
end
theorem wp_copy_run {P:Program}{o:Oper}{a:Act}{w:World}{K:Act→World→Prop}{Q:Exit→Act→World→Prop}
  (d s:Operand) (t t':TypeId) (hop:o.op=Op.call {callee:=Callee.builtin Builtin.copy,args:= #[d,s],argTypes:= #[t,t'] })
  (vd vs:Value) (hd:a.eval d=vd) (hs:a.eval s=vs) {v':Value} {w':World} (hrun:(Builtin.copy_ #[t,t'] o.type #[vd,vs]).run P w=.ok v' w') (hK:K (a.put o.dst v') w'):Oper.wp P o a w K Q:=by
 unfold Oper.wp;have hb:builtin .copy #[t,t'] o.type=fun _ args=>(do pure (.value (←Builtin.copy_ #[t,t'] o.type args)):Sem Next):=rfl
 simp[execOp,hop,resolve,invoke,hb,hd,hs,hrun,Result.andThen];exact hK
theorem Kc {w:World}{g:Nat}(cs:Array Value):Exc (fun k=>k=g) w (w.setRow g cs):=by
 refine⟨rfl,rfl,rfl,by simp[World.setRow],fun k hk hx=>?_⟩;simp only[World.setRow,Array.getElem?_modify];rw[PO (fun e=>hx e.symm)]
def four (L:List Txt):List Txt:=[(L[0]?).getD [],(L[1]?).getD [],(L[2]?).getD [],(L[3]?).getD []]
theorem J7 (L:List Txt):((L.take 4).map (fun t=>Value.string ⟨t.toArray⟩))++([Value.string ⟨#[]⟩,.string ⟨#[]⟩,.string ⟨#[]⟩,.string ⟨#[]⟩]:List Value).drop (((L.take 4).map (fun t=>Value.string ⟨t.toArray⟩)).length)=(four L).map (fun t=>Value.string ⟨t.toArray⟩):=by
 match L with
 | []=>rfl
 | [a]=>rfl
 | [a,b]=>rfl
 | [a,b,c]=>rfl
 | a::b::c::d::l=>simp[four]
theorem J6 {w:World}{L:List Txt}{va:Option Addr}{vc:Nat}(h:Ss w (.slice va L.length vc) L){A:Nat}(hA:Blk w A 142 [.string ⟨#[]⟩,.string ⟨#[]⟩,.string ⟨#[]⟩,.string ⟨#[]⟩]):
  ∃w' n,(Builtin.copy_ #[22,22] 3 #[.slice (some ⟨A,0,none⟩) 4 4,.slice va L.length vc]).run Tryz.prog w=.ok (goInt n) w'∧Blk w' A 142 ((four L).map (fun t=>Value.string ⟨t.toArray⟩))∧Exc (fun k=>k=A) w w':=by
 by_cases h0:L=[]
 ·subst h0
  exact⟨w,_,run_copy_none w _ _ _ 9 _ _ _ _ _ _ (by kernel_rfl) (by kernel_rfl) rfl,hA,Exc.refl _ _⟩
 ·have hl:0<L.length:=by cases L with | nil=>exact absurd rfl h0 | cons a l=>simp
  obtain⟨x,hx⟩:∃x,L[0]? =some x:=⟨L[0],Pz hl⟩;obtain⟨g,off,rfl,-⟩:=Ss.at h hx;have hr:=run_copy_row Tryz.prog w 22 22 3 9 A 0 4 4 ⟨g,off,none⟩ L.length vc [Value.string ⟨#[]⟩,.string ⟨#[]⟩,.string ⟨#[]⟩,.string ⟨#[]⟩].toArray 142 ((L.take 4).map (fun t=>Value.string ⟨t.toArray⟩)) (by kernel_rfl) (by kernel_rfl) hA (by simp[Nat.min_comm]) (fun j v hj=>by
   rw[QL]at hj
   cases ht:(L.take 4)[j]? with
   | none=>rw[ht]at hj;cases hj
   | some t=>
    rw[ht]at hj;obtain rfl:=PT hj;have htl:L[j]? =some t:=by
     rw[List.getElem?_take]at ht
     split at ht
     ·exact ht
     ·cases ht
    obtain⟨g',off',e,c⟩:=Ss.at h htl;injection e with e
    injection e with e1 e2
    subst e1 e2;have:(⟨g,off,none⟩:Addr).add j=⟨g,off+j,none⟩:=by unfold Addr.add;split<;>simp_all
    rw[this];exact c) (by simp;omega) (fun v hv=>by
    obtain⟨t,-,rfl⟩:=Rm.1 hv;rfl)
  refine⟨_,_,hr,?_,Kc _⟩;have hq:=setRow_heap w A _ (([Value.string ⟨#[]⟩,.string ⟨#[]⟩,.string ⟨#[]⟩,.string ⟨#[]⟩].toArray.toList.take 0++((L.take 4).map (fun t=>Value.string ⟨t.toArray⟩))++ [Value.string ⟨#[]⟩,.string ⟨#[]⟩,.string ⟨#[]⟩,.string ⟨#[]⟩].toArray.toList.drop (0+((L.take 4).map (fun t=>Value.string ⟨t.toArray⟩)).length)).toArray) _ _ hA;have e:=J7 L;have e2:([Value.string ⟨#[]⟩,.string ⟨#[]⟩,.string ⟨#[]⟩,.string ⟨#[]⟩].toArray.toList.take 0++((L.take 4).map (fun t=>Value.string ⟨t.toArray⟩))++ [Value.string ⟨#[]⟩,.string ⟨#[]⟩,.string ⟨#[]⟩,.string ⟨#[]⟩].toArray.toList.drop (0+((L.take 4).map (fun t=>Value.string ⟨t.toArray⟩)).length))=(four L).map (fun t=>Value.string ⟨t.toArray⟩):=by
   simpa using e
  rw[e2]at hq⊢;exact hq
section
variable {BI:BIT}{TB:World→Prop}{w w0:World}{B:Nat}{s:Md}{Y:Nat→Prop}
def Lr (s:Md)(r:aI):Md:=if s.th then aD s 13 r.line else {s with th:=true,b:={s.b with nm:=⟨iM r 0,iM r 1,iM r 2,iM r 3⟩ } }
theorem Gu (I:bu BI TB)(h:MM BI w0 Y w B s)(x:RV)(hth:s.th=true)(hD:s.d.length≤500000):
  Calls Tryz.prog 50 #[ak B,.agg (ai x).toArray] w (dK BI w0 Y w B (.tuple #[]) (aD s 13 x.1)):=by
 obtain⟨W1,hW1,b1,kx⟩:=aT (x:=x) w;have hM1:=h.keep I b1;obtain⟨q1,-,-⟩:=hM1.ln I;have z0:=kx.cell 0;have HT:Hid (Calls Tryz.prog 28 #[ak B,.int .i64 13,.int .i64 x.1] W1 fun e w'=>e=.returned (.tuple #[])∧aV BI w0 Y w B (aD s 13 x.1) w'):=zH (by
  refine(dH I hM1 13 x.1 hD).mono ?_;rintro e w' ⟨rfl,m⟩;exact⟨rfl,m.pre b1⟩)
 rw[hth]at q1;obtain⟨sf,hsf⟩:∃sf,aD s 13 x.1=sf:=⟨_,rfl⟩;rw[hsf]at HT⊢;obtain⟨xl,xm,⟨va,vn,vc⟩,xt⟩:=x;simp only[ai,bE,PD,PE]at hW1 HT z0⊢;clear h hM1 hth hD b1 kx hsf;go_enter Tryz.func50,Tryz.ntmps50
 go_wp2_with fail
 refine HT.out.mono ?_;rintro e w2 ⟨rfl,m2⟩;have M2:=zH m2;clear m2;go_wp2_with fail
 go_end0;exact⟨rfl,M2.out⟩
theorem Dc (I:bu BI TB)(h:MM BI w0 Y w B s)(hT:TB w0)(x:RV){r:aI}(hx:iO w0 x r)(hth:s.th=false):
  Calls Tryz.prog 50 #[ak B,.agg (ai x).toArray] w (dK BI w0 Y w B (.tuple #[]) {s with th:=true,b:={s.b with nm:=⟨iM r 0,iM r 1,iM r 2,iM r 3⟩ } }):=by
 obtain⟨W1,hW1,b1,kx⟩:=aT (x:=x) w;obtain⟨bb,wv,rv,tv,dv,hBl,-,hbx⟩:=h.box_at I;have hB1:=hbx W1 b1;have q1:W1.cell? ⟨B,1,none⟩=some (.bool s.th):=hB1.cell 1;have q1':W1.frozen? ⟨B,1,none⟩=false:=hB1.frozen (by simp[mnC]);rw[hth]at hB1;obtain⟨W2,hW2⟩:∃W,W1.setCell ⟨B,1,none⟩ (.bool true)=W:=⟨_,rfl⟩;have hE2:Exc (fun k=>k=B) W1 W2:=by rw[←hW2];exact(Exc.refl (fun k=>k=B) W1).set 1 _ (fun _=>rfl)
 obtain⟨W3,hW3⟩:∃W,W2.alloc (.cells #[.string ⟨#[]⟩,.string ⟨#[]⟩,.string ⟨#[]⟩,.string ⟨#[]⟩] 142)=W:=⟨_,rfl⟩;have hb3:Below W2.heap.size W2 W3:=by rw[←hW3];exact ae W2 _
 have kA:Blk W3 W2.heap.size 142 [.string ⟨#[]⟩,.string ⟨#[]⟩,.string ⟨#[]⟩,.string ⟨#[]⟩]:=by rw[←hW3];exact PK W2 _
 have s1:=b1.size;have s2:=hE2.size;have s3:=hb3.size;have hxw:w.heap.size<W1.heap.size:=kx.lt;have hx2:=hE2.blk kx (by omega);have HX2:Hid (∀V,Below W2.heap.size W2 V→V.cell? ⟨w.heap.size,2,none⟩=some (bE x.2.2.1)):=zH (fun V hV=>(hx2.below hV).cell 2);have HP:=fun V hV=>h.putB I b1 hE2 (s':={s with th:=true}) rfl rfl rfl rfl rfl (by obtain⟨-,-,X,R,lo,b,wv,rv,tv,dv,h3,-⟩:=h;exact⟨h3.ok.vg,h3.ok.vw,h3.ok.gw⟩) id id (fun b wv rv tv dv hr hB=>by rw[←hW2];exact hB.set 1 (.bool true)) (V:=V) hV
 obtain⟨W4,hW4⟩:∃W,W3.drew=W:=⟨_,rfl⟩;have hb4:Below W3.heap.size W3 W4:=by rw[←hW4];exact(PG _ W3).drew
 have b24:=hb3.trans (hb4.mono s3);have hM4:=(HP W4 (Exc.of (b24.mono (by omega)))).1;obtain⟨hx1,hx2',hx3,hx4⟩:=hx.below hM4.1;obtain⟨a',c',e4⟩:=hx4.len;obtain⟨xl,xm,⟨va,vn,vc⟩,xt⟩:=x;simp only[bE]at e4 hx4 HX2;injection e4 with e1 e2 e3
 subst e1 e2 e3;obtain⟨W5,n,hrun,kA5,hE5⟩:=J6 hx4 (kA.below hb4);have s4:=hb4.size;have s5:=hE5.size;have hb45:Below W2.heap.size W4 W5:=hE5.below (by omega) (fun k hk e=>by omega);have hb25:=b24.trans (hb45.mono (by omega));have hM5:=HP W5 (Exc.of (hb25.mono (by omega)));obtain⟨b,X,R,c0,hXY,hBI,hAF⟩:=hM5.1.call I hT;have HTI:Hid (∀V,Below W5.heap.size W5 V→V.cell? ⟨B,0,none⟩=some (ak b)∧(∀(i:Nat) u,((four r.args).map (fun t=>Value.string ⟨t.toArray⟩))[i]? =some u→V.cell? ⟨W2.heap.size,i,none⟩=some u)∧
   Hid (Calls Tryz.prog 82 #[ak b,.string ⟨(iM r 0).toArray⟩,.string ⟨(iM r 1).toArray⟩,.string ⟨(iM r 2).toArray⟩,.string ⟨(iM r 3).toArray⟩] V fun e w'=>e=.returned (.tuple #[])∧aV BI w0 Y w B {s with th:=true,b:={s.b with nm:=⟨iM r 0,iM r 1,iM r 2,iM r 3⟩ } } w')):=zH (fun V hV=>by
  refine⟨(hBI V hV).2.2,fun i u hu=>by rw[(kA5.below hV).cell i];exact hu,zH ?_⟩;refine(I.title _ _ _ _ (hBI V hV).1 (hBI V hV).2.1).mono ?_;rintro e w' ⟨rfl,ha⟩;exact⟨rfl,aV.trans hM5.2 (fun k q=> .inl q) (hAF _ _ V w' hV (fun k q=>q.elim) ha)⟩)
 have H4:Hid (W3.drew=W4):=zH hW4;have HR:=zH hrun;have x2:=HX2.out W4 b24;have HC4:Hid (∀V,Below W2.heap.size W2 V→V.cell? ⟨w.heap.size,2,none⟩=some (.slice va r.args.length vc)):=HX2;have HB24:=zH b24;have HB23:=zH hb3;have HB25:=zH hb25;have HB45:=zH hb45;rw[hth]at q1;simp only[four,Qo,QH]at HTI;obtain⟨n0,hn0⟩:∃n,iM r 0=n:=⟨_,rfl⟩;obtain⟨n1,hn1⟩:∃n,iM r 1=n:=⟨_,rfl⟩;obtain⟨n2,hn2⟩:∃n,iM r 2=n:=⟨_,rfl⟩;obtain⟨n3,hn3⟩:∃n,iM r 3=n:=⟨_,rfl⟩;have f0:(r.args[0]?).getD []=n0:=hn0;have f1:(r.args[1]?).getD []=n1:=hn1;have f2:(r.args[2]?).getD []=n2:=hn2;have f3:(r.args[3]?).getD []=n3:=hn3;rw[f0,f1,f2,f3,hn0,hn1,hn2,hn3]at HTI;rw[hn0,hn1,hn2,hn3];obtain⟨ln,hln⟩:∃n,r.args.length=n:=⟨_,rfl⟩;rw[hln]at x2 HC4 HR;simp only[ai,bE]at hW1⊢;clear h hbx hBl hB1 hE2 hb3 kA hx hx2 HX2 hx1 hx2' hx3 hx4 HP hM4 hM5 hBI hAF hXY hrun kA5 hE5 hb4 b24 hb25 hb45 hW4 f0 f1 f2 f3 hn0 hn1 hn2 hn3 hln kx b1 c0 s1 s2 s3 s4 s5 hxw;go_enter Tryz.func50,Tryz.ntmps50
 go_upto_region 5 with fail
 refine wp_region_held_drew (S:=(fun V=>Below W2.heap.size W2 V)) (by kernel_rfl) ?_ (fun hHeld=>?_)
 ·exact(HB23.out.drew)
 rw[H4.out];refine zK (i:=0) (v:= .slice (some ⟨W2.heap.size,0,none⟩) 4 4) rfl ?_;simp only[zA,Act.put];refine zK (i:=1) (v:= .pointer (some ⟨w.heap.size,2,none⟩)) rfl ?_;simp only[zA,Act.put];refine Qv (i:=2) (v:= .slice va ln vc) rfl (by kernel_rfl) (by kernel_rfl) (by kernel_rfl) (fun _ _ _ h=>h) (Or.inl ⟨by rfl,fun w' hSw=>by(try dsimp only at hSw);have q1:=HC4.out _ hSw;clear hSw;go_simp⟩) (by assumption) ?_;simp only[zA,Act.put];refine wpAnyH_ready (rs:=[3]) (by kernel_rfl) (by simp) ?_;refine AllReadyH.cons rfl (fun K hK=>?_) AllReadyH.nil
 try simp only[zG]
 refine wp_copy_run (.tmp 16) (.tmp 18) 22 22 rfl _ _ rfl rfl HR.out ?_;refine hK.out _ _ ?_ (fun hHeld=>?_)
 ·exact HB25.out
 clear hK K
 try simp only[zA,Act.put]
 refine Qd (by kernel_rfl) ?_ _;clear HR HC4 H4 HB24 HB23 HB25 HB45 x2;go_upto_region 6 with fail
 obtain⟨y0,hy,-⟩:=HTI.out W5 (PG _ _);have y1:=hy 0 _ rfl;have y2:=hy 1 _ rfl;have y3:=hy 2 _ rfl;have y4:=hy 3 _ rfl;clear hy;go_still_tail 12,(by kernel_rfl)
 change wpList _ _ _ _ _ W5.drew;obtain⟨y0',hy',HT5⟩:=HTI.out W5.drew (PG _ _).drew;clear HTI hy' y0 y1 y2 y3 y4;go_wp2_with fail
 refine HT5.out.mono ?_;rintro e w6 ⟨rfl,m6⟩;have M6:=zH m6;clear m6;go_wp2_with fail
 go_end0;exact⟨rfl,M6.out⟩
end
def BIQ (BI:BIT)(Q:Nat→Prop):BIT:=fun X R w b t=>BI X R w b t∧ ∀k,R k→ ¬Q k
theorem eD.q {BI:BIT}(I:eD BI)(Q:Nat→Prop):eD (BIQ BI Q):=⟨fun h=>I.lt h.1,fun h a b c=>⟨I.keep h.1 a b c,h.2⟩⟩
section
variable {BI:BIT}{TB:World→Prop}{w w0:World}{B:Nat}{s:Md}{Y Q:Nat→Prop}
theorem MM.toQ (I:eD BI)(h:MM BI w0 Y w B s)(hQ:∀k,Q k→w.heap.size≤k):MM (BIQ BI Q) w0 Y w B s:=by
 obtain⟨h1,h2,X,R,lo,b,wv,rv,tv,dv,h3,h4⟩:=h;exact⟨h1,h2,X,R,lo,b,wv,rv,tv,dv,⟨h3.ok,h3.ll,h3.lx,h3.lr,⟨h3.bi,fun k q e=>by have:=I.lt h3.bi k (.inr q);have:=hQ k e;omega⟩,h3.lb,h3.box,h3.dg,h3.dgb,h3.tx,h3.txb,h3.rg,h3.rgb,h3.rn,h3.tn,h3.wt⟩,h4⟩
theorem MM.offQ (I:eD BI)(h:MM (BIQ BI Q) w0 Y w B s){V:World}(hV:Exc Q w V)(hQ:∀k,Q k→w0.heap.size≤k∧ ¬Y k):MM BI w0 Y V B s:=by
 obtain⟨h1,h2,X,R,lo,b,wv,rv,tv,dv,h3,h4⟩:=h;have h5:MC BI X R lo w B b s wv rv tv dv:=⟨h3.ok,h3.ll,h3.lx,h3.lr,h3.bi.1,h3.lb,h3.box,h3.dg,h3.dgb,h3.tx,h3.txb,h3.rg,h3.rgb,h3.rn,h3.tn,h3.wt⟩;have kk:∀S:Nat→Prop,(∀k,S k→k<w.heap.size∧ ¬Q k)→Kp S w V:=fun S hS k q=>hV.block k (hS k q).1 (hS k q).2
 refine⟨h1.trans (hV.below h1.size (fun k hk q=>by have:=(hQ k q).1;omega)),h2,X,R,lo,b,wv,rv,tv,dv,h5.keepK I (kk X (fun k q=>⟨I.lt h3.bi.1 k (.inl q),fun e=>(hQ k e).2 ((h4 k).2 (.inl q))⟩)) (kk R (fun k q=>⟨I.lt h3.bi.1 k (.inr q),h3.bi.2 k q⟩)) (kk _ (fun k q=>⟨h3.ll k q,fun e=>(hQ k e).2 ((h4 k).2 (.inr q))⟩)) hV.size,h4⟩
theorem MM.wait (I:eD BI)(h:MM BI w0 Y w B s)(hv:s.v=none)(hg:s.g=none){m:MWt}{W1:World}{g:Nat}(hb:Below w.heap.size w W1)(hgl:w.heap.size≤g)(hk:Blk W1 g 58 (af (wH m))):
  (∃v,W1.cell? ⟨B,2,none⟩=some v)∧W1.frozen? ⟨B,2,none⟩=false∧aV BI w0 Y w B {s with w:=some m} (W1.setCell ⟨B,2,none⟩ (ak g)):=by
 obtain⟨h1,h2,X,R,lo,b,wv,rv,tv,dv,h3,h4⟩:=h;have hM:=h3.keep I hb;have hlt:∀k,lo k≠0→k≠g:=fun k q e=>by have:=h3.ll k q;omega
 have lab:∀{k:Nat} z,z≠6→lo k=z→(z≠0∨k≠g)→(if k=g then 6 else if lo k=6 then 0 else lo k)=z:=fun {k} z hz q e=>by
  rw[PO (fun e2=>e.elim (fun e3=>hlt k (by omega) e2) (fun e3=>e3 e2)),PO (by omega),q]
 have hP:MC BI X R (fun k=>if k=g then 6 else if lo k=6 then 0 else lo k) (W1.setCell ⟨B,2,none⟩ (ak g)) B b {s with w:=some m} (ak g) rv tv dv:=by
  refine hM.put I ((Exc.refl _ W1).set 2 _ (fun _=>rfl)) (hM.box.set 2 (ak g)) rfl rfl ⟨h3.ok.vg,fun q=>absurd hv q,fun q=>absurd hg q⟩ (fun k q=>?_) (fun k q=>lab 0 (by decide) (h3.lx k q) (.inr (fun e=>by have:=h3.lt I k (.inl q);omega))) (fun k q=>lab 0 (by decide) (h3.lr k q) (.inr (fun e=>by have:=h3.lt I k (.inr (.inl q));omega))) (fun k q=>?_) hM.tx (fun k e=>lab 4 (by decide) (h3.txb k e) (.inl (by decide))) hM.rg (fun k e=>lab 5 (by decide) (h3.rgb k e) (.inl (by decide))) hM.rn hM.tn ⟨g,rfl,PZ rfl,hk⟩
  ·rw[eG]
   by_cases e:k=g
   ·rw[e];exact hk.lt
   ·have:lo k≠0:=fun z=>q (lab 0 (by decide) z (.inr e))
    exact hM.ll k this
  ·exact lab (lo k) (by omega) rfl (.inl (by omega))
 refine⟨⟨_,hM.box.cell 2⟩,hM.box.frozen (by simp[mnC]),MM.aft h1 h2 ((Exc.of (X:=Y) hb).trans ((Exc.refl (X:=Y) W1).set 2 (ak g) (g:=B) (fun _=>(h4 B).2 (.inr (by rw[h3.lb];decide)))) (fun _ _ q=>q)) hP (fun k q=> .inl ((h4 k).2 (.inl q))) (fun k q=>?_)⟩
 by_cases e:k=g
 ·exact .inr (by omega)
 ·have:lo k≠0:=fun z=>q (lab 0 (by decide) z (.inr e))
  exact .inl ((h4 k).2 (.inr this))
theorem DI {k ln n:Int}{g:List Gly}:nlN (.mk (cB k ln n g) [])=3+g.length:=by simp[nlN,nlL,hdl,cB,bS,lens,cZ]
theorem wF (I:bu BI TB)(h:MM BI w0 Y w B s){N:Nat}{k ln n:Int}{W:World}(hb:Below w.heap.size w W)(hN:w.heap.size≤N)(hk:Blk W N 58 (af (dW k ln n aj)))(l2:Int)(L:List Txt)(v:Value)(hv:∀V,Below w0.heap.size w0 V→Ss V v L)(hl:lnT L≤40000)(hL:∀s∈L,s.length≤2000)(hD:s.d.length≤400000)(j:Bool):
  Calls Tryz.prog 85 #[ak B,.int .i64 l2,v] W fun e w'=> ∃p:PV,e=.returned (pv p)∧Blk w' N 58 (af (dW k ln n aj))∧ ∃Y' S,MM (BIQ BI (fun k=>k=N)) w0 Y' w' B {s with d:=s.d++aY l2 (dE 0 L).2}∧Exc Y W w'∧(∀k,Y' k→(Y k∨W.heap.size≤k)∧k≠N)∧FsS S 2 aR w' (pv p) (dE 0 L).1∧(∀k,S k→W.heap.size≤k∧k<w'.heap.size∧ ¬Y' k):=by
 have hQ:=(h.toQ I.k (Q:=fun k=>k=N) (fun k q=>by omega)).keep (I.k.q _) hb;have hYl:=h.lt I;have hNl:=hk.lt;refine(Db (I.k.q _) hQ l2 L v (hv W hQ.1) hl hL (by omega)).mono ?_;rintro e w' ⟨x,rfl,Y',S,m1,m2,m3,m4,m5⟩;obtain⟨a,c,e⟩:=m4.1.len;refine⟨(a,_,c),by rw[e];rfl,m2.blk hk (fun q=>by have:=hYl _ q;omega),Y',S,m1,m2,fun k q=>⟨m3 k q,fun e=>by rcases m3 k q with z | z;have:=hYl k z;omega;omega⟩,by rw[e]at m4;exact m4,m5⟩
theorem sJ (I:bu BI TB){w1 w':World}(hT:TB w0){Y' S:Nat→Prop}{s2:Md}{N:Nat}{k ln n:Int}{g:List Gly}{p:PV}(hE:Exc Y w w1)(hY:∀k,Y' k→(Y k∨w.heap.size≤k)∧k≠N)(hM:MM (BIQ BI (fun k=>k=N)) w0 Y' w1 B s2)(hN:w0.heap.size≤N)(hNw:w.heap.size≤N)(hS:FsS S 2 aR w1 (pv p) g)(hS2:∀k,S k→k<w1.heap.size∧ ¬Y' k∧k≠N)(hb:btl s2.b+g.length+3≤30000)(hD:s2.d.length≤500000)
  (hE2:Exc (fun k=>k=N) w1 w') {V:World} (hV:Below w'.heap.size w' V):
  Calls Tryz.prog 86 #[ak B,.agg (af (dW k ln n p)).toArray] V fun e w2=>e=.returned (.tuple #[])∧aV BI w0 Y w B (dh s2 (cB k ln n g)) w2:=by
 have hM':=hM.offQ I.k hE2 (fun k q=>⟨by rw[q];exact hN,fun e=>(hY k e).2 q⟩);have hM2:=hM'.keep I hV;have s1:=hE.size;have s2:=hE2.size;have s3:=hV.size;have hSV:FsS S 2 aR V (pv p) g:=hS.keep (fun k q=>(hV.block k (by have:=(hS2 k q).1;omega)).trans (hE2.block k (hS2 k q).1 (hS2 k q).2.2));refine(qo I hM2 hT (S:=S) (x:=dW k ln n p) (rX hSV) (fun k q=>⟨by have:=(hS2 k q).1;omega,(hS2 k q).2.1⟩) (by rw[DI];omega) hD).mono ?_;rintro e w2 ⟨rfl,m⟩;refine⟨rfl,aV.trans (Y1:=Y') ?_ (fun k q=>(hY k q).1) m⟩;exact((hE.trans hE2 (fun k hk q=>by omega)).trans (Exc.of (X:=Y) hV) (fun _ _ q=>q))
theorem JC (I:bu BI TB)(h:MM BI w0 Y w B s)(hT:TB w0)(hv:s.v=none)(hg:s.g=none){x:RV}{r:aI}(hx:iO w0 x r)(ha:r.args=[])(kd:Int)(K:List Int)(kv:Value)(F1 F2 F3:Nat)(hF1:Blk w F1 74 [ak B])(hF2:Blk w F2 3 [.int .i64 kd])(hF3:Blk w F3 144 [kv]){Sk:Nat→Prop}(hkv:FsS Sk 1 il w kv K)(hSk:∀k,Sk k→k<w.heap.size∧ ¬Y k)(hKl:K.length≤100)(hY1:¬Y F1)(hY2:¬Y F2)(hY3:¬Y F3)(hb:btl s.b≤30000)(hD:s.d.length≤400000):
  Calls Tryz.prog 83 #[.agg (ai x).toArray,.pointer (some ⟨F1,0,none⟩),.pointer (some ⟨F3,0,none⟩),.pointer (some ⟨F2,0,none⟩)] w (dK BI w0 Y w B (.tuple #[]) {s with b:=aK s.b K,w:=some ⟨kd,x.1,0⟩ }):=by
 obtain⟨W1,hW1,b1,kx⟩:=aT (x:=x) w;have hM1:=h.keep I b1;have hYl:=h.lt I;have hs1:=b1.size;obtain⟨b,hcb,hSH⟩:=hM1.shut I hT K hKl hb;have HW:Hid (∀V,aV BI w0 Y W1 B {s with b:=aK s.b K} V→V.cell? ⟨w.heap.size,0,none⟩=some (.int .i64 x.1)∧V.cell? ⟨F2,0,none⟩=some (.int .i64 kd)∧
   ∃V2,V.alloc (.cells #[.int .i64 kd,.int .i64 x.1,.int .i64 0,.slice none 0 0,.slice none 0 0,.slice none 0 0,.string ⟨#[]⟩,.slice none 0 0,.bool false,.bool false] 58)=V2∧V2.cell? ⟨w.heap.size,2,none⟩=some (bE x.2.2.1)∧V2.cell? ⟨F1,0,none⟩=some (ak B)∧(∃v,V2.cell? ⟨B,2,none⟩=some v)∧V2.frozen? ⟨B,2,none⟩=false∧Hid (aV BI w0 Y w B {s with b:=aK s.b K,w:=some ⟨kd,x.1,0⟩ } (V2.setCell ⟨B,2,none⟩ (ak V.heap.size)))):=zH (fun V m=>by
  obtain⟨Y1,hM,hE,hY,hseq⟩:=m.seq;have k1:=hE.blk kx (fun e=>by have:=hYl _ e;omega);have f1:=hE.blk (hF1.below b1) hY1;have f2:=hE.blk (hF2.below b1) hY2;have bA:=ae V (.cells #[.int .i64 kd,.int .i64 x.1,.int .i64 0,.slice none 0 0,.slice none 0 0,.slice none 0 0,.string ⟨#[]⟩,.slice none 0 0,.bool false,.bool false] 58);obtain⟨c,fr,mw⟩:=hM.wait I.k hv hg (m:=⟨kd,x.1,0⟩) bA (Px _) (PK V _);exact⟨k1.cell 0,f2.cell 0,_,rfl,(k1.below bA).cell 2,(f1.below bA).cell 0,c,fr,zH ((hseq mw).pre b1)⟩)
 have hdr:Below W1.heap.size W1 W1.drew:=(PG _ _).drew;have HS:=zH (hSH W1.drew kv Sk hdr (hkv.keep (fun k q=>(b1.trans (hdr.mono hs1)).block k (hSk k q).1)) (fun k q=>⟨by have:=(hSk k q).1;have:=hdr.size;omega,(hSk k q).2⟩));have c0:=hcb W1 (PG _ _);have z1:W1.cell? ⟨F1,0,none⟩=some (ak B):=(hF1.below b1).cell 0;have z3:W1.cell? ⟨F3,0,none⟩=some kv:=(hF3.below b1).cell 0;obtain⟨kva,kvc,rfl⟩:=hkv.1.len;obtain⟨-,-,-,hx4⟩:=hx;obtain⟨xl,xm,⟨va,vn,vc⟩,xt⟩:=x;simp only[bE]at hx4;obtain⟨a',c',e4⟩:=hx4.len;injection e4 with e1 e2 e3
 rw[ha]at e2;simp only[PQ]at e2;subst e1 e2 e3;obtain⟨sf,hsf⟩:∃sf,({s with b:=aK s.b K,w:=some ⟨kd,xl,0⟩ }:Md)=sf:=⟨_,rfl⟩;simp only at HW⊢;rw[hsf]at HW⊢;obtain⟨kn,hkn⟩:∃n,K.length=n:=⟨_,rfl⟩;rw[hkn]at HS z3;simp only[ai,bE]at hW1 HW⊢;clear h hM1 hYl hs1 hcb hSH hkv hSk hKl hv hg hb hD hx4 ha hF1 hF2 hF3 hY1 hY2 hY3 hdr b1 kx hsf hkn;go_enter Tryz.func83,Tryz.ntmps83
 go_upto_region 1 with fail
 go_still_tail 5,(by kernel_rfl)
 change wpList _ _ _ _ _ W1.drew;clear hW1;go_wp2_with fail
 refine HS.out.mono ?_;rintro e w2 ⟨rfl,m2⟩;obtain⟨y0,y1,V2,hV2,y2,y3,⟨q,y4⟩,y5,M3⟩:=HW.out w2 m2;have HV2:=zH hV2;clear m2 HW HS c0 z1 z3 hV2;go_upto_region 3 with fail
 rw[HV2.out];go_wp2_with fail
 go_end0;exact⟨rfl,M3.out⟩
theorem GL (I:bu BI TB)(h:MM BI w0 Y w B s)(hT:TB w0){x:RV}{r:aI}(hx:iO w0 x r)(hl:fJ r)(ha:r.args≠ [])(kd:Int)(K:List Int)(kv:Value)(F1 F2 F3:Nat)(hF1:Blk w F1 74 [ak B])(hF2:Blk w F2 3 [.int .i64 kd])(hF3:Blk w F3 144 [kv]){Sk:Nat→Prop}(hkv:FsS Sk 1 il w kv K)(hSk:∀k,Sk k→k<w.heap.size∧ ¬Y k)(hKl:K.length≤100)(hY1:¬Y F1)(hY2:¬Y F2)(hY3:¬Y F3)(hb:btl (aK s.b K)+(dE 0 r.args).1.length+3≤30000)(hbs:btl s.b≤30000)(hD:s.d.length≤400000):
  Calls Tryz.prog 83 #[.agg (ai x).toArray,.pointer (some ⟨F1,0,none⟩),.pointer (some ⟨F3,0,none⟩),.pointer (some ⟨F2,0,none⟩)] w (dK BI w0 Y w B (.tuple #[]) (dh {s with b:=aK s.b K,d:=s.d++aY x.1 (dE 0 r.args).2} (cB kd x.1 0 (dE 0 r.args).1))):=by
 obtain⟨W1,hW1,b1,kx⟩:=aT (x:=x) w;have hM1:=h.keep I b1;have hYl:=h.lt I;have hs1:=b1.size;obtain⟨b,hcb,hSH⟩:=hM1.shut I hT K hKl hbs;have hxw:w.heap.size<W1.heap.size:=kx.lt;obtain⟨q,hq⟩:∃q,dE 0 r.args=q:=⟨_,rfl⟩;have hq2:=(eZ 0 r.args ([],[])).2;have hql:(dE 0 r.args).2.length≤80000:=by rw[jr];unfold dI;simp only[PQ]at hq2;have:=hl.args;omega
 have hqd:∀ln,(aY ln (dE 0 r.args).2).length≤80000:=fun ln=>by unfold aY;simpa using hql
 have HW:Hid (∀V,aV BI w0 Y W1 B {s with b:=aK s.b K} V→V.cell? ⟨w.heap.size,0,none⟩=some (.int .i64 x.1)∧V.cell? ⟨F2,0,none⟩=some (.int .i64 kd)∧
   ∃V2,V.alloc (.cells #[.int .i64 kd,.int .i64 x.1,.int .i64 0,.slice none 0 0,.slice none 0 0,.slice none 0 0,.string ⟨#[]⟩,.slice none 0 0,.bool false,.bool false] 58)=V2∧V2.cell? ⟨w.heap.size,0,none⟩=some (.int .i64 x.1)∧V2.cell? ⟨w.heap.size,2,none⟩=some (bE x.2.2.1)∧V2.cell? ⟨F1,0,none⟩=some (ak B)∧
    Hid (Calls Tryz.prog 85 #[ak B,.int .i64 x.1,bE x.2.2.1] V2 fun e w'=> ∃p1 p2 p3,e=.returned (.slice p1 p2 p3)∧ ∃z,w'.cell? ⟨V.heap.size,3,none⟩=some z∧w'.frozen? ⟨V.heap.size,3,none⟩=false∧ ∃V5,w'.setCell ⟨V.heap.size,3,none⟩ (.slice p1 p2 p3)=V5∧V5.cell? ⟨F1,0,none⟩=some (ak B)∧(∀(i:Nat) u,(af (dW kd x.1 0 (p1,p2,p3)))[i]? =some u→V5.cell? ⟨V.heap.size,i,none⟩=some u)∧
     Hid (Calls Tryz.prog 86 #[ak B,.agg (af (dW kd x.1 0 (p1,p2,p3))).toArray] V5 fun e w2=>e=.returned (.tuple #[])∧aV BI w0 Y w B (dh {s with b:=aK s.b K,d:=s.d++aY x.1 (dE 0 r.args).2} (cB kd x.1 0 (dE 0 r.args).1)) w2))):=zH (fun V m=>by
  obtain⟨Y1,hM,hE,hY,hseq⟩:=m.seq;have hsE:=hE.size;have k1:=hE.blk kx (fun e=>by have:=hYl _ e;omega);have f1:=hE.blk (hF1.below b1) hY1;have f2:=hE.blk (hF2.below b1) hY2;have bA:=ae V (.cells #[.int .i64 kd,.int .i64 x.1,.int .i64 0,.slice none 0 0,.slice none 0 0,.slice none 0 0,.string ⟨#[]⟩,.slice none 0 0,.bool false,.bool false] 58);have kN:Blk (V.alloc (.cells #[.int .i64 kd,.int .i64 x.1,.int .i64 0,.slice none 0 0,.slice none 0 0,.slice none 0 0,.string ⟨#[]⟩,.slice none 0 0,.bool false,.bool false] 58)) V.heap.size 58 (af (dW kd x.1 0 aj)):=PK V _;have hY1l:=hM.lt I;have hw0:=hM.1.size;have hzA:(V.alloc (.cells #[.int .i64 kd,.int .i64 x.1,.int .i64 0,.slice none 0 0,.slice none 0 0,.slice none 0 0,.string ⟨#[]⟩,.slice none 0 0,.bool false,.bool false] 58)).heap.size=V.heap.size+1:=PS _ _;refine⟨k1.cell 0,f2.cell 0,_,rfl,(k1.below bA).cell 0,(k1.below bA).cell 2,(f1.below bA).cell 0,zH ?_⟩;refine(wF I hM bA (Px _) kN x.1 r.args (bE x.2.2.1) (fun V hV=>(hx.below hV).args) hl.args hl.each hD true).mono ?_;rintro e w' ⟨p,rfl,kN',Y',S,m1,m2,m3,m4,m5⟩;have f1':=m2.blk (f1.below bA) (fun e=>by rcases hY _ e with z | z;exact hY1 z;have:=(hF1.below b1).lt;omega);have hE5:Exc (fun k=>k=V.heap.size) w' (w'.setCell ⟨V.heap.size,3,none⟩ (pv p)):=(Exc.refl (fun k=>k=V.heap.size) w').set 3 _ (fun _=>rfl);have hne:F1≠V.heap.size:=fun e=>by have:=(hF1.below b1).lt;omega
  refine⟨p.1,p.2.1,p.2.2,rfl,_,kN'.cell 3,kN'.frozen (by simp[af]),_,rfl,(hE5.blk f1' hne).cell 0,fun i u hu=>?_,zH ?_⟩
  ·have:=(Blk.set (L:=af (dW kd x.1 0 aj)) kN' 3 (pv p)).cell i
   exact this.trans hu
  ·have:=sJ I hT (s2:={s with b:=aK s.b K,d:=s.d++aY x.1 (dE 0 r.args).2}) (w:=V) (w1:=w') (Y:=Y1) (Y':=Y') (S:=S) (N:=V.heap.size) (k:=kd) (ln:=x.1) (n:=0) (g:=(dE 0 r.args).1) (p:=p) ((Exc.of (X:=Y1) bA).trans m2 (fun _ _ q=>q)) (fun k q=>⟨(m3 k q).1.imp id (fun z=>by omega),(m3 k q).2⟩) m1 hw0 (Px _) m4 (fun k q=>⟨(m5 k q).2.1,(m5 k q).2.2,fun e=>by have:=(m5 k q).1;omega⟩) (by omega) (by rw[PL];have:=hqd x.1;omega) hE5 (PG _ _)
   refine this.mono ?_;rintro e w2 ⟨rfl,mm⟩;exact⟨rfl,(hseq mm).pre b1⟩)
 have hdr:Below W1.heap.size W1 W1.drew:=(PG _ _).drew;have HS:=zH (hSH W1.drew kv Sk hdr (hkv.keep (fun k q=>(b1.trans (hdr.mono hs1)).block k (hSk k q).1)) (fun k q=>⟨by have:=(hSk k q).1;have:=hdr.size;omega,(hSk k q).2⟩));have c0:=hcb W1 (PG _ _);have z1:W1.cell? ⟨F1,0,none⟩=some (ak B):=(hF1.below b1).cell 0;have z3:W1.cell? ⟨F3,0,none⟩=some kv:=(hF3.below b1).cell 0;obtain⟨kva,kvc,rfl⟩:=hkv.1.len;obtain⟨-,-,-,hx4⟩:=hx;obtain⟨xl,xm,⟨va,vn,vc⟩,xt⟩:=x;simp only[bE]at hx4;obtain⟨a',c',e4⟩:=hx4.len;injection e4 with e1 e2 e3
 subst e1 e2 e3;have hn0:¬r.args.length=0:=fun e=>ha (Qj e)
 simp only at HW⊢;obtain⟨sf,hsf⟩:∃sf,(dh {s with b:=aK s.b K,d:=s.d++aY xl (dE 0 r.args).2} (cB kd xl 0 (dE 0 r.args).1))=sf:=⟨_,rfl⟩;rw[hsf]at HW⊢;obtain⟨kn,hkn⟩:∃n,K.length=n:=⟨_,rfl⟩;rw[hkn]at HS z3;obtain⟨an,han⟩:∃n,r.args.length=n:=⟨_,rfl⟩;rw[han]at hn0 hW1 HW⊢;have hn1:¬(an:Int)=0:=by omega
 simp only[ai,bE,af,dW,pv,aj]at hW1 HW⊢;clear h hM1 hYl hs1 hcb hSH hkv hSk hKl hb hbs hD hx4 ha hF1 hF2 hF3 hY1 hY2 hY3 hdr b1 kx hsf hkn hxw hl hq hq2 hql hqd han;go_enter Tryz.func83,Tryz.ntmps83
 go_upto_region 1 with fail
 go_still_tail 5,(by kernel_rfl)
 change wpList _ _ _ _ _ W1.drew;clear hW1;go_wp2_with fail
 refine HS.out.mono ?_;rintro e w2 ⟨rfl,m2⟩;obtain⟨y0,y1,V2,hV2,y2,y3,y4,HC⟩:=HW.out w2 m2;have HV2:=zH hV2;clear m2 HW HS c0 z1 z3 hV2;go_upto_region 3 with fail
 rw[HV2.out];go_wp2_with fail
 refine HC.out.mono ?_;rintro e w3 ⟨p1,p2,p3,rfl,z,u0,u1,V5,hV5,u2,u3,HO⟩;have d0:=u3 0 _ rfl;have d1:=u3 1 _ rfl;have d2:=u3 2 _ rfl;have d3:=u3 3 _ rfl;have d4:=u3 4 _ rfl;have d5:=u3 5 _ rfl;have d6:=u3 6 _ rfl;have d7:=u3 7 _ rfl;have d8:=u3 8 _ rfl;have d9:=u3 9 _ rfl;clear u3 HC y0 y1 y2 y3 y4;go_wp2_with fail
 refine HO.out.mono ?_;rintro e w4 ⟨rfl,m4⟩;have M4:=zH m4;clear m4;go_wp2_with fail
 go_end0;exact⟨rfl,M4.out⟩
end
section
attribute [local go_sem] QX
attribute [local go_sem ↓ high] bg bK oO fq
structure lJ (s0 s:RS):Prop where
 rows:s.rows=s0.rows
 cols:s.cols=s0.cols
 bx:s.bx=s0.bx
 al:s.al=s0.al
theorem lJ.refl (s:RS):lJ s s:=⟨rfl,rfl,rfl,rfl⟩
theorem lJ.trans {a b c:RS}(h:lJ a b)(k:lJ b c):lJ a c:=⟨k.rows.trans h.rows,k.cols.trans h.cols,k.bx.trans h.bx,k.al.trans h.al⟩
abbrev Ld:=List Gly×List Dgn×Int×List Txt
theorem Bf {L:List Txt}{k:Nat}{x:Txt}(hx:L[k]? =some x):lnT (L.drop k)=x.length+1+lnT (L.drop (k+1)):=by
 rw[fo hx];simp[lnT]
 try omega
structure BlK (L:List Txt)(line:Int)(s0:RS)(T:Ld)(s:RS)(tx:List (List Gly)):Prop where
 k0:s0.k≤s.k
 kl:s.k≤L.length
 dl:s.d.length+lnT (L.drop s.k)≤s0.d.length+lnT (L.drop s0.k)
 tl:lens tx+tx.length+lnT (L.drop s.k)≤lnT (L.drop s0.k)
 same:lJ s0 s
 inv:bV lgF (L.drop s.k) (line+s.k) (jns tx) s.d=T
structure BlE (L:List Txt)(line:Int)(s0:RS)(T:Ld)(s:RS)(tx:List (List Gly))(bh:List Txt)(en:Bool):Prop where
 k0:s0.k≤s.k
 kl:s.k≤L.length
 dl:s.d.length≤s0.d.length+lnT (L.drop s0.k)
 tl:lens tx+tx.length≤lnT (L.drop s0.k)
 same:lJ s0 s
 g:jns tx=T.1
 d:s.d=T.2.1
 fin:(en=false∧bh=[]∧T.2.2.2=[]∧s.k=L.length)∨(en=true∧s0.k<s.k∧ ∃t,T.2.2.2=t::L.drop s.k∧bh=(aU 9 t).tail∧T.2.2.1=line+s.k-1)
theorem gF:∀(L:List Txt) (k:Nat),lnT (L.drop k)≤lnT L
 | [],k=>by simp
 | x::L,0=>Px _
 | x::L,k+1=>by
  have h:=gF L k;have e:lnT (x::L)=x.length+1+lnT L:=by simp[lnT]
  rw[RG,e];omega
theorem rW (line:Int)(s:RS):line+((s.next.k:Nat):Int)-1=line+s.k:=by
 show line+((s.k+1:Nat):Int)-1=_;omega
theorem BlK.step {L:List Txt}{line:Int}{s0:RS}{T:Ld}{s:RS}{tx:List (List Gly)}(h:BlK L line s0 T s tx){x:Txt}(hx:L[s.k]? =some x):
  (MV x=false→BlK L line s0 T (s.next.add (aY (line+s.k) (lgF x).2)) (tx++ [(lgF x).1]))∧(MV x=true→BlE L line s0 T s.next tx (aU 9 x).tail true):=by
 have hlt:=(Pw.1 hx).1;have h2:=h.inv;have h3:=h.dl;have h4:=h.tl;have h5:=h.k0;have hd:=Bf hx;have hlg:=jA x;rw[fo hx]at h2;unfold bV at h2;refine⟨fun he=>?_,fun he=>?_⟩
 ·rw[PO (by rw[he];simp)]at h2
  have e1:(aY (line+s.k) (lgF x).2).length=(lgF x).2.length:=by simp[aY]
  refine⟨by show s0.k≤s.k+1;omega,by show s.k+1≤_;omega,?_,?_,h.same.trans ⟨rfl,rfl,rfl,rfl⟩,?_⟩
  ·show(s.d++aY (line+s.k) (lgF x).2).length+lnT (L.drop (s.k+1))≤_
   rw[PL,e1];omega
  ·rw[fO,ik,PL]
   show _+lnT (L.drop (s.k+1))≤_;simp only[PI,PQ];omega
  ·rw[JO,←h2]
   show bV lgF (L.drop (s.k+1)) (line+((s.k+1:Nat):Int)) _ (s.d++aY (line+s.k) (lgF x).2)=_;rw[R8,←Int.add_assoc];rfl
 ·rw[PZ he]at h2
  subst h2;refine⟨by show s0.k≤s.k+1;omega,by show s.k+1≤_;omega,by show s.d.length≤_;omega,by omega,h.same.trans ⟨rfl,rfl,rfl,rfl⟩,rfl,rfl,.inr ⟨rfl,by show s0.k<s.k+1;omega,x,rfl,rfl,?_⟩⟩;exact(rW line s).symm
theorem BlK.fin {L:List Txt}{line:Int}{s0:RS}{T:Ld}{s:RS}{tx:List (List Gly)}(h:BlK L line s0 T s tx)(hk:s.k=L.length):BlE L line s0 T s tx [] false:=by
 have h2:=h.inv;have h3:=h.dl;have h4:=h.tl;rw[hk,Rk]at h2 h3 h4;unfold bV at h2;subst h2;exact⟨h.k0,h.kl,by omega,by omega,h.same,rfl,rfl,.inl ⟨rfl,rfl,rfl,hk⟩⟩
def BlP (L:List Txt)(line:Int)(s0:RS)(T:Ld)(s:RS)(g:List Gly)(bh:List Txt):Prop:=
 s0.k≤s.k∧s.k≤L.length∧s.d.length≤s0.d.length+lnT (L.drop s0.k)+1∧lJ s0 s∧g=T.1∧
  ((T.2.2.2=[]∧bh=[]∧s.d=T.2.1++ [(7,line+s0.k-1,0)]∧s.k=L.length)∨(∃t,T.2.2.2=t::L.drop s.k∧bh=(aU 9 t).tail∧s.d=T.2.1∧T.2.2.1=line+s.k-1∧s0.k<s.k))
def Oc (line:Int)(s:RS)(x:Txt):RS:=s.next.add (aY (line+s.k) (lgF x).2)
theorem Il {w:World}{B:Nat}{line:Int}{a0:Option Addr}{c0:Nat}(L:List Txt)(s0:RS)(W:World)(hRI:RI w B line (.slice a0 L.length c0) s0 W)(hS:Ss w (.slice a0 L.length c0) L)(hU:U8 w)(hL:∀x∈L,x.length≤2000)(hl:lnT L≤40000)(hn:L.length≤40000)
  (hk0:s0.k≤L.length) (hd0:s0.d.length≤300000):
  CallsIn Fence.wide 9 Tryz.prog 163 #[.pointer (some ⟨B,0,none⟩)] W fun e W'=> ∃(x:Value) (a:Option Addr) (c:Nat) (s:RS) (g:List Gly) (bh:List Txt),e=.returned (.tuple #[x,.slice a bh.length c])∧RI w B line (.slice a0 L.length c0) s W'∧FrR W W'∧
   GlF W.heap.size W' x g∧StS W' (.slice a bh.length c) bh∧BlP L line s0 (bV lgF (L.drop s0.k) (line+s0.k) [] s0.d) s g bh:=by
 obtain⟨T,hT⟩:∃T,bV lgF (L.drop s0.k) (line+s0.k) [] s0.d=T:=⟨_,rfl⟩;rw[hT];have hlt:=hRI.lt;have hWs:=hRI.bel.size;have L1:Hid (∀V,CallsIn Fence.wide 8 Tryz.prog 130 #[.pointer (some ⟨B,0,none⟩)] V fun e w'=>e=.returned (.func (.func 161) #[] #[.pointer (some ⟨V.heap.size,0,none⟩)])∧V.alloc (.cells #[.pointer (some ⟨B,0,none⟩)] 183)=w'):=zH fun V=>Qb.2 (qx B V)
 obtain⟨VA,hVA⟩:∃VA,W.alloc (.cells #[.pointer (some ⟨B,0,none⟩)] 183)=VA:=⟨_,rfl⟩;have y0:VA.heap.size=W.heap.size+1:=by rw[←hVA];simp
 have bA:Below W.heap.size W VA:=by rw[←hVA];exact ae W _
 have kA:Blk VA W.heap.size 183 [.pointer (some ⟨B,0,none⟩)]:=by rw[←hVA];exact PK W _
 have q0:VA.cell? ⟨W.heap.size,0,none⟩=some (.pointer (some ⟨B,0,none⟩)):=kA.cell 0;obtain⟨first,hfi⟩:∃first,line+(s0.k:Int)-1=first:=⟨_,rfl⟩;have A1:Hid (CallsIn Fence.wide 8 Tryz.prog 159 #[.pointer (some ⟨B,0,none⟩)] VA fun e w'=>e=.returned (.int .i64 (w6 first))∧Below VA.heap.size VA w'):=zH (Qb.2 (by
  have h:=pY VA (hRI.keep bA) (by omega);rw[hfi]at h;exact h))
 refine callsIn_of_wp_marks Tryz.func163 rfl trivial ?_ rfl;simp only[Tryz.ntmps163,Q0,PI,PQ,Nat.reduceAdd,Nat.reduceSub,QT,QS,Q5,QU,Qt,Qe]
 gi_wp2_with fail
 refine iG ?_
 gi_wp2_with (refine⟨trivial,?_⟩;gi_at_call 159;refine A1.out.mono ?_;rintro e V1 ⟨rfl,b1⟩;have B1:=zH b1;have q0':V1.cell? ⟨W.heap.size,0,none⟩=some (.pointer (some ⟨B,0,none⟩)):=(Blk.below kA b1).cell 0;clear b1)
 refine wpIn_label ?_;obtain⟨U1,hU1⟩:∃U1,V1.alloc (.cells #[.slice none 0 0] 53)=U1:=⟨_,rfl⟩;obtain⟨U2,hU2⟩:∃U2,U1.alloc (.cells #[.slice none 0 0] 22)=U2:=⟨_,rfl⟩;obtain⟨U3,hU3⟩:∃U3,U2.alloc (.cells #[.bool false] 4)=U3:=⟨_,rfl⟩;rw[hU1,hU2,hU3];have zA:=bA.size;have z1:=B1.out.size;have y1:U1.heap.size=V1.heap.size+1:=by rw[←hU1];simp
 have y2:U2.heap.size=V1.heap.size+2:=by rw[←hU2];simp[y1]
 have y3:U3.heap.size=V1.heap.size+3:=by rw[←hU3];simp[y2]
 have b1:Below V1.heap.size V1 U1:=by rw[←hU1];exact ae V1 _
 have b2:Below U1.heap.size U1 U2:=by rw[←hU2];exact ae U1 _
 have b3:Below U2.heap.size U2 U3:=by rw[←hU3];exact ae U2 _
 have k1:Blk U1 V1.heap.size 53 [.slice none 0 0]:=by rw[←hU1];exact PK V1 _
 have k2:Blk U2 (V1.heap.size+1) 22 [.slice none 0 0]:=by rw[←hU2,←y1];exact PK U1 _
 have k3:Blk U3 (V1.heap.size+2) 4 [.bool false]:=by rw[←hU3,←y2];exact PK U2 _
 have jY:Below VA.heap.size VA U3:=B1.out.trans ((b1.mono z1).trans ((b2.mono (by omega)).trans (b3.mono (by omega))));have kA3:=kA.below jY;have q3:U3.cell? ⟨W.heap.size,0,none⟩=some (.pointer (some ⟨B,0,none⟩)):=kA3.cell 0;have hR3:=(hRI.keep bA).keep jY;have hF3:FrR W U3:=(FrR.below bA).trans (FrR.below jY);have k1':=(k1.below b2).below b3;have k2':=k2.below b3;clear q0 q0' A1 hU1 hU2 hU3 b1 b2 b3 k1 k2 kA jY hVA
 gi_wp2_with (refine⟨trivial,?_⟩;gi_at_call 130;refine(L1.out _).mono ?_;rintro e w' ⟨rfl,rfl⟩)
 have hpos:∀(s:RS) x,L[s.k]? =some x→x.length≤2000:=fun s x hx=>hL x (Qq hx)
 obtain⟨U4,hU4⟩:∃U4,U3.alloc (.cells #[.pointer (some ⟨B,0,none⟩)] 183)=U4:=⟨_,rfl⟩;rw[hU4];have y4:U4.heap.size=V1.heap.size+4:=by rw[←hU4];simp[y3]
 have b4:Below U3.heap.size U3 U4:=by rw[←hU4];exact ae U3 _
 have k4:Blk U4 (V1.heap.size+3) 183 [.pointer (some ⟨B,0,none⟩)]:=by rw[←hU4,←y3];exact PK U3 _
 have hM0:BlM w W B W.heap.size V1.heap.size line (.slice a0 L.length c0) s0 [] [] false U4:=
  ⟨hR3.keep b4,hF3.trans (FrR.below b4),kA3.below b4,⟨_,k1'.below b4,eY.nil _ _⟩,⟨_,k2'.below b4,StS.nil _⟩,k3.below b4,k4,⟨s0,hRI,rfl⟩,Px _,by omega⟩
 have hK0:BlK L line s0 T s0 []:=⟨Px _,hk0,Px _,by simp[lens],lJ.refl _,hT⟩;have hDL:lnT (L.drop s0.k)≤lnT L:=gF L s0.k;have HGL:Hid (∀(s:RS) tx x V l m,BlM w W B W.heap.size V1.heap.size line (.slice a0 L.length c0) s.next tx [] false V→s.k≤L.length→s.d.length≤400000→x.length≤2000→CallsIn (Fence.wide.inRound l) m Tryz.prog 164 #[.pointer (some ⟨B,0,none⟩),.string ⟨x.toArray⟩] V fun e V'=> ∃a c,e=.returned (.slice a (lgF x).1.length c)∧BlM w W B W.heap.size V1.heap.size line (.slice a0 L.length c0) (Oc line s x) tx [] false V'∧GlF W.heap.size V' (.slice a (lgF x).1.length c) (lgF x).1∧FrR V V'):=zH fun s tx x V l m hV hk hd hx=>
  CallsIn.inRound l (Qb.2 ((uW x V hV.ri hx (by show s.k+1≤_;omega) (by show s.d.length≤_;omega)).mono fun e V' ⟨y,q1,q2,q3,q4⟩=>by
   obtain⟨a,c,rfl⟩:=(ag.sl ah q2).len;rw[rW]at q3;exact⟨a,c,q1,hV.go q3 q4,GlF.own q2 hV.fr.size,q4⟩))
 have HJN:Hid (∀s tx bh en V,BlM w W B W.heap.size V1.heap.size line (.slice a0 L.length c0) s tx bh en V→lens tx+tx.length≤90000→ ∃ta tc ba bc,V.cell? ⟨V1.heap.size,0,none⟩=some (.slice ta tx.length tc)∧V.cell? ⟨V1.heap.size+1,0,none⟩=some (.slice ba bh.length bc)∧
   Calls Tryz.prog 198 #[.slice ta tx.length tc] V.drew fun e V'=> ∃x,e=.returned x∧V'.cell? ⟨V1.heap.size+1,0,none⟩=some (.slice ba bh.length bc)∧StS V' (.slice ba bh.length bc) bh∧GlF W.heap.size V' x (jns tx)∧RI w B line (.slice a0 L.length c0) s V'∧FrR W V'∧KeepsOthers V V'):=zH fun s tx bh en V hV hlt2=>by
  obtain⟨v,t1,t2⟩:=hV.tx;obtain⟨ta,tc,rfl⟩:=t2.len;obtain⟨u,t3,t4⟩:=hV.bh;obtain⟨ba,bc,rfl⟩:=t4.1.len;have hMd:=hV.keep (PG V.heap.size V).drew;obtain⟨v',t1',t2'⟩:=hMd.tx;have e1:v'=.slice ta tx.length tc:=by
   have q1:V.drew.cell? ⟨V1.heap.size,0,none⟩=some v':=t1'.cell 0;have q2:V.drew.cell? ⟨V1.heap.size,0,none⟩=some (.slice ta tx.length tc):=t1.cell 0;rw[q1]at q2;injection q2
  subst e1;refine⟨ta,tc,ba,bc,t1.cell 0,t3.cell 0,(Dx _ W.heap.size _ tx _ V.drew rfl t2'.jo (fun b hb=>(Py.1 hb.2.choose_spec.choose_spec).1) hMd.fr.size hlt2).mono ?_⟩;rintro e V' ⟨x,rfl,j1,b1⟩;have f1:=FrR.below b1;have f2:FrR V V':=(FrR.below (PG V.heap.size V).drew).trans f1;exact⟨x,rfl,(f2.blk t3 (by decide) (by decide)).cell 0,t4.fr f2,j1.glf b1,hMd.ri.keep b1,hMd.fr.trans f1,f2.ko⟩
 clear hU4 b4 k4 k3 k2' k1' hR3 hF3 kA3 q3 L1 y2 y1;refine lV rfl (by decide) (gf:=161) (lb:= #[.pointer (some ⟨V1.heap.size+3,0,none⟩)]) rfl trivial (enters_of Tryz.func161 (by kernel_rfl) rfl)
  (uP 8 (V1.heap.size+3) B w line L a0 c0 (Oc line) (fun s V=> ∃tx,BlM w W B W.heap.size V1.heap.size line (.slice a0 L.length c0) s tx [] false V∧BlK L line s0 T s tx) (fun s x V=> ∃tx,BlM w W B W.heap.size V1.heap.size line (.slice a0 L.length c0) s.next tx [] false V∧(L[s.k]? =some x∧BlK L line s0 T s tx)) (by omega) hS
   (fun s x=>by show s.k<s.k+1;omega)
   (fun s V ⟨tx,h,k⟩=>⟨h.ri,k.kl,h.b2⟩)
   (fun s A A' ⟨tx,h,k⟩ hb=>⟨tx,h.keep hb,k⟩)
   (fun s A x ⟨tx,h,k⟩ hx=>⟨tx,h.go h.ri.next (h.ri.frp 2 _),hx,k⟩)
   (fun s x A A' ⟨tx,h,k⟩ hb=>⟨tx,h.keep hb,k⟩)
   (fun s x V ⟨tx,h,k⟩=>⟨h.ri,h.b2⟩) s0)
  (fun _ _=>trivial) (fun _ _ _ _ _ _ _=>trivial) (fun _=>rfl)
  (fun c V=>c=.exit 0∧ ∃s tx bh,BlE L line s0 T s tx bh true∧BlM w W B W.heap.size V1.heap.size line (.slice a0 L.length c0) s tx bh true V)
  (fun s=>Fr0.ex fun tx=>(BlM.fr0 (by omega) (by omega)).and (Fr0.pure _ _))
  (fun s x=>Fr0.ex fun tx=>(BlM.fr0 (by omega) (by omega)).and (Fr0.pure _ _))
  (fun c=>(Fr0.pure _ _).and (Fr0.ex fun s=>Fr0.ex fun tx=>Fr0.ex fun bh=>(Fr0.pure _ _).and (BlM.fr0 (by omega) (by omega))))
  (Fr0.ex fun s=>(Fr0.ex fun tx=>(BlM.fr0 (by omega) (by omega)).and (Fr0.pure _ _)).and (Fr0.pure _ _))
  ⟨[],hM0,hK0⟩
  (fun x=>{tmps:= #[.pointer (some ⟨B,0,none⟩),.pointer (some ⟨W.heap.size,0,none⟩),.slice none 0 0,.slice none 0 0,.int .i64 (w6 first),.pointer (some ⟨V1.heap.size,0,none⟩),.pointer (some ⟨V1.heap.size+1,0,none⟩),.pointer (some ⟨V1.heap.size+1+1,0,none⟩),.string ⟨x.toArray⟩,.pointer (some ⟨B,0,none⟩),.int .i64 (w6 first),.pointer (some ⟨B,0,none⟩),.func (.func 161) #[] #[.pointer (some ⟨V1.heap.size+3,0,none⟩)],.string ⟨x.toArray⟩,undef,undef,undef,undef,undef,undef,undef,undef,undef,undef,undef,undef,undef,undef,undef,undef,undef,undef,undef,undef],defers:=[] }) ?assign ?body ?done ?stop
 case assign=>
  intro l x V K hK;simp only[zk]
  gi_wp2
  exact hK
 case body=>
  rintro l s x V ⟨tx,hM,hx,hK⟩;have hst:=hK.step hx;have hxl:=hpos s x hx;have hkl:=(Pw.1 hx).1;have hdl:=hK.dl;have htl:=hK.tl;have q1:V.cell? ⟨W.heap.size,0,none⟩=some (.pointer (some ⟨B,0,none⟩)):=hM.b1.cell 0;obtain⟨b2,hb⟩:∃b2,MV x=b2:=⟨_,rfl⟩;have HP:Hid (∀V' m,CallsIn (Fence.wide.inRound l) m Tryz.prog 144 #[.string ⟨x.toArray⟩,.string ⟨#[84,125]⟩] V' fun e w'=>e=.returned (.bool b2)∧V'=w'):=zH fun V' m=>by
   have h:=DJ x 84 125 V' (by omega);have e:(x.take 2== [84,125])=b2:=hb;rw[e]at h;exact CallsIn.inRound l (Qb.2 h)
  rw[hb]at hst;have HST:=zH hst;have HM:=zH hM
  cases b2
  ·have htl2:tx.length≤500000:=by omega
   obtain⟨v,t1,t2⟩:=hM.tx;obtain⟨ta,tc,rfl⟩:=t2.len;have q2:V.cell? ⟨V1.heap.size,0,none⟩=some (.slice ta tx.length tc):=t1.cell 0;obtain⟨n,hn⟩:∃n,tx.length=n:=⟨_,rfl⟩;have hMd:=hM.keep (PG V.heap.size V).drew;have hne:∀A,FrR V A→A.cell? ⟨V1.heap.size,0,none⟩=some (.slice ta tx.length tc):=fun A hf=>(hf.blk t1 (by decide) (by decide)).cell 0
   have HG:Hid (∀m,CallsIn (Fence.wide.inRound l) m Tryz.prog 164 #[.pointer (some ⟨B,0,none⟩),.string ⟨x.toArray⟩] V.drew fun e V'=> ∃ga gn gc a' c' w',e=.returned (.slice ga gn gc)∧V'.cell? ⟨V1.heap.size,0,none⟩=some (.slice ta n tc)∧(V'.alloc (.cells #[.slice ga gn gc] 26)).cell? ⟨V1.heap.size,0,none⟩=some (.slice ta n tc)∧(mJ #[.slice ta n tc,.slice (some ⟨V'.heap.size,0,none⟩) 1 1]).run Tryz.prog (V'.alloc (.cells #[.slice ga gn gc] 26))=.ok (.value (.slice a' (n+1) c')) w'∧w'.cell? ⟨V1.heap.size,0,none⟩=some (.slice ta n tc)∧w'.frozen? ⟨V1.heap.size,0,none⟩=false∧
     BlM w W B W.heap.size V1.heap.size line (.slice a0 L.length c0) (Oc line s x) (tx++ [(lgF x).1]) [] false (w'.setCell ⟨V1.heap.size,0,none⟩ (.slice a' (n+1) c'))∧KeepsOthers V (w'.setCell ⟨V1.heap.size,0,none⟩ (.slice a' (n+1) c'))):=zH fun m=>by
    refine(HGL.out s tx x V.drew l m hMd (by omega) (by omega) hxl).mono ?_;rintro e V' ⟨ga,gc,rfl,m1,g1,f1⟩;obtain⟨ta2,tc2,a',c',w',r0,r1,r2,r3,r4,r5⟩:=m1.push htl2 (ga,(lgF x).1.length,gc) _ g1;have hf:FrR V V':=(FrR.below (PG V.heap.size V).drew).trans f1;have e0:=hne V' hf;rw[r0]at e0;injection e0 with e0
    injection e0 with e1 e2 e3
    subst e1 e3;rw[hn]at r0 r1 r2 r4 r5;exact⟨ga,_,gc,a',c',w',rfl,r0,((ae V' _).cell (PX _ _ r0)).trans r0,r1,r2,r3,r4,hf.ko.trans r5⟩
   rw[hn]at q2;clear hM hK hst hx HGL hM0 hK0 hb hRI hS hU hpos hL hT t1 t2 hMd hne hn htl2
   gi_wp2_with (refine⟨trivial,?_⟩;gi_at_call 144;refine(HP.out _ _).mono ?_;rintro e V2 ⟨rfl,rfl⟩)
   gi_region_with (refine⟨trivial,?_⟩;gi_at_call 164;refine(HG.out _).mono ?_;rintro e V3 ⟨ga,gn,gc,a',c',w',rfl,u0,u1,kk,u2,u3,m1,ko1⟩;have M1:=zH m1;have KO1:=zH ko1;clear m1 ko1)
   all_goals
    gi_wp2_with fail
    exact⟨KO1.out.from _,trivial,_,M1.out,HST.out.1 (by simp)⟩
  ·have HCU:Hid (∀m,CallsIn (Fence.wide.inRound l) m Tryz.prog 162 #[.string ⟨x.toArray⟩] V fun e V'=> ∃v a c,e=.returned v∧(∀W':World,(zC v (.int .i64 1)).run Tryz.prog W'=.ok (.slice a (aU 9 x).tail.length c) W')∧StS V' (.slice a (aU 9 x).tail.length c) (aU 9 x).tail∧BlM w W B W.heap.size V1.heap.size line (.slice a0 L.length c0) s.next tx [] false V'∧FrR V V'):=zH fun m=>by
    refine CallsIn.inRound l (Qb.2 ((BA x V (by omega)).mono ?_));rintro e V' ⟨v,rfl,o1,b1⟩;obtain⟨a,c,r1,r2⟩:=(StS.own o1).tail (by rw[pQ];omega);exact⟨v,a,c,rfl,r1,r2,hM.keep b1,FrR.below b1⟩
   clear hM hK hst hx HGL hM0 hK0 hb hRI hS hU hpos hL hT;obtain⟨nb,hnb⟩:∃nb,(aU 9 x).tail.length=nb:=⟨_,rfl⟩;rw[hnb]at HCU
   gi_wp2_with (first
    | (refine⟨trivial,?_⟩;gi_at_call 144;refine(HP.out _ _).mono ?_;rintro e V2 ⟨rfl,rfl⟩)
    | (refine⟨trivial,?_⟩;gi_at_call 162;refine(HCU.out _).mono ?_;rintro e V3 ⟨v,sa,sc,rfl,kk,st,m1,f1⟩;have ST:=zH st;have M1:=zH m1;have F1:=zH f1;obtain⟨u,t3,-⟩:=m1.bh;have c2:V3.cell? ⟨V1.heap.size+1,0,none⟩=some u:=t3.cell 0;have c3:V3.cell? ⟨V1.heap.size+1+1,0,none⟩=some (.bool false):=m1.en.cell 0;have d2:V3.frozen? ⟨V1.heap.size+1,0,none⟩=false:=t3.frozen (by simp);have d3:V3.frozen? ⟨V1.heap.size+1+1,0,none⟩=false:=m1.en.frozen (by simp);clear st m1 f1 t3))
   have HKO:Hid (KeepsOthers V ((V3.setCell ⟨V1.heap.size+1,0,none⟩ (.slice sa nb sc)).setCell ⟨V1.heap.size+1+1,0,none⟩ (.bool true))):=zH (F1.out.ko.trans ((KeepsOthers.setCell _ _ _).trans (KeepsOthers.setCell _ _ _)));exact⟨HKO.out.from _,rfl,_,_,_,HST.out.2 (by simp),M1.out.brk ST.out⟩
 case done=>
  rintro D V hD ⟨s,⟨tx,hM,hK⟩,hk⟩ hdef;have hE:=hK.fin hk;have hdl:=hE.dl;have T1:=zH (fun m=>Qb (n:=m)|>.2 (jN V hM.ri 7 first (by omega)));have c1:V.cell? ⟨V1.heap.size+1+1,0,none⟩=some (.bool false):=hM.en.cell 0;have c2:V.cell? ⟨W.heap.size,0,none⟩=some (.pointer (some ⟨B,0,none⟩)):=hM.b1.cell 0;have HM:=zH hM;have HE:=zH hE;have HD:=zH hdef;clear hM hK hE hdef HGL hM0 hK0 hRI hS hU hpos hL hT
  gi_wp2_with (refine⟨trivial,?_⟩;gi_at_call 158;refine(T1.out _).mono ?_;rintro e V2 ⟨rfl,r1,f1⟩;have M2:=zH (HM.out.go r1 f1);have KO2:=zH f1.ko;clear r1 f1)
  have hjl:lens tx+tx.length≤90000:=by have:=HE.out.tl;omega
  obtain⟨ta,tc,ba,bc,c3,c4,hJ⟩:=HJN.out _ _ _ _ _ M2.out hjl;have HJ:=zH hJ;obtain⟨nt,hnt⟩:∃nt,tx.length=nt:=⟨_,rfl⟩;obtain⟨nb,hnb⟩:∃nb,([]:List Txt).length=nb:=⟨_,rfl⟩;rw[hnt]at c3 HJ;rw[hnb]at c4 HJ;clear hJ HJN
  gi_wp2_with fail
  refine jI ?_;refine wpIn_wide.2 ?_;go_region_with (go_at_call 198;refine HJ.out.mono ?_;rintro e V3 ⟨x,rfl,c4',st,gl,r3,f3,ko3⟩;have RS3:=zH (And.intro st (And.intro gl (And.intro r3 (And.intro f3 ko3))));clear st gl r3 f3 ko3)
  all_goals
   gi_wp2_with fail
   rw[QJ];obtain⟨st,gl,r3,f3,ko3⟩:=RS3.out;have hd2:V3.heap[D]? =some (.deferred (some [])):=ko3.same _ _ (KO2.out.same _ _ HD.out rfl) rfl;refine⟨by simp[Act.put],.inl ⟨_,_,rfl,run_takeDeferred (w:=V3) hd2,?_⟩⟩;refine⟨_,results_tmp2 (by rfl) _ _ _,x,ba,bc,_,jns tx,([]:List Txt),?_,(RI.fr0 (Px _)).put _ r3 (by omega) hd2 rfl,(FrR.fr0 (Px _)).put _ f3 (by omega) hd2 rfl,GlF.fr0.put (B:=0) _ gl (P6 _) hd2 rfl,?_,?_⟩
   ·rw[hnb];rfl
   ·rw[hnb];exact StS.fr0.put (B:=0) _ st (P6 _) hd2 rfl
   ·have hE:=HE.out
    refine⟨hE.k0,hE.kl,?_,hE.same.trans ⟨rfl,rfl,rfl,rfl⟩,hE.g,.inl ?_⟩
    ·show(s.d++ [(7,first,0)]).length≤_
     rw[PL];have:=hE.dl;simp only[PI,PQ];omega
    ·rcases hE.fin with⟨-,-,q3,q4⟩| ⟨q,-⟩
     ·exact⟨q3,rfl,by show s.d++ [(7,first,0)]=_;rw[hE.d,hfi],q4⟩
     ·cases q
 case stop=>
  rintro D c V hD ⟨rfl,s,tx,bh,hE,hM⟩ hdef;have c1:V.cell? ⟨V1.heap.size+1+1,0,none⟩=some (.bool true):=hM.en.cell 0;have HM:=zH hM;have HE:=zH hE;have HD:=zH hdef;clear hM hE hdef HGL hM0 hK0 hRI hS hU hpos hL hT;have hjl:lens tx+tx.length≤90000:=by have:=HE.out.tl;omega
  obtain⟨ta,tc,ba,bc,c3,c4,hJ⟩:=HJN.out _ _ _ _ _ HM.out hjl;have HJ:=zH hJ;obtain⟨nt,hnt⟩:∃nt,tx.length=nt:=⟨_,rfl⟩;obtain⟨nb,hnb⟩:∃nb,bh.length=nb:=⟨_,rfl⟩;rw[hnt]at c3 HJ;rw[hnb]at c4 HJ;clear hJ HJN
  gi_wp2_with fail
  refine jI ?_;refine wpIn_wide.2 ?_;go_region_with (go_at_call 198;refine HJ.out.mono ?_;rintro e V3 ⟨x,rfl,c4',st,gl,r3,f3,ko3⟩;have RS3:=zH (And.intro st (And.intro gl (And.intro r3 (And.intro f3 ko3))));clear st gl r3 f3 ko3)
  all_goals
   gi_wp2_with fail
   rw[QJ];obtain⟨st,gl,r3,f3,ko3⟩:=RS3.out;have hd2:V3.heap[D]? =some (.deferred (some [])):=ko3.same _ _ HD.out rfl;refine⟨by simp[Act.put],.inl ⟨_,_,rfl,run_takeDeferred (w:=V3) hd2,?_⟩⟩;refine⟨_,results_tmp2 (by rfl) _ _ _,x,ba,bc,_,jns tx,bh,?_,(RI.fr0 (Px _)).put _ r3 (by omega) hd2 rfl,(FrR.fr0 (Px _)).put _ f3 (by omega) hd2 rfl,GlF.fr0.put (B:=0) _ gl (P6 _) hd2 rfl,?_,?_⟩
   ·rw[hnb];rfl
   ·rw[hnb];exact StS.fr0.put (B:=0) _ st (P6 _) hd2 rfl
   ·have hE:=HE.out
    refine⟨hE.k0,hE.kl,by have:=hE.dl;omega,hE.same,hE.g,.inr ?_⟩;rcases hE.fin with⟨q,-⟩| ⟨-,q1,t,q2,q3,q4⟩
    ·cases q
    ·exact⟨t,q2,q3,hE.d,q4,q1⟩
theorem Em {w:World}{B:Nat}{line:Int}{a0:Option Addr}{c0:Nat}(L:List Txt)(s0:RS)(W:World)(hRI:RI w B line (.slice a0 L.length c0) s0 W)(hS:Ss w (.slice a0 L.length c0) L)(hU:U8 w)(hL:∀x∈L,x.length≤2000)(hl:lnT L≤40000)(hn:L.length≤40000)
  (hk0:s0.k≤L.length) (hd0:s0.d.length≤300000):
  Calls Tryz.prog 163 #[.pointer (some ⟨B,0,none⟩)] W fun e W'=> ∃(x:Value) (a:Option Addr) (c:Nat) (s:RS) (g:List Gly) (bh:List Txt),e=.returned (.tuple #[x,.slice a bh.length c])∧RI w B line (.slice a0 L.length c0) s W'∧FrR W W'∧
   GlF W.heap.size W' x g∧StS W' (.slice a bh.length c) bh∧BlP L line s0 (bV lgF (L.drop s0.k) (line+s0.k) [] s0.d) s g bh:=Qb.1 (Il L s0 W hRI hS hU hL hl hn hk0 hd0)
end
theorem tF (lg:Lgf):∀(l:List Txt) (ln:Int) (acc:List Gly) (d:List Dgn),∀y∈(bV lg l ln acc d).2.2.2,y∈l
 | [],_,_,_=>fun y h=>by simp[bV]at h
 | s::r,ln,acc,d=>by
  unfold bV
  split
  ·exact fun y h=>h
  ·exact fun y h=>QM _ (tF lg r (ln+1) (jn acc (lg s).1) (d++aY ln (lg s).2) y h)
theorem tC (lg:Lgf)(d0:List Dgn):∀(l:List Txt) (ln:Int) (acc:List Gly) (d:List Dgn),bV lg l ln acc (d0++d)=((bV lg l ln acc d).1,d0++(bV lg l ln acc d).2.1,(bV lg l ln acc d).2.2)
 | [],_,_,_=>rfl
 | s::r,ln,acc,d=>by
  unfold bV
  split
  ·rfl
  ·rw[Qx]
   exact tC lg d0 r (ln+1) (jn acc (lg s).1) (d++aY ln (lg s).2)
abbrev LP (d0:List Dgn)(q:qM):qM:=(q.1,d0++q.2.1,q.2.2)
theorem mE (lg:Lgf)(d0:List Dgn){K:List Txt→List Txt→Int→List (List Gly)→List Dgn→qM}(hK:∀ps rest ln cs d,K ps rest ln cs (d0++d)=LP d0 (K ps rest ln cs d)):∀(ps rest:List Txt) (ln:Int) (cs:List (List Gly)) (d:List Dgn),dD lg K ps rest ln cs (d0++d)=LP d0 (dD lg K ps rest ln cs d)
 | [],rest,ln,cs,d=>rfl
 | p::ps,rest,ln,cs,d=>by
  unfold dD
  by_cases hp:p=tbW
  ·rw[PZ hp,PZ hp]
   have e:=tC lg d0 rest (ln+1) [] d;generalize bV lg rest (ln+1) [] d=q at e;obtain⟨g,d2,ln2,r2⟩:=q;rw[e]
   cases r2 with
   | nil=>simp[LP]
   | cons s r=>exact hK _ _ _ _ _
  ·rw[PO hp,PO hp,Qx]
   exact mE lg d0 hK ps rest ln (cs++ [(lg p).1]) (d++aY ln (lg p).2)
theorem rA (lg:Lgf)(d0:List Dgn):∀(n:Nat) (ps rest:List Txt) (ln:Int) (cs:List (List Gly)) (d:List Dgn),cK lg n ps rest ln cs (d0++d)=LP d0 (cK lg n ps rest ln cs d)
 | 0,ps,rest,ln,cs,d=>mE lg d0 (fun _ _ _ _ _=>rfl) ps rest ln cs d
 | n+1,ps,rest,ln,cs,d=>mE lg d0 (rA lg d0 n) ps rest ln cs d
structure RoK (L:List Txt)(line:Int)(x:Txt)(s0:RS)(T:qM)(s:RS)(ps:List Txt)(cs:List (List Gly)):Prop where
 k0:s0.k≤s.k
 kl:s.k≤L.length
 dl:s.d.length+lnT ps+lnT (L.drop s.k)≤s0.d.length+(x.length+1)+lnT (L.drop s0.k)
 tl:cs.length+lens cs+lnT ps+lnT (L.drop s.k)≤(x.length+1)+lnT (L.drop s0.k)
 pl:∀p∈ps,p.length≤2000
 same:lJ s0 s
 inv:(∃n,(L.drop s.k).length≤n∧cK lgF (n+1) ps (L.drop s.k) (line+s.k-1) cs s.d=T)∨(ps=[]∧T.1=cs∧T.2.1=s.d∧T.2.2.2=[]∧L.drop s.k=[])
section
variable {L:List Txt}{line:Int}{x:Txt}{s0 s s':RS}{T:qM}{ps:List Txt}{cs:List (List Gly)}
theorem RoK.start (s0:RS)(hk:s0.k≤L.length)(hx:x.length≤2000):RoK L line x s0 (cK lgF ((L.drop s0.k).length+1) (aU 9 x) (L.drop s0.k) (line+s0.k-1) [] s0.d) s0 (aU 9 x) []:=by
 have h1:=lm 9 x;refine⟨Px _,hk,by omega,by simp[lens];omega,fun p hp=>?_,lJ.refl _,.inl ⟨_,Px _,rfl⟩⟩;have:=yP hp;omega
theorem RoK.gly {p:Txt}(h:RoK L line x s0 T s (p::ps) cs)(hp:p≠tbW):RoK L line x s0 T (s.add (aY (line+s.k-1) (lgF p).2)) ps (cs++ [(lgF p).1]):=by
 have h1:=h.dl;have h2:=h.tl;have h3:=jA p;have h4:=jV (line+s.k-1) (lgF p).2;rw[aQ]at h1 h2;refine⟨h.k0,h.kl,?_,?_,fun q hq=>h.pl q (QM _ hq),h.same.trans ⟨rfl,rfl,rfl,rfl⟩,?_⟩
 ·show(s.d++aY (line+s.k-1) (lgF p).2).length+lnT ps+lnT (L.drop s.k)≤_
  rw[PL];omega
 ·rw[PL,fO,ik]
  show _+lnT ps+lnT (L.drop s.k)≤_;simp only[PI,PQ];omega
 ·rcases h.inv with⟨n,q1,q2⟩| ⟨q,-⟩
  ·refine .inl ⟨n,q1,?_⟩
   rw[←q2];show dD lgF (cK lgF n) ps _ _ _ _=dD lgF (cK lgF n) (p::ps) _ _ _ _;rw[dD,PO hp];rfl
  ·cases q
theorem RoK.blk {g:List Gly}{bh:List Txt}(h:RoK L line x s0 T s (tbW::ps) cs)(hb:BlP L line s (bV lgF (L.drop s.k) (line+s.k) [] s.d) s' g bh)(hL:∀y∈L,y.length≤2000):RoK L line x s0 T s' bh (cs++ [g]):=by
 have h1:=h.dl;have h2:=h.tl;rw[aQ]at h1 h2;have h3:=nT (lg:=lgF) (fun s=>(jA s).2) (L.drop s.k) (line+s.k) [] s.d;have h4:=nU (lg:=lgF) (fun s=>(jA s).1) (L.drop s.k) (line+s.k) [] s.d;have h5:=tF lgF (L.drop s.k) (line+s.k) [] s.d;have h6:=wM lgF (L.drop s.k) (line+s.k) [] s.d;obtain⟨b1,b2,b3,b4,b5,b6⟩:=hb;have hk0:=h.k0;have e0:line+(s.k:Int)-1+1=line+s.k:=by omega
 have hT:∃q,bV lgF (L.drop s.k) (line+s.k) [] s.d=q:=⟨_,rfl⟩;obtain⟨q,hq⟩:=hT;rw[hq]at h3 h4 h5 h6 b5 b6;obtain⟨tg,td,tn,tr⟩:=q;simp only at h3 h4 h5 h6 b5 b6;subst b5;rcases b6 with⟨q1,q2,q3,q4⟩| ⟨t,q1,q2,q3,q4,q5⟩
 ·subst q1 q2
  have e:L.drop s'.k=[]:=by rw[q4];simp
  refine⟨by omega,b2,?_,?_,by simp,h.same.trans b4,?_⟩
  ·rw[e,q3,PL]
   simp only[lnT,QH,RX,PI,PQ]at h1 h3⊢;omega
  ·rw[e,PL,fO,ik]
   simp only[lnT,QH,RX,PI,PQ]at h2 h4⊢;omega
  ·refine .inr ⟨rfl,?_⟩
   rcases h.inv with⟨n,p1,p2⟩| ⟨p,-⟩
   ·rw[←p2,e,q3]
    show(dD lgF (cK lgF n) (tbW::ps) _ _ _ _).1=_∧(dD lgF (cK lgF n) (tbW::ps) _ _ _ _).2.1=_∧(dD lgF (cK lgF n) (tbW::ps) _ _ _ _).2.2.2=_∧_;rw[dD,PZ rfl,e0,hq];exact⟨rfl,rfl,rfl,rfl⟩
   ·cases p
 ·subst q1 q2
  have g1:=lm 9 t;have g2:=uO (aU 9 t);rw[aQ]at h3 h4;have ht:t∈L:=List.mem_of_mem_drop (h5 t (QQ ..));refine⟨by omega,b2,?_,?_,fun p hp=>?_,h.same.trans b4,?_⟩
  ·rw[q3];omega
  ·rw[PL,fO,ik]
   simp only[PI,PQ]at h4⊢;omega
  ·have g3:=yP (List.mem_of_mem_tail hp)
   have g4:=hL t ht;omega
  ·refine .inl ?_
   rcases h.inv with⟨n,p1,p2⟩| ⟨p,-⟩
   ·have g5:(L.drop s'.k).length+1≤(L.drop s.k).length:=by simpa using h6
    cases n with
    | zero=>omega
    | succ n=>
     refine⟨n,by omega,?_⟩;rw[←p2];show _=dD lgF (cK lgF (n+1)) (tbW::ps) _ _ _ _;rw[dD,PZ rfl,e0,hq];show _=cK lgF (n+1) (aU 9 t).tail (L.drop s'.k) tn _ td;rw[q4,q3]
   ·cases p
theorem RoK.fin (h:RoK L line x s0 T s [] cs):T.1=cs∧T.2.1=s.d∧T.2.2.2=L.drop s.k∧(L.drop s.k=[]∨T.2.2.1=line+s.k-1):=by
 rcases h.inv with⟨n,-,q⟩| ⟨-,q1,q2,q3,q4⟩
 ·subst q
  exact⟨rfl,rfl,rfl,.inr rfl⟩
 ·exact⟨q1,q2,q3.trans q4.symm,.inl q4⟩
structure vN (L:List Txt)(line:Int)(x:Txt)(s0 s:RS):Prop where
 k0:s0.k≤s.k
 kl:s.k≤L.length
 dl:s.d.length+lnT (L.drop s.k)≤s0.d.length+(x.length+2)+lnT (L.drop s0.k)
 cols:s.cols=s0.cols
 bx:s.bx=s0.bx
 al:s.al=s0.al
 rows:s.rows=s0.rows++ [(rowP lgF s0.cols.length x (L.drop s0.k) (line+s0.k-1)).1]
 d:s.d=s0.d++(rowP lgF s0.cols.length x (L.drop s0.k) (line+s0.k-1)).2.1
 rest:L.drop s.k=(rowP lgF s0.cols.length x (L.drop s0.k) (line+s0.k-1)).2.2.2
 ln:L.drop s.k=[]∨(rowP lgF s0.cols.length x (L.drop s0.k) (line+s0.k-1)).2.2.1=line+s.k-1
def RS.row (s:RS)(r:bT):RS:={s with rows:=s.rows++ [r] }
theorem vN.rule (s0:RS)(hk:s0.k≤L.length)(hx:x=[95]∨x=[61]):vN L line x s0 (s0.row (true,[])):=by
 have e:rowP lgF s0.cols.length x (L.drop s0.k) (line+s0.k-1)=((true,[]),[],line+s0.k-1,L.drop s0.k):=by unfold rowP;rw[PZ hx]
 refine⟨Px _,hk,?_,rfl,rfl,rfl,by rw[e];rfl,by rw[e];simp[RS.row],by rw[e];rfl,.inr (by rw[e];rfl)⟩;show s0.d.length+lnT (L.drop s0.k)≤_;omega
theorem RoK.row (h:RoK L line x s0 (cK lgF ((L.drop s0.k).length+1) (aU 9 x) (L.drop s0.k) (line+s0.k-1) [] s0.d) s [] cs)(hx:¬(x=[95]∨x=[61])):
  (¬s0.cols.length<cs.length→vN L line x s0 (s.row (false,cs)))∧(s0.cols.length<cs.length→vN L line x s0 (({s with d:=s.d++ [(11,line+s0.k-1,0)] }:RS).row (false,cs))):=by
 have hf:=h.fin;have hp:=rA lgF s0.d ((L.drop s0.k).length+1) (aU 9 x) (L.drop s0.k) (line+s0.k-1) [] [];rw[Qc]at hp;rw[hp]at hf;have e:rowP lgF s0.cols.length x (L.drop s0.k) (line+s0.k-1)=((false,(cK lgF ((L.drop s0.k).length+1) (aU 9 x) (L.drop s0.k) (line+s0.k-1) [] []).1),(cK lgF ((L.drop s0.k).length+1) (aU 9 x) (L.drop s0.k) (line+s0.k-1) [] []).2.1++(if s0.cols.length<(cK lgF ((L.drop s0.k).length+1) (aU 9 x) (L.drop s0.k) (line+s0.k-1) [] []).1.length then [(11,line+s0.k-1,0)] else []),(cK lgF ((L.drop s0.k).length+1) (aU 9 x) (L.drop s0.k) (line+s0.k-1) [] []).2.2.1,(cK lgF ((L.drop s0.k).length+1) (aU 9 x) (L.drop s0.k) (line+s0.k-1) [] []).2.2.2):=by
  unfold rowP;rw[PO hx]
 generalize cK lgF ((L.drop s0.k).length+1) (aU 9 x) (L.drop s0.k) (line+s0.k-1) [] []=q at hf e;obtain⟨q1,q2,q3,q4⟩:=q;simp only at hf e;obtain⟨f1,f2,f3,f4⟩:=hf;subst f1;have h1:=h.dl;simp only[lnT,QH,RX,Qr]at h1;have hs:=h.same;refine⟨fun hn=>?_,fun hn=>?_⟩
 ·rw[PO hn,Qc]at e
  refine⟨h.k0,h.kl,?_,hs.cols,hs.bx,hs.al,?_,?_,?_,?_⟩
  ·show s.d.length+lnT (L.drop s.k)≤_
   simp only[lnT];omega
  ·rw[e,←hs.rows];rfl
  ·rw[e];exact f2.symm
  ·rw[e];exact f3.symm
  ·rw[e];exact f4
 ·rw[PZ hn]at e
  refine⟨h.k0,h.kl,?_,hs.cols,hs.bx,hs.al,?_,?_,?_,?_⟩
  ·show(s.d++ [(11,line+s0.k-1,0)]).length+lnT (L.drop s.k)≤_
   rw[PL];simp only[lnT,PI,PQ];omega
  ·rw[e,←hs.rows];rfl
  ·rw[e]
   show s.d++ [(11,line+s0.k-1,0)]=s0.d++(q2++ [(11,line+s0.k-1,0)]);rw[←f2,Qx]
  ·rw[e];exact f3.symm
  ·rw[e];exact f4
end
structure FrW (W W':World):Prop where
 size:W.heap.size≤W'.heap.size
 same:∀(g:Nat) (o:Obj),W.heap[g]? =some o→(∀cur fz,o≠Obj.cells cur 185 fz)→(∀cur fz,o≠Obj.cells cur 46 fz)→(∀cur fz,o≠Obj.cells cur 90 fz)→W'.heap[g]? =some o
theorem FrW.trans {a b c:World}(h:FrW a b)(k:FrW b c):FrW a c:=⟨PY h.size k.size,fun g o ho h1 h2 h3=>k.same g o (h.same g o ho h1 h2 h3) h1 h2 h3⟩
theorem FrR.w {W W':World}(h:FrR W W'):FrW W W':=⟨h.size,fun g o ho h1 h2 _=>h.same g o ho h1 h2⟩
theorem FrW.blk {W W':World}(h:FrW W W'){g e:Nat}{L:List Value}(hb:Blk W g e L)(h1:e≠185)(h2:e≠46)(h3:e≠90):Blk W' g e L:=
 h.same g _ hb (fun c f q=>by injection q with _ q;exact h1 q) (fun c f q=>by injection q with _ q;exact h2 q) (fun c f q=>by injection q with _ q;exact h3 q)
theorem FrW.ko {W W':World}(h:FrW W W'):KeepsOthers W W':=⟨h.size,fun k o hk ho=>h.same k o hk (fun c f q=>by subst q;cases ho) (fun c f q=>by subst q;cases ho) (fun c f q=>by subst q;cases ho)⟩
theorem FrW.set {W:World}{B:Nat}{L:List Value}(h:Blk W B 185 L)(j:Nat)(v:Value):FrW W (W.setCell ⟨B,j,none⟩ v):=by
 refine⟨(PG 0 W).setCell (p:=⟨B,j,none⟩) (P6 _) v |>.size,fun g o ho h1 _ _=>?_⟩;rw[PN _ _ _ _ (fun e=>by
   have e:g=B:=e;have k:W.heap[B]? =some (.cells L.toArray 185 (0,0)):=h;rw[←e,ho]at k;injection k with k
   exact h1 _ _ k)]
 exact ho
theorem FrW.grown {W W':World}{row:Option Nat}(hg:W.grownBy W' row)(hr:∀g,row=some g→ ∃cur fz,W.heap[g]? =some (.cells cur 90 fz)):FrW W W':=
 ⟨hg.size,fun g o ho _ _ h2=>(hg.block g (Py.1 ho).1 (fun e=>by
  obtain⟨cur,fz,hc⟩:=hr g e.symm;rw[ho]at hc;injection hc with hc
  exact h2 _ _ hc)).trans ho⟩
theorem qJ {W W':World}{args:Array Value}{v:Value}(h:(appW args).run Tryz.prog W=.ok (.value v) W'):(Builtin.append_ #[54,54] 54 args).run Tryz.prog W=.ok v W':=by
 unfold appW at h;rw[QD]at h
 cases k:(Builtin.append_ #[54,54] 54 args).run Tryz.prog W with
 | ok u w1=>
  rw[k,Qm,QG]at h;injection h with h1 h2
  injection h1 with h1
  rw[h1,h2]
 | _=>rw[k]at h;cases h
theorem fV.frw {base:Nat}{W:World}{v:Value}{l:List bT}(h:fV base W v l)(hb:base≤W.heap.size)(hl:l.length≤500000)(b:Bool)(s:PV){v':Value}{w':World}(hr:(appW #[v,.slice (some ⟨W.heap.size,0,none⟩) 1 1]).run Tryz.prog (W.alloc (.cells #[.bool b,pv s] 90))=.ok (.value v') w'):FrW W w':=by
 obtain⟨L,S,hL,hLl,hS,hE⟩:=h.own;obtain⟨i0,hi,hz0,hz1,hz2⟩:=Ql Dz;obtain⟨a',c',w2,hr2,ho,hg,hty⟩:=Fg (P:=Tryz.prog) (t:=54) dB nS (by decide) Tryz.underlying54 hi hz0 hz1 hz2 rfl (by decide) hL hb (by omega) (b,s);have e:w'=w2:=by
  have h1:=qJ hr;rw[show(cz (b,s)).toArray= #[.bool b,pv s] from rfl]at hr2;exact EJ (h1.symm.trans hr2)
 subst e;exact(FrR.w (FrR.below (ae W _))).trans (FrW.grown hg hty)
theorem RI.row {w W:World}{B:Nat}{line:Int}{vl:Value}{s:RS}(h:RI w B line vl s W)(hl:s.rows.length≤500000)(b:Bool)(q:PV)(r:List (List Gly))
  (hs:GrS (fun x=>w.heap.size≤x∧ ∃cur e fz,W.heap[x]? =some (.cells cur e fz)∧(e=26∨e=35)) W (pv q) r):
  ∃a c a' c' w2,W.cell? ⟨B,4,none⟩=some (.slice a s.rows.length c)∧(appW #[.slice a s.rows.length c,.slice (some ⟨W.heap.size,0,none⟩) 1 1]).run Tryz.prog (W.alloc (.cells #[.bool b,pv q] 90))=.ok (.value (.slice a' (s.rows.length+1) c')) w2∧w2.cell? ⟨B,4,none⟩=some (.slice a s.rows.length c)∧w2.frozen? ⟨B,4,none⟩=false∧
   RI w B line vl (s.row (b,r)) (w2.setCell ⟨B,4,none⟩ (.slice a' (s.rows.length+1) c'))∧FrW W (w2.setCell ⟨B,4,none⟩ (.slice a' (s.rows.length+1) c')):=by
 obtain⟨vr,vd,h1,h2,h3⟩:=h.val;obtain⟨a,c,rfl⟩:=h2.len;obtain⟨a',c',w2,hr,hi,hb,sam⟩:=h2.push h.bel.size hl b q r hs;have fw:=h2.frw h.bel.size hl b q hr;have k1:=h1.sam h.sz (sam _ (by decide));refine⟨a,c,a',c',w2,h1.cell 4,hr,k1.cell 4,k1.frozen (by simp),⟨h.sz,(h.bel.trans hb).setCell (p:=⟨B,4,none⟩) h.sz _,_,vd,k1.set 4 _,?_,?_⟩,fw.trans (FrW.set k1 4 _)⟩
 ·exact hi.sam (aF.set k1 (by decide) _ _) (aF.set k1 (by decide) _ _) (aF.set k1 (by decide) _ _)
 ·exact(h3.sam (sam _ (by decide))).sam (aF.set k1 (by decide) _ _)
structure RwM (w W0:World)(B C:Nat)(line:Int)(vl:Value)(s:RS)(cs:List (List Gly))(W:World):Prop where
 ri:RI w B line vl s W
 fr:FrR W0 W
 box:∃v,Blk W C 90 [.bool false,v]∧eY W0.heap.size W v cs
 h0:∃s0,RI w B line vl s0 W0∧s.rows=s0.rows
 c0:W0.heap.size≤C
section
variable {w W0:World}{B C:Nat}{line:Int}{vl:Value}{s s':RS}{cs:List (List Gly)}{A A':World}
theorem RwM.go (h:RwM w W0 B C line vl s cs A)(hr:RI w B line vl s' A')(hf:FrR A A')(hrw:s'.rows=s.rows:=by rfl):RwM w W0 B C line vl s' cs A':=by
 obtain⟨v,h1,h2⟩:=h.box;obtain⟨s0,k1,k2⟩:=h.h0;exact⟨hr,h.fr.trans hf,⟨v,hf.blk h1 (by decide) (by decide),h2.fr hf⟩,⟨s0,k1,hrw.trans k2⟩,h.c0⟩
theorem RwM.keep (h:RwM w W0 B C line vl s cs A)(hb:Below A.heap.size A A'):RwM w W0 B C line vl s cs A':=h.go (h.ri.keep hb) (FrR.below hb)
theorem RwM.push (h:RwM w W0 B C line vl s cs A)(hl:cs.length≤500000)(q:PV)(r:List Gly)(hs:GlF W0.heap.size A (pv q) r):
  ∃ta tc a' c' w',A.cell? ⟨C,1,none⟩=some (.slice ta cs.length tc)∧(mJ #[.slice ta cs.length tc,.slice (some ⟨A.heap.size,0,none⟩) 1 1]).run Tryz.prog (A.alloc (.cells #[pv q] 26))=.ok (.value (.slice a' (cs.length+1) c')) w'∧w'.cell? ⟨C,1,none⟩=some (.slice ta cs.length tc)∧w'.frozen? ⟨C,1,none⟩=false∧
   RwM w W0 B C line vl s (cs++ [r]) (w'.setCell ⟨C,1,none⟩ (.slice a' (cs.length+1) c'))∧aF 9 0 A (w'.setCell ⟨C,1,none⟩ (.slice a' (cs.length+1) c')):=by
 obtain⟨v,t1,t2⟩:=h.box;obtain⟨s0,k1,k2⟩:=h.h0;obtain⟨ta,tc,rfl⟩:=t2.len;have hc0:=h.c0;obtain⟨a',c',w',hr,ci,hb,sam⟩:=t2.push h.fr.size hl q r hs;have z:∀{e:TypeId},e≠26→aF e 0 A w':=fun he=>(sam _ he).zero (fun g hg=>hb.block g hg)
 have t1':=t1.sam (P6 _) (z (by decide));have ri1:=h.ri.ext h.fr k1 k2 hb (fun g cur fz _ hg=>z (e:=46) (by decide) g cur fz (P6 _) hg);have fr1:=h.fr.ext hb;have hb2:Below W0.heap.size w' (w'.setCell ⟨C,1,none⟩ (.slice a' (cs.length+1) c')):=(PG _ w').setCell (p:=⟨C,1,none⟩) hc0 _;have st:∀{e:TypeId},e≠90→aF e 0 w' (w'.setCell ⟨C,1,none⟩ (.slice a' (cs.length+1) c')):=fun he=>aF.set t1' (fun q=>he q) 1 _
 refine⟨ta,tc,a',c',w',t1.cell 1,hr,t1'.cell 1,t1'.frozen (by simp),⟨?_,fr1.ext hb2,⟨_,t1'.set 1 _,?_⟩,⟨s0,k1,k2⟩,h.c0⟩,(z (by decide)).trans (st (by decide))⟩
 ·exact ri1.ext fr1 k1 k2 hb2 (fun g cur fz _ hg=>st (e:=46) (by decide) g cur fz (P6 _) hg)
 ·exact ci.sam (aF.set t1' (by decide) 1 _) (aF.set t1' (by decide) 1 _)
theorem RwM.row (h:RwM w W0 B C line vl s cs A)(hl:s.rows.length≤500000):
  ∃v1 a c a' c' w2,A.cell? ⟨C,0,none⟩=some (.bool false)∧A.cell? ⟨C,1,none⟩=some v1∧A.cell? ⟨B,4,none⟩=some (.slice a s.rows.length c)∧(appW #[.slice a s.rows.length c,.slice (some ⟨A.heap.size,0,none⟩) 1 1]).run Tryz.prog (A.alloc (.cells #[.bool false,v1] 90))=.ok (.value (.slice a' (s.rows.length+1) c')) w2∧w2.cell? ⟨B,4,none⟩=some (.slice a s.rows.length c)∧w2.frozen? ⟨B,4,none⟩=false∧
   RI w B line vl (s.row (false,cs)) (w2.setCell ⟨B,4,none⟩ (.slice a' (s.rows.length+1) c'))∧FrW W0 (w2.setCell ⟨B,4,none⟩ (.slice a' (s.rows.length+1) c')):=by
 obtain⟨v,t1,t2⟩:=h.box;obtain⟨ta,tc,rfl⟩:=t2.len;obtain⟨s0,k1,k2⟩:=h.h0;obtain⟨a,c,a',c',w2,r1,r2,r3,r4,r5,r6⟩:=h.ri.row hl false (ta,cs.length,tc) cs (t2.grs.mono fun b ⟨q1,q2⟩=>⟨PY k1.bel.size q1,q2⟩);exact⟨_,a,c,a',c',w2,t1.cell 0,t1.cell 1,r1,r2,r3,r4,r5,h.fr.w.trans r6⟩
end
end Go.Proofs.YtebabjnngdjceaaGreatDoor

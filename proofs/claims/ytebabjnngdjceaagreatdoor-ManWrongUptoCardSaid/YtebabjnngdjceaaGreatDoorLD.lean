/- A reader tells a macro.  -/
import Derived.Test.YtebabjnngdjceaaGreatDoorKH
set_option linter.unusedVariables false
set_option linter.unusedSimpArgs false
set_option maxRecDepth 100000
set_option maxHeartbeats 8000000
namespace Go.Proofs.YtebabjnngdjceaaGreatDoor
open Go.RowKit
def nmN (t:List UInt8):Nat:=(t.takeWhile (fun c=> !blk c)).length
theorem Jr (t:List UInt8):nmN t≤t.length:=(List.takeWhile_sublist _).length_le
theorem rf:∀t:List UInt8,Lib.indexAny t [32,9]=if nmN t<t.length then(nmN t:Int) else-1
 | []=>rfl
 | b::l=>by
  have ih:=rf l;have hb:([32,9]:List UInt8).contains b=blk b:=by
   apply bO;simp[blk]
  conv=>lhs;unfold Lib.indexAny
  rw[hb];have hle:=Jr l
  cases hbk:blk b
  ·have e:nmN (b::l)=nmN l+1:=by simp[nmN,List.takeWhile_cons,hbk]
   rw[e,PI];simp only[Qf,Q8]
   by_cases h:nmN l<l.length
   ·rw[PZ h]at ih
    rw[ih,PZ (show nmN l+1<l.length+1 by omega)];have h1:((nmN l:Int)== -1)=false:=by rw[Rq];omega
    rw[h1];simp
   ·rw[PO h]at ih
    rw[ih,PO (show¬nmN l+1<l.length+1 by omega)];rfl
  ·have e:nmN (b::l)=0:=by simp[nmN,List.takeWhile_cons,hbk]
   rw[e];simp
def Jz (q:Int)(t:List UInt8):Row:=(q,t.take (nmN t),(args (t.drop (nmN t))).1.take 200,[])
def Dl (q:Int)(t:List UInt8):List Dg:=(if(args (t.drop (nmN t))).2 then [] else [(5,q,0)])++(if 200<(args (t.drop (nmN t))).1.length then [(11,q,0)] else [])
section
variable {base B:Nat}{W:World}{ln fi:Int}{va vb vr vd:Value}{tx:List UInt8}{rows:List Row}{dg:List Dg}
theorem RSk.lit (h:RSk base B W ln fi va vb vr vd tx rows dg):B<W.heap.size:=(Py.1 h.blk).1
theorem QUf {P:Prop}(h:P:=by
 refine((Fr.of_below h.sz b1).trans (Fr.grown h1.sz hg (fun r hr=>?_))).trans (Fr.set _ _ _);obtain⟨q1,-,cur,e⟩:=hrow r hr;exact⟨q1,cur,_,e⟩):P:=h
theorem RSk.say (h:RSk base B W ln fi va vb vr vd tx rows dg)(hl:rows.length≤500000)(y:Row)(a:Option Addr×Nat×Nat)(hA:iN base W (bE a) y.2.2.1)(C:Array Value)(hC:C=(ai (y.1,y.2.1,a,y.2.2.2)).toArray):
  ∃vr' w2,(Builtin.append_ #[25,25] 25 #[vr,.slice (some ⟨W.heap.size,0,none⟩) 1 1]).run Tryz.prog (W.alloc (.cells C 33)).drew=.ok vr' w2∧w2.cell? ⟨B,4,none⟩=some vr∧w2.frozen? ⟨B,4,none⟩=false∧
   RSk base B (w2.setCell ⟨B,4,none⟩ vr') ln fi va vb vr' vd tx (rows++ [y]) dg∧Fr base B W (w2.setCell ⟨B,4,none⟩ vr')∧ ∃b n c,vr'=.slice b n c:=by
 have h0:=h.keep (PG W.heap.size W).drew;have hAd:iN base W.drew (bE a) y.2.2.1:=hA.keep (PG _ _).drew;obtain⟨vr',w2,hrun,hrw,hg,hrow⟩:=h0.rw.push h0.sz hl y a hAd C hC;have b1:Below W.heap.size W (W.drew.alloc (.cells C 33)):=((PG _ W).drew).alloc (Px _) _;have h1:=h.keep b1;have hlt:=h.lt;have hne:vr.ownBlock≠some B:=fun e=>by have:=(hrow B e).1;omega
 have hb2:Blk w2 B 131 [.int .i64 ln,.int .i64 fi,va,vb,vr,vd]:=(hg.block B h1.lit (fun e=>hne e.symm)).trans h1.blk;have sd:aG 46 base (W.drew.alloc (.cells C 33)) w2:=aG.grown hg (fun r hr=>by obtain⟨-,-,cur,e⟩:=hrow r hr;exact⟨cur,_,e,by decide⟩);have sb:aG 5 base (W.drew.alloc (.cells C 33)) w2:=aG.grown hg (fun r hr=>by obtain⟨-,-,cur,e⟩:=hrow r hr;exact⟨cur,_,e,by decide⟩);have hd2:=h1.dg.held sd;have hf2:=h1.bf.held sb;refine⟨vr',w2,hrun,hb2.cell 4,hb2.frozen (by simp),⟨⟨hlt,?_,hb2.set 4 vr',?_,hd2.held (aG.low w2 hlt 4 vr')⟩,h.ad,hf2.held (aG.low w2 hlt 4 vr'),h.bn⟩,?_,?_⟩
 ·rw[eG];exact PY h1.sz hg.size
 ·exact hrw.held (aG.low w2 hlt 4 vr') (aG.low w2 hlt 4 vr')
 ·exact QUf
 ·obtain⟨b,c,e⟩:=hrw.len
  exact⟨_,_,_,e⟩
theorem RSk.tell (h:RSk base B W ln fi va vb vr vd tx rows dg)(hl:dg.length≤500000)(y:Dg)(C:Array Value)(hC:C=(fT y).toArray):
  ∃vd' w2,(Builtin.append_ #[29,29] 29 #[vd,.slice (some ⟨W.heap.size,0,none⟩) 1 1]).run Tryz.prog (W.alloc (.cells C 46)).drew=.ok vd' w2∧w2.cell? ⟨B,5,none⟩=some vd∧w2.frozen? ⟨B,5,none⟩=false∧
   RSk base B (w2.setCell ⟨B,5,none⟩ vd') ln fi va vb vr vd' tx rows (dg++ [y])∧Fr base B W (w2.setCell ⟨B,5,none⟩ vd')∧aG 33 base W (w2.setCell ⟨B,5,none⟩ vd')∧aG 9 base W (w2.setCell ⟨B,5,none⟩ vd')∧ ∃b n c,vd'=.slice b n c:=by
 have h0:=h.keep (PG W.heap.size W).drew;obtain⟨vd',w2,hrun,hdg,hg,hrow⟩:=h0.dg.push h0.sz hl y C hC;have b1:Below W.heap.size W (W.drew.alloc (.cells C 46)):=((PG _ W).drew).alloc (Px _) _;have h1:=h.keep b1;have hlt:=h.lt;have hne:vd.ownBlock≠some B:=fun e=>by have:=(hrow B e).1;omega
 have hb2:Blk w2 B 131 [.int .i64 ln,.int .i64 fi,va,vb,vr,vd]:=(hg.block B h1.lit (fun e=>hne e.symm)).trans h1.blk;have s1:aG 33 base (W.drew.alloc (.cells C 46)) w2:=aG.grown hg (fun r hr=>by obtain⟨-,-,cur,e⟩:=hrow r hr;exact⟨cur,_,e,by decide⟩);have s2:aG 9 base (W.drew.alloc (.cells C 46)) w2:=aG.grown hg (fun r hr=>by obtain⟨-,-,cur,e⟩:=hrow r hr;exact⟨cur,_,e,by decide⟩);have sb:aG 5 base (W.drew.alloc (.cells C 46)) w2:=aG.grown hg (fun r hr=>by obtain⟨-,-,cur,e⟩:=hrow r hr;exact⟨cur,_,e,by decide⟩);have hr2:=h1.rw.held s1 s2;have hf2:=h1.bf.held sb;have tr:∀e,aG e base (W.drew.alloc (.cells C 46)) w2→aG e base W (w2.setCell ⟨B,5,none⟩ vd'):=fun e hs g cur hbg hc=>by
  have q1:=aG.below (e:=e) (base:=base) b1 g cur hbg hc;have q2:=hs g cur hbg (q1.trans hc);have q3:=PN w2 ⟨B,5,none⟩ vd' g (by simp only;omega);exact q3.trans (q2.trans q1)
 refine⟨vd',w2,hrun,hb2.cell 5,hb2.frozen (by simp),⟨⟨hlt,?_,hb2.set 5 vd',hr2.held (aG.low w2 hlt 5 vd') (aG.low w2 hlt 5 vd'),?_⟩,h.ad,hf2.held (aG.low w2 hlt 5 vd'),h.bn⟩,?_,tr _ s1,tr _ s2,?_⟩
 ·rw[eG];exact PY h1.sz hg.size
 ·exact hdg.held (aG.low w2 hlt 5 vd')
 ·exact QUf
 ·obtain⟨b,c,e⟩:=(ag.sl ax hdg).len
  exact⟨_,_,_,e⟩
end
section
variable {base B:Nat}{W:World}{ln fi:Int}{va vb vr vd:Value}{tx:List UInt8}{rows:List Row}{dg:List Dg}
theorem Fr.high {R:Nat}(hR:base≤R)(j:Nat)(u:Value):Fr base B W (W.setCell ⟨R,j,none⟩ u):=
 ⟨rfl,rfl,rfl,fun k hk _=>PN W ⟨R,j,none⟩ u k (by simp only;omega),KeepsOthers.setCell _ _ _⟩
theorem RSk.setRow (h:RSk base B W ln fi va vb vr vd tx rows dg){R:Nat}{C:List Value}(hC:Blk W R 33 C)(hne:vr.ownBlock≠some R)(hRB:R≠B)(j:Nat)(u:Value):RSk base B (W.setCell ⟨R,j,none⟩ u) ln fi va vb vr vd tx rows dg:=by
 obtain⟨L,hL,hI⟩:=h.rw;refine⟨⟨h.lt,by rw[eG];exact h.sz,?_,⟨L,Rp hL hne u,?_⟩,Rp h.dg (ug h.dg hC (by decide)) u⟩,h.ad,Rp h.bf (ug h.bf hC (by decide)) u,h.bn⟩
 ·exact(PN W ⟨R,j,none⟩ u B (fun e=>hRB e.symm)).trans h.blk
 ·exact hI.mono fun v a ha=>Rp ha (ug ha hC (by decide)) u
theorem RSk.rowNe (h:RSk base B W ln fi va vb vr vd tx rows dg):vr.ownBlock≠some W.heap.size:=by
 obtain⟨L,hL,hI⟩:=h.rw;intro e;obtain⟨-,cur,hc⟩:=hL.ty e;have:=(Py.1 hc).1;omega
end
structure MAt (base B R:Nat)(w:World)(q:Int)(L:List (List UInt8))(aa:Option Addr)(cc:Nat)(ln fi:Int)(va vb vr vd:Value)(tx:List UInt8)(rows:List Row)(dg:List Dg)(W:World):Prop where
 rs:RSk base B W ln fi va vb vr vd tx rows dg
 fr:Fr base B w W
 row:Blk W R 33 [.int .i64 q,.string ⟨#[]⟩,.slice none 0 0,.string ⟨#[]⟩]
 arg:iN base W (.slice aa L.length cc) L
 ne:vr.ownBlock≠some R
 hR:base≤R
section
variable {base B R:Nat}{w W:World}{q ln fi:Int}{L:List (List UInt8)}{aa:Option Addr}{cc:Nat}{va vb vr vd:Value}{tx:List UInt8}{rows:List Row}{dg:List Dg}
theorem MAt.tell (h:MAt base B R w q L aa cc ln fi va vb vr vd tx rows dg W)(hl:dg.length≤500000)(k:Int):
  ∃vd' w2,(Builtin.append_ #[29,29] 29 #[vd,.slice (some ⟨W.heap.size,0,none⟩) 1 1]).run Tryz.prog (W.alloc (.cells #[.int .i64 k,.int .i64 q,.int .i64 0] 46)).drew=.ok vd' w2∧w2.cell? ⟨B,5,none⟩=some vd∧w2.frozen? ⟨B,5,none⟩=false∧
   MAt base B R w q L aa cc ln fi va vb vr vd' tx rows (dg++ [(k,q,0)]) (w2.setCell ⟨B,5,none⟩ vd')∧ ∃b n c,vd'=.slice b n c:=by
 obtain⟨vd',w2,hr,c,f,r2,f2,s1,s2,sh⟩:=h.rs.tell hl (k,q,0) _ rfl;exact⟨vd',w2,hr,c,f,⟨r2,h.fr.trans f2,(s1 _ _ h.hR h.row).trans h.row,h.arg.held s2,h.ne,h.hR⟩,sh⟩
theorem MAt.clone {W':World}{ab:Option Addr}{cb:Nat}{L':List (List UInt8)}(h:MAt base B R w q L aa cc ln fi va vb vr vd tx rows dg W)(hb:Below W.heap.size W W')(ho:iN W.heap.size W' (.slice ab L'.length cb) L'):MAt base B R w q L' ab cb ln fi va vb vr vd tx rows dg W':=
 ⟨h.rs.keep hb,h.fr.trans (Fr.of_below h.rs.sz hb),h.row.below hb,ho.mono h.rs.sz,h.ne,h.hR⟩
theorem MAt.say (h:MAt base B R w q L aa cc ln fi va vb vr vd tx rows dg W)(hl:rows.length≤500000)(nm:List UInt8):
  ∃W2 vr' w2,W2=(W.setCell ⟨R,1,none⟩ (.string ⟨nm.toArray⟩)).setCell ⟨R,2,none⟩ (.slice aa L.length cc)∧
   (W2.cell? ⟨R,0,none⟩=some (.int .i64 q)∧W2.cell? ⟨R,1,none⟩=some (.string ⟨nm.toArray⟩)∧W2.cell? ⟨R,2,none⟩=some (.slice aa L.length cc)∧W2.cell? ⟨R,3,none⟩=some (.string ⟨#[]⟩))∧W2.cell? ⟨B,4,none⟩=some vr∧
   (Builtin.append_ #[25,25] 25 #[vr,.slice (some ⟨W2.heap.size,0,none⟩) 1 1]).run Tryz.prog (W2.alloc (.cells #[.int .i64 q,.string ⟨nm.toArray⟩,.slice aa L.length cc,.string ⟨#[]⟩] 33)).drew=.ok vr' w2∧w2.cell? ⟨B,4,none⟩=some vr∧w2.frozen? ⟨B,4,none⟩=false∧
   RSk base B (w2.setCell ⟨B,4,none⟩ vr') ln fi va vb vr' vd tx (rows++ [(q,nm,L,[])]) dg∧Fr base B w (w2.setCell ⟨B,4,none⟩ vr')∧ ∃b n c,vr'=.slice b n c:=by
 have hlt:=h.rs.lt;have hR:=h.hR;have r1:=h.rs.setRow h.row h.ne (by omega) 1 (.string ⟨nm.toArray⟩);have k1:=h.row.set 1 (.string ⟨nm.toArray⟩);have r2:=r1.setRow k1 h.ne (by omega) 2 (.slice aa L.length cc);have k2:=k1.set 2 (.slice aa L.length cc);have a2:iN base ((W.setCell ⟨R,1,none⟩ (.string ⟨nm.toArray⟩)).setCell ⟨R,2,none⟩ (.slice aa L.length cc)) (.slice aa L.length cc) L:=
  Rp (Rp h.arg (ug h.arg h.row (by decide)) _) (ug h.arg h.row (by decide)) _
 obtain⟨vr',w2,hr,c,f,r3,f3,sh⟩:=r2.say hl (q,nm,L,[]) (aa,L.length,cc) a2 _ rfl;exact⟨_,vr',w2,rfl,⟨k2.cell 0,k2.cell 1,k2.cell 2,k2.cell 3⟩,r2.blk.cell 4,hr,c,f,r3,((h.fr.trans (Fr.high hR _ _)).trans (Fr.high hR _ _)).trans f3,sh⟩
end
def Na (base B:Nat)(W:World)(ln fi:Int)(va vb:Value)(tx:List UInt8)(rows:List Row)(dg:List Dg)(e:Ending)(W':World):Prop:=
 ∃vr' vd',e=.returned (.tuple #[])∧RSk base B W' ln fi va vb vr' vd' tx rows dg∧Fr base B W W'
theorem Na.mk {base B:Nat}{W W':World}{ln fi:Int}{va vb vr' vd':Value}{tx:List UInt8}{rows:List Row}{dg:List Dg}{e:Ending}(h0:e=.returned (.tuple #[]))(h1:RSk base B W' ln fi va vb vr' vd' tx rows dg)(h2:Fr base B W W'):Na base B W ln fi va vb tx rows dg e W':=⟨_,_,h0,h1,h2⟩
theorem GQ {base B:Nat}{ln fi:Int}{va vb vr vd:Value}{tx:List UInt8}{rows:List Row}{dg:List Dg}(W:World)(h:RSk base B W ln fi va vb vr vd tx rows dg)(hM:Mx W)(q:Int)(t:List UInt8)(ht:t.length≤100000)(hr:rows.length≤100000)(hd:dg.length≤100000):
  Calls Tryz.prog 115 #[.pointer (some ⟨B,0,none⟩),.agg #[.int .i64 q,.string ⟨#[]⟩,.slice none 0 0,.string ⟨#[]⟩],.string ⟨t.toArray⟩] W (Na base B W ln fi va vb tx (rows++ [Jz q t]) (dg++Dl q t)):=by
 obtain⟨i0,hi,hz0,hz1,hz2⟩:=Ql JY;have hsz:=az t;have hnle:=Jr t;obtain⟨L,F,hA⟩:∃L F,args (t.drop (nmN t))=(L,F):=⟨_,_,rfl⟩;have hLl:L.length≤100000:=by
  have h1:=KQ (t.drop (nmN t));rw[hA,PU]at h1;simp only at h1;omega
 have A1:Hid (∀W,Mx W→Calls Tryz.prog 150 #[.string ⟨(t.drop (nmN t)).toArray⟩] W fun e w'=> ∃v,e=.returned (.tuple #[v,.bool F])∧iN W.heap.size w' v L∧Below W.heap.size W w'∧W.heap.size≤w'.heap.size):=zH fun W hM=>by
  have h1:=KU (t.drop (nmN t)) W hM (by rw[PU];omega);rw[hA]at h1;exact h1
 have hrow:Jz q t=(q,t.take (nmN t),L.take 200,[]):=by unfold Jz;rw[hA]
 have hdgs:Dl q t=(if F then [] else [(5,q,0)])++(if 200<L.length then [(11,q,0)] else []):=by unfold Dl;rw[hA]
 have k1:=dR t (nmN t) hnle;have k2:=iC t (nmN t) hnle;obtain⟨ix,hix,hcase⟩:∃ix:Int,Lib.indexAny t [32,9]=ix∧(ix=(nmN t:Int)∨(ix= -1∧nmN t=t.length)):=by
  refine⟨_,rfl,?_⟩;rw[rf]
  by_cases hn:nmN t<t.length
  ·rw[PZ hn];exact .inl rfl
  ·rw[PO hn];exact .inr ⟨rfl,by omega⟩
 have I1:Hid (∀W,Calls Tryz.prog 149 #[.string ⟨t.toArray⟩,.string ⟨#[32,9]⟩] W fun e w'=>e=.returned (.int .i64 ix)∧Below W.heap.size W w'):=zH fun W=>by
  have h1:=yY t [32,9] W (by decide) (by decide) (by omega) (by
   intro j b hb;have hm:b∈([32,9]:List UInt8):=QP.2 ⟨j,hb⟩;simp at hm;rcases hm with rfl | rfl<;>decide)
  rw[hix]at h1;exact h1
 obtain⟨k,hk⟩:∃k,nmN t=k:=⟨_,rfl⟩;obtain⟨nm,hnm⟩:∃nm,t.take (nmN t)=nm:=⟨_,rfl⟩;obtain⟨rs,hrs⟩:∃rs,t.drop (nmN t)=rs:=⟨_,rfl⟩;rw[hnm]at hrow k2;rw[hrs]at A1 k1;rw[hk]at hcase k1 k2 hnle;obtain⟨dd,hdd⟩:∃dd,Dl q t=dd:=⟨_,rfl⟩;rw[hrow,hdd];rw[hdd]at hdgs;obtain⟨d1,hd1⟩:∃d1:List Dg,(if F then [] else [(5,q,0)])=d1:=⟨_,rfl⟩;obtain⟨d2,hd2⟩:∃d2:List Dg,(if 200<L.length then [(11,q,0)] else [])=d2:=⟨_,rfl⟩;obtain⟨LL,hLL⟩:∃LL,L.take 200=LL:=⟨_,rfl⟩;rw[hd1,hd2]at hdgs;rw[hLL];have hd1l:d1.length≤1:=by rw[←hd1];split<;>simp
 have HDD:=zH hdgs;have HD1:=zH hd1;have HD2:=zH hd2;have HLL:=zH hLL;clear hd1 hd2 hLL;have H:=zH h;have HM:=zH hM;have HCASE:=zH hcase;clear hcase hk hnm hrs hrow hdgs hdd hix hA h hM;go_enter Tryz.func115,Tryz.ntmps115
 go_wp2_with fail
 refine(I1.out _).mono ?_;rintro e W1 ⟨rfl,b1⟩;obtain⟨R,hRe⟩:∃R,W.heap.size=R:=⟨_,rfl⟩;have H1:Hid (RSk base B W1 ln fi va vb vr vd tx rows dg∧Fr base B W W1∧Blk W1 R 33 [.int .i64 q,.string ⟨#[]⟩,.slice none 0 0,.string ⟨#[]⟩]∧Mx W1∧vr.ownBlock≠some R∧base≤R):=by
  have hz:=H.out.sz;have bb:Below W.heap.size W W1:=((PG _ W).alloc (Px _) _).trans (b1.mono (by simp));refine zH ⟨H.out.keep bb,Fr.of_below hz bb,?_,HM.out.below (Px _) bb,hRe▸H.out.rowNe,by omega⟩;have hb0:=FD W [.int .i64 q,.string ⟨#[]⟩,.slice none 0 0,.string ⟨#[]⟩] 33;rw[hRe]at hb0;exact hb0.below b1
 clear b1 I1 H HM;have HRe:=zH hRe;rw[hRe];clear hRe;obtain⟨nn,hnn⟩:∃nn,LL.length=nn:=⟨_,rfl⟩;have HNN:=zH hnn;clear hnn;go_upto_if 15 with fail
 go_cut [6] (fun s6 wx=>s6=.int .i64 (k:Int)∧wx=W1)
 case first=>
  rcases HCASE.out with rfl | ⟨rfl,rfl⟩
  ·go_wp2_with fail
   go_meet
   exact⟨rfl,rfl⟩
  ·go_wp2_with fail
   go_meet
   exact⟨rfl,rfl⟩
 case rest=>
 obtain⟨rfl,rfl⟩:=hcut;clear HCASE;go_wp2_with fail
 refine(A1.out _ H1.out.2.2.2.1).mono ?_;rintro e W2 ⟨v,rfl,o2,b2,z2⟩;obtain⟨aa,cc,rfl⟩:=(ag.sl dF o2).len;have M2:Hid (MAt base B R W q L aa cc ln fi va vb vr vd tx rows dg W2):=by
  obtain⟨h1,h2,h3,h4,h5,h6⟩:=H1.out;exact zH ⟨h1.keep b2,h2.trans (Fr.of_below h1.sz b2),h3.below b2,o2.mono h1.sz,h5,h6⟩
 clear o2 b2 z2 H1 A1 k1;go_upto_if 25 with fail
 go_cut [] (fun wx=> ∃vd',MAt base B R W q L aa cc ln fi va vb vr vd' tx rows (dg++d1) wx)
 case first=>
  cases F
  ·obtain⟨vd3,w3,r3,d3,f3,m3,b3,n3,c3,rfl⟩:=M2.out.tell (by omega) 5
   have x3:W2.cell? ⟨B,5,none⟩=some vd:=M2.out.rs.blk.cell 5;have x3':(W2.alloc (.cells #[.int .i64 5,.int .i64 q,.int .i64 0] 46)).cell? ⟨B,5,none⟩=some vd:=(M2.out.rs.blk.below (ae W2 _)).cell 5;have y3:W2.cell? ⟨R,0,none⟩=some (.int .i64 q):=M2.out.row.cell 0;have M3:=zH m3;have e1:[(5,q,0)]=d1:=HD1.out;have E1:=zH e1;clear m3 e1;go_wp2_with fail
   go_region_law ((refine bI rfl (.tmp 30) (.tmp 34) 29 29 rfl _ _ rfl rfl r3 ?_))
   all_goals
    go_wp2_with fail
    go_meet
    exact⟨_,by rw[←E1.out];exact M3.out⟩
  ·have e1:[]=d1:=HD1.out
   have E1:=zH e1;clear e1;go_wp2_with fail
   go_meet
   exact⟨_,by rw[←E1.out,Qc];exact M2.out⟩
 case rest=>
 obtain⟨vd3,hm3⟩:=hcut;obtain⟨W3,hW3⟩:∃W3,wc=W3:=⟨_,rfl⟩;rw[hW3]at hm3⊢;have M3:=zH hm3;clear hm3 hW3 M2;go_upto_if 40 with fail
 go_cut [8] (fun s8 wx=> ∃ab cb vd',s8=.slice ab nn cb∧MAt base B R W q LL ab cb ln fi va vb vr vd' tx rows (dg++d1++d2) wx)
 case first=>
  by_cases hl:200<L.length
  ·have hl':(200:Int)<(L.length:Int):=by omega
   have HLF:=zH hl;have e2:[(11,q,0)]=d2:=by have:=HD2.out;rwa [PZ hl]at this
   have E2:=zH e2;obtain⟨vd4,w4,r4,d4,f4,m4,b4,n4,c4,rfl⟩:=M3.out.tell (by simp only[PL];omega) 11;have x4:W3.cell? ⟨B,5,none⟩=some vd3:=M3.out.rs.blk.cell 5;have x4':(W3.alloc (.cells #[.int .i64 11,.int .i64 q,.int .i64 0] 46)).cell? ⟨B,5,none⟩=some vd3:=(M3.out.rs.blk.below (ae W3 _)).cell 5;have y4:W3.cell? ⟨R,0,none⟩=some (.int .i64 q):=M3.out.row.cell 0;have M4:=zH m4;obtain⟨u,hu,hs,hsh⟩:=Fs.front (P:=Tryz.prog) Tryz.underlying22 hi (ag.sl dF M4.out.arg) 200 (by omega);have hsh':=hsh _ _ _ rfl;subst hsh';have hu':∀W,(Instr.slice 22 (.slice aa L.length cc) none (some (.int .i64 200)) none).run Tryz.prog W=.ok (.slice aa 200 cc) W:=hu;have C1:=zH (Ib _ hs (by rw[PW];omega) (by rw[PW];omega));clear m4 e2 hu hs hsh hl M3;go_wp2_with fail
   go_region_law ((refine bI rfl (.tmp 45) (.tmp 49) 29 29 rfl _ _ rfl rfl r4 ?_))
   all_goals
    go_wp2_with fail
    refine C1.out.mono ?_;rintro e W6 ⟨v6,rfl,o6,b6⟩;obtain⟨ab,cb,rfl⟩:=(ag.sl dF o6).len;have M6:=zH (M4.out.clone b6 o6);have hL6:(L.take 200).length=nn:=by rw[HLL.out,HNN.out]
    have HL6:=zH hL6;clear o6 b6 C1 M4 r4;rw[hL6];clear hL6;go_wp2_with fail
    go_meet
    refine⟨ab,cb,.slice b4 n4 c4,rfl,?_⟩;have q6:=M6.out;rw[HLL.out]at q6;rw[←E2.out];exact q6
  ·have hl':¬(200:Int)<(L.length:Int):=by omega
   have e2:[]=d2:=by have:=HD2.out;rwa [PO hl]at this
   have e3:L=LL:=by have:=HLL.out;rwa [QN (by omega)]at this
   have E2:=zH e2;have e4:L.length=nn:=by rw[e3];exact HNN.out
   have E3:=zH e3;have E4:=zH e4;clear e2 e3 e4 hl;go_wp2_with fail
   go_meet
   refine⟨aa,cc,vd3,by show Value.slice aa L.length cc=_;rw[E4.out],?_⟩;have q6:=M3.out;rw[E3.out]at q6;rw[←E2.out,Qc];exact q6
 case rest=>
 obtain⟨ab,cb,vd5,rfl,hm5⟩:=hcut;obtain⟨W6,hW6⟩:∃W6,wc=W6:=⟨_,rfl⟩;rw[hW6]at hm5⊢;have M6:=zH hm5;clear hm5 hW6 M3;obtain⟨WW,vr9,w9,hWW,⟨z0,z1,z2,z3⟩,z4,kk,d9,f9,m9,q9,b9,n9,c9,rfl⟩:=M6.out.say (by omega) nm;rw[HNN.out]at hWW z2 kk;have y1:W6.cell? ⟨R,1,none⟩=some (.string ⟨#[]⟩):=M6.out.row.cell 1;have y2:W6.cell? ⟨R,2,none⟩=some (.slice none 0 0):=M6.out.row.cell 2;have g1:W6.frozen? ⟨R,1,none⟩=false:=M6.out.row.frozen (by simp);have g2:W6.frozen? ⟨R,2,none⟩=false:=M6.out.row.frozen (by simp);have z5:(WW.alloc (.cells #[.int .i64 q,.string ⟨nm.toArray⟩,.slice ab nn cb,.string ⟨#[]⟩] 33)).cell? ⟨B,4,none⟩=some vr:=(Below.cell (ae WW _) (PX WW _ z4)).trans z4;have M9:=zH (And.intro m9 q9);have HWW:=zH hWW;clear m9 q9 hWW M6;go_wp2_with fail
 rw[←HWW.out];go_region_law ((refine bI rfl (.tmp 66) (.tmp 68) 25 25 rfl _ _ rfl rfl kk ?_))
 all_goals
  go_wp2_with fail
  go_end0;refine Na.mk (vr':= .slice b9 n9 c9) (vd':=vd5) rfl ?_ M9.out.2;have e9:=M9.out.1;rw[HDD.out,←Qx];exact e9
section
attribute [local go_sem ↓ high] bg bK
def Ca (base B:Nat)(W:World)(ln fi:Int)(tx:List UInt8)(rows:List Row)(dg:List Dg)(e:Ending)(W':World):Prop:=
 ∃va' vb' vr' vd',e=.returned (.tuple #[])∧RSk base B W' ln fi va' vb' vr' vd' tx rows dg∧Fr base B W W'
theorem Ca.mk {base B:Nat}{W W':World}{ln fi:Int}{va' vb' vr' vd':Value}{tx:List UInt8}{rows:List Row}{dg:List Dg}{e:Ending}(h0:e=.returned (.tuple #[]))(h1:RSk base B W' ln fi va' vb' vr' vd' tx rows dg)(h2:Fr base B W W'):Ca base B W ln fi tx rows dg e W':=⟨_,_,_,_,h0,h1,h2⟩
def eu (fi:Int)(tx:List UInt8):List Row×List Dg:=
 if ptd tx then(if Lib.trimLeftS (tx.drop 1) [32,9]=[] then([],[]) else([Jz fi (Lib.trimLeftS (tx.drop 1) [32,9])],Dl fi (Lib.trimLeftS (tx.drop 1) [32,9])))
 else([(fi,[],[],tx)],[])
section
variable {base B:Nat}{W:World}{ln fi:Int}{va vb vr vd:Value}{tx:List UInt8}{rows:List Row}{dg:List Dg}
theorem RSk.sayText (h:RSk base B W ln fi va vb vr vd tx rows dg){R:Nat}{q:Int}(hC:Blk W R 33 [.int .i64 q,.string ⟨#[]⟩,.slice none 0 0,.string ⟨#[]⟩])(hne:vr.ownBlock≠some R)(hR:base≤R)(hl:rows.length≤500000)(x:List UInt8):
  ∃W2 vr' w2,W2=W.setCell ⟨R,3,none⟩ (.string ⟨x.toArray⟩)∧
   (W2.cell? ⟨R,0,none⟩=some (.int .i64 q)∧W2.cell? ⟨R,1,none⟩=some (.string ⟨#[]⟩)∧W2.cell? ⟨R,2,none⟩=some (.slice none 0 0)∧W2.cell? ⟨R,3,none⟩=some (.string ⟨x.toArray⟩))∧W2.cell? ⟨B,4,none⟩=some vr∧
   (Builtin.append_ #[25,25] 25 #[vr,.slice (some ⟨W2.heap.size,0,none⟩) 1 1]).run Tryz.prog (W2.alloc (.cells #[.int .i64 q,.string ⟨#[]⟩,.slice none 0 0,.string ⟨x.toArray⟩] 33)).drew=.ok vr' w2∧w2.cell? ⟨B,4,none⟩=some vr∧w2.frozen? ⟨B,4,none⟩=false∧
   RSk base B (w2.setCell ⟨B,4,none⟩ vr') ln fi va vb vr' vd tx (rows++ [(q,[],[],x)]) dg∧Fr base B W (w2.setCell ⟨B,4,none⟩ vr')∧ ∃b n c,vr'=.slice b n c:=by
 have hlt:=h.lt;have r2:=h.setRow hC hne (by omega) 3 (.string ⟨x.toArray⟩);have k2:=hC.set 3 (.string ⟨x.toArray⟩);obtain⟨vr',w2,hr,c,f,r3,f3,sh⟩:=r2.say hl (q,[],[],x) (none,0,0) (ag.nil _ _) _ rfl;exact⟨_,vr',w2,rfl,⟨k2.cell 0,k2.cell 1,k2.cell 2,k2.cell 3⟩,r2.blk.cell 4,hr,c,f,r3,(Fr.high hR _ _).trans f3,sh⟩
end
theorem zR (l cs:List UInt8):(Lib.trimLeftS l cs).length≤l.length:=(List.dropWhile_sublist _).length_le
theorem Ki {base B:Nat}{ln:Int}{va vb vr vd:Value}{tx:List UInt8}{rows:List Row}{dg:List Dg}(W:World)(h:RSk base B W ln 0 va vb vr vd tx rows dg):
  Calls Tryz.prog 76 #[.pointer (some ⟨B,0,none⟩)] W (Ca base B W ln 0 tx rows dg):=by
 have c1:W.cell? ⟨B,1,none⟩=some (.int .i64 0):=h.blk.cell 1;have H:=zH h;clear h;go_enter Tryz.func76,Tryz.ntmps76
 go_wp2_with fail
 go_end0;exact Ca.mk rfl H.out (Fr.refl _)
theorem zi {base B:Nat}{ln fi:Int}{va vb vr vd:Value}{tx:List UInt8}{rows:List Row}{dg:List Dg}(W:World)(h:RSk base B W ln fi va vb vr vd tx rows dg)(hM:∀W',Fr base B W W'→Mx W')(hfi:fi≠0)(ht:tx.length≤100000)(hr:rows.length≤100000)(hd:dg.length≤100000):
  Calls Tryz.prog 76 #[.pointer (some ⟨B,0,none⟩)] W (Ca base B W ln 0 [] (rows++(eu fi tx).1) (dg++(eu fi tx).2)):=by
 have c1:W.cell? ⟨B,1,none⟩=some (.int .i64 fi):=h.blk.cell 1;have hf:(fi==0)=false:=by simpa using hfi
 have hsz:=az tx;obtain⟨R,hRe⟩:∃R,W.heap.size=R:=⟨_,rfl⟩;have bl:=ae W (.cells #[.int .i64 fi,.string ⟨#[]⟩,.slice none 0 0,.string ⟨#[]⟩] 33);have h1:=h.keep bl;have S1:=zH (Ah _ h1);have HB0:Hid (Blk (W.alloc (.cells #[.int .i64 fi,.string ⟨#[]⟩,.slice none 0 0,.string ⟨#[]⟩] 33)) R 33 [.int .i64 fi,.string ⟨#[]⟩,.slice none 0 0,.string ⟨#[]⟩]∧vr.ownBlock≠some R∧base≤R∧Fr base B W (W.alloc (.cells #[.int .i64 fi,.string ⟨#[]⟩,.slice none 0 0,.string ⟨#[]⟩] 33))):=
  zH ⟨hRe▸FD W _ _,hRe▸h.rowNe,hRe▸h.sz,Fr.of_below h.sz bl⟩
 have HM:=zH hM;obtain⟨TR,hTR⟩:∃TR,eu fi tx=TR:=⟨_,rfl⟩;have HTR:=zH hTR;rw[hTR];clear hTR hM h h1 bl;go_enter Tryz.func76,Tryz.ntmps76
 go_wp2_with fail
 refine S1.out.mono ?_;rintro e W2 ⟨rfl,h2,f2,s2⟩;have g1:W2.frozen? ⟨B,1,none⟩=false:=h2.blk.frozen (by simp);have x1:W2.cell? ⟨B,1,none⟩=some (.int .i64 fi):=h2.blk.cell 1;have h3:=h2.set 1 (.int .i64 0) rfl;have R1:=zH (CE _ h3);have HB2:Hid (Blk (W2.setCell ⟨B,1,none⟩ (.int .i64 0)) R 33 [.int .i64 fi,.string ⟨#[]⟩,.slice none 0 0,.string ⟨#[]⟩]∧vr.ownBlock≠some R∧base≤R∧Fr base B W (W2.setCell ⟨B,1,none⟩ (.int .i64 0))):=by
  obtain⟨q1,q2,q3,q4⟩:=HB0.out;have k2:=(s2 _ _ q3 q1).trans q1;exact zH ⟨(aG.low W2 h2.lt 1 _ _ _ q3 k2).trans k2,q2,q3,(q4.trans f2).trans (Fr.set _ _ _)⟩
 clear h2 f2 s2 h3 S1 HB0;go_wp2_with fail
 refine R1.out.mono ?_;rintro e W4 ⟨rfl,h4,f4,s4⟩;have HB4:Hid (Blk W4 R 33 [.int .i64 fi,.string ⟨#[]⟩,.slice none 0 0,.string ⟨#[]⟩]∧vr.ownBlock≠some R∧base≤R∧Fr base B W W4):=by
  obtain⟨q1,q2,q3,q4⟩:=HB2.out;exact zH ⟨(s4 _ _ q3 q1).trans q1,q2,q3,q4.trans f4⟩
 have H4:=zH h4;have HM4:=zH (HM.out _ HB4.out.2.2.2);clear h4 f4 s4 R1 HB2;have P1:=zH (fun W=>Ao tx W)
 cases hp:ptd tx
 ·rw[hp]at P1
  have eT:TR=([(fi,[],[],tx)],[]):=by rw[←HTR.out];unfold eu;rw[hp];rfl
  subst eT;obtain⟨WW,vr9,w9,hWW,⟨z0,z1,z2,z3⟩,z4,kk,d9,f9,m9,q9,b9,n9,c9,rfl⟩:=H4.out.sayText HB4.out.1 HB4.out.2.1 HB4.out.2.2.1 (by omega) tx;have y3:W4.cell? ⟨R,3,none⟩=some (.string ⟨#[]⟩):=HB4.out.1.cell 3;have g3:W4.frozen? ⟨R,3,none⟩=false:=HB4.out.1.frozen (by simp);have z5:(WW.alloc (.cells #[.int .i64 fi,.string ⟨#[]⟩,.slice none 0 0,.string ⟨tx.toArray⟩] 33)).cell? ⟨B,4,none⟩=some vr:=(Below.cell (ae WW _) (PX WW _ z4)).trans z4;have M9:=zH (And.intro m9 (HB4.out.2.2.2.trans q9));have HWW:=zH hWW
  try rw[hRe]
  clear m9 q9 hWW hp HTR HM HM4 HB4 H4 hRe;go_wp2_with (go_at_call 113;refine(P1.out _).mono ?_;rintro e w' ⟨rfl,rfl⟩)
  rw[←HWW.out];go_region_law ((refine bI rfl (.tmp 34) (.tmp 36) 25 25 rfl _ _ rfl rfl kk ?_))
  all_goals
   go_wp2_with fail
   go_end0;refine Ca.mk (va':= .pointer none) (vb':= .slice none 0 0) (vr':= .slice b9 n9 c9) (vd':=vd) rfl ?_ M9.out.2;have e9:=M9.out.1
   simpa using e9
 ·rw[hp]at P1
  have h1:1≤tx.length:=by
   cases tx with
   | nil=>simp[ptd]at hp
   | cons _ _=>simp
  have k1:∀W,(Instr.slice 9 (.string ⟨tx.toArray⟩) (some (.int .i64 1)) none none).run Tryz.prog W=.ok (.string ⟨(tx.drop 1).toArray⟩) W:=dR tx 1 h1;have T1:=zH (fun W=>xY (tx.drop 1) [32,9] W (by decide) (by
   intro j b hb;have hm:b∈([32,9]:List UInt8):=QP.2 ⟨j,hb⟩;simp at hm;rcases hm with rfl | rfl<;>decide))
  have eT:TR=if Lib.trimLeftS (tx.drop 1) [32,9]=[] then([],[]) else([Jz fi (Lib.trimLeftS (tx.drop 1) [32,9])],Dl fi (Lib.trimLeftS (tx.drop 1) [32,9])):=by rw[←HTR.out];unfold eu;rw[hp];rfl
  have htl:=zR (tx.drop 1) [32,9];rw[PU]at htl;obtain⟨t,ht'⟩:∃t,Lib.trimLeftS (tx.drop 1) [32,9]=t:=⟨_,rfl⟩;rw[ht']at eT htl T1;obtain⟨dx,hdx⟩:∃dx,tx.drop 1=dx:=⟨_,rfl⟩;rw[hdx]at k1 T1;have ET:=zH eT;have EQ:=zH (fun W=>jR t [] W)
  try rw[hRe]
  clear eT ht' hdx hp HTR hRe;go_wp2_with (go_at_call 113;refine(P1.out _).mono ?_;rintro e w' ⟨rfl,rfl⟩)
  refine(T1.out _).mono ?_;rintro e W5 ⟨rfl,b5⟩;have H5:Hid (RSk base B W5 ln 0 (.pointer none) (.slice none 0 0) vr vd [] rows dg∧Fr base B W W5∧Mx W5∧Blk W5 R 33 [.int .i64 fi,.string ⟨#[]⟩,.slice none 0 0,.string ⟨#[]⟩]):=by
   have hb5:=HB4.out.2.2.2.trans (Fr.of_below H4.out.sz b5);exact zH ⟨H4.out.keep b5,hb5,HM.out _ hb5,HB4.out.1.below b5⟩
  clear b5 T1 HB4 H4 HM4 HM k1
  by_cases h0:t=[]
  ·subst h0
   have eT:=ET.out;rw[PZ rfl]at eT;subst eT;have E2:∀W,(rJ (.string ⟨#[]⟩) (.string ⟨#[]⟩)).run Tryz.prog W=.ok (.bool false) W:=jR [] [];clear EQ ET;go_wp2_with fail
   go_end0;refine Ca.mk (va':= .pointer none) (vb':= .slice none 0 0) (vr':=vr) (vd':=vd) rfl ?_ H5.out.2.1;have e9:=H5.out.1
   simpa using e9
  ·have eT:=ET.out
   rw[PO h0]at eT;subst eT;have E2:∀W,(rJ (.string ⟨t.toArray⟩) (.string ⟨#[]⟩)).run Tryz.prog W=.ok (.bool true) W:=by
    intro W;have h:=EQ.out W;rw[P8 h0]at h;exact h
   have z0:W5.cell? ⟨R,0,none⟩=some (.int .i64 fi):=H5.out.2.2.2.cell 0;have z1:W5.cell? ⟨R,1,none⟩=some (.string ⟨#[]⟩):=H5.out.2.2.2.cell 1;have z2:W5.cell? ⟨R,2,none⟩=some (.slice none 0 0):=H5.out.2.2.2.cell 2;have z3:W5.cell? ⟨R,3,none⟩=some (.string ⟨#[]⟩):=H5.out.2.2.2.cell 3;have C1:=zH (GQ W5 H5.out.1 H5.out.2.2.1 fi t (by omega) hr hd);clear EQ ET h0;go_wp2_with fail
   refine C1.out.mono ?_;rintro e W6 ⟨vr6,vd6,rfl,r6,q6⟩;have H6:=zH (And.intro r6 (H5.out.2.1.trans q6));clear C1 r6 q6 H5;go_wp2_with fail
   go_end0;exact Ca.mk rfl H6.out.1 H6.out.2
end
section
attribute [local go_sem ↓ high] bg bK
structure St where
 ln:Int
 fi:Int
 tx:List UInt8
 rows:List Row
 dg:List Dg
def St.stop (s:St):St:=if s.fi=0 then s else⟨s.ln,0,[],s.rows++(eu s.fi s.tx).1,s.dg++(eu s.fi s.tx).2⟩
def St.more (s:St)(fi:Int)(u:List UInt8):St:=
 if sl u then⟨s.ln+1,fi,s.tx++u.take (u.length-1),s.rows,s.dg⟩
 else⟨s.ln+1,0,[],s.rows++(eu fi (s.tx++u)).1,s.dg++(eu fi (s.tx++u)).2⟩
def St.step (s:St)(line:List UInt8):St:=
 if s.fi=0 then(if(unc line).2=true∧(unc line).1=[] then {s with ln:=s.ln+1} else s.more (s.ln+1) (unc line).1)
 else s.more s.fi (unc line).1
def RSS (base B:Nat)(W:World)(s:St):Prop:= ∃va vb vr vd,RSk base B W s.ln s.fi va vb vr vd s.tx s.rows s.dg
def vO (base B:Nat)(W:World)(s:St)(e:Ending)(W':World):Prop:=e=.returned (.tuple #[])∧RSS base B W' s∧Fr base B W W'
theorem vO.mk {base B:Nat}{W W':World}{s:St}{e:Ending}{va vb vr vd:Value}(h0:e=.returned (.tuple #[]))(h1:RSk base B W' s.ln s.fi va vb vr vd s.tx s.rows s.dg)(h2:Fr base B W W'):vO base B W s e W':=⟨h0,⟨_,_,_,_,h1⟩,h2⟩
theorem IM (l:List UInt8):(unc l).1.length≤l.length:=by
 unfold unc
 split
 ·simp only[PW];omega
 ·simp
theorem I7 {l:List UInt8}(h:sl l=true):1≤l.length:=by
 cases l with
 | nil=>simp[sl]at h
 | cons _ _=>simp
theorem I4 {base B:Nat}(W:World)(s:St)(h:RSS base B W s)(hM:∀W',Fr base B W W'→Mx W')(ht:s.tx.length≤100000)(hr:s.rows.length≤100000)(hd:s.dg.length≤100000):
  Calls Tryz.prog 76 #[.pointer (some ⟨B,0,none⟩)] W (vO base B W s.stop):=by
 obtain⟨va,vb,vr,vd,h⟩:=h
 by_cases hf:s.fi=0
 ·have e:s.stop=s:=by unfold St.stop;rw[PZ hf]
  rw[e];rw[hf]at h;refine(Ki W h).mono ?_;rintro e w' ⟨va',vb',vr',vd',rfl,r,q⟩;rw[←hf]at r;exact⟨rfl,⟨_,_,_,_,r⟩,q⟩
 ·have e:s.stop=⟨s.ln,0,[],s.rows++(eu s.fi s.tx).1,s.dg++(eu s.fi s.tx).2⟩:=by unfold St.stop;rw[PO hf]
  rw[e];refine(zi W h hM hf ht hr hd).mono ?_;rintro e w' ⟨va',vb',vr',vd',rfl,r,q⟩;exact⟨rfl,⟨_,_,_,_,r⟩,q⟩
theorem QUe {P:Prop}(h:P:=by
 have SL:=zH (fun W=>jv u W (by omega))
 cases hsl:sl u
 ·rw[hsl]at SL
  have eS:=HE.out;unfold St.more at eS;rw[PO (by rw[hsl];decide)]at eS;have HEE:=zH eS;have WR:=zH (kE _ H2.out.1 u (by omega));clear eS hsl HE;go_enter Tryz.func75,Tryz.ntmps75
  go_wp2_with (first
   | (go_at_call 108;refine(U1.out _).mono ?_;rintro e w' ⟨rfl,rfl⟩)
   | (go_at_call 109;refine(SL.out _).mono ?_;rintro e w' ⟨rfl,rfl⟩))
  refine WR.out.mono ?_;rintro e W3 ⟨va3,vb3,rfl,r3,q3⟩;have q4:=H2.out.2.trans q3;have EN:=zH (zi W3 r3 (fun W' h=>HM.out _ (q4.trans h)) hq (by simp only[PL];omega) hr hd);have Q4:=zH q4;clear WR r3 q3 q4 H2 H1 HM;go_wp2_with fail
  refine EN.out.mono ?_;rintro e W4 ⟨va4,vb4,vr4,vd4,rfl,r4,q5⟩;have H4:=zH (And.intro r4 (Q4.out.trans q5));clear r4 q5 EN Q4;go_wp2_with fail
  go_end0;rw[←HEE.out];exact vO.mk rfl H4.out.1 H4.out.2
 ·rw[hsl]at SL
  have eS:=HE.out;unfold St.more at eS;rw[PZ hsl]at eS;have HEE:=zH eS;have hul1:=I7 hsl;have k1:∀W,(Instr.slice 9 (.string ⟨u.toArray⟩) none (some (.int .i64 ((u.length:Int)-1))) none).run Tryz.prog W=.ok (.string ⟨(u.take (u.length-1)).toArray⟩) W:=by
   have h:=iC u (u.length-1) (by omega);have c1:((u.length-1:Nat):Int)=(u.length:Int)-1:=by omega
   rw[c1]at h;exact h
  have hw:IntKind.i64.wrap ((u.length:Int)-1)=(u.length:Int)-1:=wrap_i64 (by omega) (by omega);have WR:=zH (kE _ (H2.out.1.keep (PG _ _).drew) (u.take (u.length-1)) (by rw[PW];omega));clear eS hsl HE;go_enter Tryz.func75,Tryz.ntmps75
  go_wp2_with (first
   | (go_at_call 108;refine(U1.out _).mono ?_;rintro e w' ⟨rfl,rfl⟩)
   | (go_at_call 109;refine(SL.out _).mono ?_;rintro e w' ⟨rfl,rfl⟩))
  go_region_with ((go_at_call 110;(with_reducible refine WR.out.mono ?_);rintro e W3 ⟨va3,vb3,rfl,r3,q3⟩;have R3:=zH r3;have Q3:=zH q3;clear r3 q3))
  all_goals
   go_wp2_with fail
   go_end0;rw[←HEE.out];exact vO.mk rfl R3.out ((H2.out.2.trans (Fr.drew _)).trans Q3.out)):P:=h
theorem Jj {base B:Nat}(W:World)(s:St)(h:RSS base B W s)(hM:∀W',Fr base B W W'→Mx W')(line:List UInt8)(hln:0≤s.ln)(hlh:s.ln≤1000000)(hfi:0≤s.fi)(ht:s.tx.length+line.length≤100000)(hr:s.rows.length≤100000)(hd:s.dg.length≤100000):
  Calls Tryz.prog 75 #[.pointer (some ⟨B,0,none⟩),.string ⟨line.toArray⟩] W (vO base B W (s.step line)):=by
 obtain⟨va,vb,vr,vd,h⟩:=h;obtain⟨ln,fi,tx,rows,dg⟩:=s;simp only at h hln hlh hfi ht hr hd;have U1:=zH (fun W=>vP line W (by omega));have hul:=IM line;obtain⟨S2,hS2⟩:∃S2,St.step ⟨ln,fi,tx,rows,dg⟩ line=S2:=⟨_,rfl⟩;have HS:=zH hS2;unfold St.step at hS2;rw[HS.out];obtain⟨u,c,huc⟩:∃u c,unc line=(u,c):=⟨_,_,rfl⟩;rw[huc]at U1 hul hS2;simp only at hul hS2;have HS2:=zH hS2;have x0:W.cell? ⟨B,0,none⟩=some (.int .i64 ln):=h.blk.cell 0;have g0:W.frozen? ⟨B,0,none⟩=false:=h.blk.frozen (by simp);have h1:=h.setNum 0 (.int .i64 (ln+1)) rfl;have H1:Hid (RSk base B (W.setCell ⟨B,0,none⟩ (.int .i64 (ln+1))) (ln+1) fi va vb vr vd tx rows dg∧Fr base B W (W.setCell ⟨B,0,none⟩ (.int .i64 (ln+1)))):=zH ⟨h1,Fr.set _ _ _⟩;have y0:(W.setCell ⟨B,0,none⟩ (.int .i64 (ln+1))).cell? ⟨B,0,none⟩=some (.int .i64 (ln+1)):=h1.blk.cell 0;have y1:(W.setCell ⟨B,0,none⟩ (.int .i64 (ln+1))).cell? ⟨B,1,none⟩=some (.int .i64 fi):=h1.blk.cell 1;have y1':W.cell? ⟨B,1,none⟩=some (.int .i64 fi):=h.blk.cell 1;have j1:(W.setCell ⟨B,0,none⟩ (.int .i64 (ln+1))).frozen? ⟨B,1,none⟩=false:=h1.blk.frozen (by simp);have j1':W.frozen? ⟨B,1,none⟩=false:=h.blk.frozen (by simp);have hsz:=az u;have HM:=zH hM;have EQ:=zH (fun W=>dC u [] W);clear HS hS2 huc h h1 hM
 by_cases hf:fi=0
 ·subst hf
  have eS:=HS2.out;rw[PZ rfl]at eS
  by_cases hc:c=true∧u=[]
  ·obtain⟨rfl,rfl⟩:=hc
   rw[PZ ⟨rfl,rfl⟩]at eS;subst eS;have E2:∀W,(iE (.string ⟨#[]⟩) (.string ⟨#[]⟩)).run Tryz.prog W=.ok (.bool true) W:=dC [] [];clear EQ HS2;go_enter Tryz.func75,Tryz.ntmps75
   go_wp2_with (go_at_call 108;refine(U1.out _).mono ?_;rintro e w' ⟨rfl,rfl⟩)
   go_end0;exact vO.mk rfl H1.out.1 H1.out.2
  ·rw[PO hc]at eS
   have HE:=zH eS;have E2:Hid (∀W,(iE (.string ⟨u.toArray⟩) (.string ⟨#[]⟩)).run Tryz.prog W=.ok (.bool (decide (u=[]))) W):=zH EQ.out;have h2:=H1.out.1.setNum 1 (.int .i64 (ln+1)) rfl;have H2:Hid (RSk base B ((W.setCell ⟨B,0,none⟩ (.int .i64 (ln+1))).setCell ⟨B,1,none⟩ (.int .i64 (ln+1))) (ln+1) (ln+1) va vb vr vd tx rows dg∧Fr base B W ((W.setCell ⟨B,0,none⟩ (.int .i64 (ln+1))).setCell ⟨B,1,none⟩ (.int .i64 (ln+1)))):=zH ⟨h2,H1.out.2.trans (Fr.set _ _ _)⟩;have hq:ln+1≠0:=by omega
   have hcu:c=false∨(c=true∧decide (u=[])=false):=by
    cases c
    ·exact .inl rfl
    ·exact .inr ⟨rfl,P8 (fun e=>hc ⟨rfl,e⟩)⟩
   have HCU:=zH hcu;clear EQ HS2 eS hc hcu h2;obtain⟨E3,hE3⟩:∃E3,decide (u=[])=E3:=⟨_,rfl⟩;have HCU2:Hid (c=false∨(c=true∧E3=false)):=zH (by rw[←hE3];exact HCU.out);have E4:∀W,(iE (.string ⟨u.toArray⟩) (.string ⟨#[]⟩)).run Tryz.prog W=.ok (.bool E3) W:=by rw[←hE3];exact E2.out
   clear HCU E2 hE3;rcases HCU2.out with rfl | ⟨rfl,rfl⟩
   all_goals
    exact QUe
 ·have eS:=HS2.out
  rw[PO hf]at eS;have HE:=zH eS;have hf0:(fi==0)=false:=by simpa using hf
  have hq:fi≠0:=hf;have H2:=H1;clear EQ HS2 eS;exact QUe
end
section
attribute [local go_sem] QX
attribute [local go_sem ↓ high] bg bK
def cr (l:List UInt8):List UInt8:=Lib.trimSuffix l [13]
def St.all (s:St)(q:List (List UInt8)):St:=q.foldl (fun s l=>s.step (cr l)) s
def st0:St:=⟨0,0,[],[],[]⟩
def wT (s:List UInt8):St:=(st0.all (pcs (Lib.trimSuffix s [10]))).stop
def gu (s:List UInt8):List Row×List Dg:=if s=[] then([],[]) else((wT s).rows,(wT s).dg)
theorem St.all_snoc (s:St)(q:List (List UInt8))(x:List UInt8):s.all (q++ [x])=(s.all q).step (cr x):=by simp[St.all,Rv]
theorem sU (l p:List UInt8):(Lib.trimSuffix l p).length≤l.length:=by
 unfold Lib.trimSuffix
 split
 ·simp only[PW];omega
 ·exact Px _
theorem Lv (fi:Int)(tx:List UInt8):(eu fi tx).1.length≤1∧(eu fi tx).2.length≤2:=by
 unfold eu
 split
 ·split
  ·simp
  ·refine⟨by simp,?_⟩
   unfold Dl;rw[PL]
   split<;>split<;>simp
 ·simp
structure St.Le (s:St)(k m:Nat):Prop where
 ln:s.ln=(k:Int)
 fi:0≤s.fi
 tx:s.tx.length≤m
 rows:s.rows.length≤k
 dg:s.dg.length≤2*k
theorem St.more_le {s:St}{k m:Nat}(h:s.Le k m){fi:Int}(hf:0≤fi)(u:List UInt8):(s.more fi u).Le (k+1) (m+u.length):=by
 have h1:=h.ln;have h2:=h.tx;have h3:=h.rows;have h4:=h.dg;have ht:=Lv fi (s.tx++u);unfold St.more
 split
 ·exact⟨by simp only;omega,hf,by simp only[PL,PW];omega,by simp only;omega,by simp only;omega⟩
 ·exact⟨by simp only;omega,by simp only;omega,by simp,by simp only[PL];omega,by simp only[PL];omega⟩
theorem St.step_le {s:St}{k m:Nat}(h:s.Le k m)(l:List UInt8):(s.step l).Le (k+1) (m+l.length):=by
 have h1:=h.ln;have h2:=h.tx;have h3:=h.rows;have h4:=h.dg;have h5:=h.fi;have hu:=IM l;have up:∀{t:St},t.Le (k+1) (m+(unc l).1.length)→t.Le (k+1) (m+l.length):=fun q=>⟨q.ln,q.fi,by have:=q.tx;omega,q.rows,q.dg⟩
 unfold St.step
 split
 ·split
  ·exact⟨by simp only;omega,h5,by simp only;omega,by simp only;omega,by simp only;omega⟩
  ·exact up (St.more_le h (by omega) _)
 ·exact up (St.more_le h h5 _)
theorem St.all_le:∀(q:List (List UInt8)) {s:St} {k m:Nat},s.Le k m→(s.all q).Le (k+q.length) (m+q.flatten.length)
 | [],s,k,m,h=>by simpa[St.all] using h
 | x::q,s,k,m,h=>by
  have h1:=St.step_le h (cr x);have h2:=St.all_le q h1;have hc:=sU x [13];have e:s.all (x::q)=(s.step (cr x)).all q:=rfl;rw[e];have hc':(cr x).length≤x.length:=hc;refine⟨by have:=h2.ln;rw[this];simp only[PI];omega,h2.fi,by have:=h2.tx;simp only[List.flatten_cons,PL];omega,by have:=h2.rows;simp only[PI];omega,by have:=h2.dg;simp only[PI];omega⟩
theorem I5:st0.Le 0 0:=⟨rfl,Int.le_refl _,Px _,Px _,Px _⟩
theorem Bo {q p:List (List UInt8)}(h:q<+:p):q.length≤p.length∧q.flatten.length≤p.flatten.length:=by
 obtain⟨r,rfl⟩:=h;simp only[PL,List.flatten_append];omega
theorem eB.mono {base base':Nat}{W:World}{v:Value}{l:List Row}(h:eB base W v l)(hb:base'≤base):eB base' W v l:=by
 obtain⟨L,hL,hA⟩:=h;exact⟨L,hL.mono hb,hA.mono fun v a ha=>ha.mono hb⟩
theorem aG.put {e base D:Nat}{W:World}{o:Obj}(o':Obj)(h:W.heap[D]? =some o)(hc:o.isCells=false):aG e base W (W.putObj D o'):=fun g cur _ hg=>World.putObj_heap_other (by
 rintro rfl;rw[h]at hg
 cases hg
 cases hc)
theorem RSS.kept {base B:Nat}{W W':World}{s:St}{row:Option Nat}(h:RSS base B W s)(hg:W.grownBy W' row)(hr:∀r,row=some r→r≠B∧(r<base∨ ∃o:Obj,W.heap[r]? =some o∧o.isCells=false)):RSS base B W' s:=by
 obtain⟨va,vb,vr,vd,h⟩:=h;have hs:∀e,aG e base W W':=fun e g cur hb hc=>hg.block g (Py.1 hc).1 (fun q=>by
  rcases(hr g q.symm).2 with h1 | ⟨o,ho,hoc⟩
  ·omega
  ·rw[hc]at ho;cases ho;cases hoc)
 have hlt:B<W.heap.size:=(Py.1 h.blk).1;exact⟨va,vb,vr,vd,⟨⟨h.lt,PY h.sz hg.size,(hg.block B hlt (fun q=>(hr B q.symm).1 rfl)).trans h.blk,h.rw.held (hs _) (hs _),h.dg.held (hs _)⟩,h.ad,h.bf.held (hs _),h.bn⟩⟩
theorem Ji (w:World):Calls Tryz.prog 40 #[.string ⟨#[]⟩] w fun e w'=>e=.returned (.tuple #[.slice none 0 0,.slice none 0 0])∧w=w':=by
 have E1:∀W,(iE (.string ⟨#[]⟩) (.string ⟨#[]⟩)).run Tryz.prog W=.ok (.bool true) W:=dC [] [];go_enter Tryz.func40,Tryz.ntmps40
 go_wp2_with fail
 go_ret2
 exact⟨rfl,rfl⟩
theorem LM (s:List UInt8)(w:World)(hM:Mx w)(hs:s.length≤40000)(hne:s≠ []):
  CallsIn Fence.wide 9 Tryz.prog 40 #[.string ⟨s.toArray⟩] w fun e w'=> ∃vr vd,e=.returned (.tuple #[vr,vd])∧eB w.heap.size w' vr (wT s).rows∧bG w.heap.size w' vd (wT s).dg∧Below w.heap.size w w'∧w.heap.size≤w'.heap.size:=by
 have E1:∀W,(iE (.string ⟨s.toArray⟩) (.string ⟨#[]⟩)).run Tryz.prog W=.ok (.bool false) W:=by
  intro W;have h:=dC s [] W;rw[P8 hne]at h;exact h
 have hs1:=sU s [10];obtain⟨s1,hs1e⟩:∃s1,Lib.trimSuffix s [10]=s1:=⟨_,rfl⟩;have T1:Hid (∀W,CallsIn Fence.wide 8 Tryz.prog 74 #[.string ⟨s.toArray⟩,.string ⟨#[10]⟩] W fun e w'=>e=.returned (.string ⟨s1.toArray⟩)∧W=w'):=zH fun W=>by
  have h:=iU s [10] W (by omega);rw[hs1e]at h;exact Qb.2 (h.mono fun e w' ⟨a,b⟩=>⟨a,b.symm⟩)
 rw[hs1e]at hs1;have S1:Hid (∀W,CallsIn Fence.wide 8 Tryz.prog 73 #[.string ⟨s1.toArray⟩,.string ⟨#[10]⟩] W fun e w'=>e=.returned (.func (.func 138) #[] #[.pointer (some ⟨W.heap.size+1,0,none⟩),.pointer (some ⟨W.heap.size,0,none⟩),.pointer (some ⟨W.heap.size+2,0,none⟩)])∧
  ((W.alloc (.cells #[.string ⟨s1.toArray⟩] 9)).alloc (.cells #[.string ⟨#[10]⟩] 9)).alloc (.cells #[.int .i64 0] 3)=w'):=zH fun W=>Qb.2 (yt s1 W)
 have hRS:wT s=(st0.all (pcs s1)).stop:=by unfold wT;rw[hs1e]
 rw[hRS];clear hs1e hne hRS;refine callsIn_of_wp_marks Tryz.func40 rfl trivial ?_ rfl;simp only[Tryz.ntmps40,Q0,PI,PQ,Nat.reduceAdd,Nat.reduceSub,QT,QS,Q5,QU,Qt,Qe]
 gi_wp2_with (first
  | (refine⟨trivial,?_⟩;gi_at_call 74;refine(T1.out _).mono ?_;rintro e w' ⟨rfl,rfl⟩)
  | (refine⟨trivial,?_⟩;gi_at_call 73;refine(S1.out _).mono ?_;rintro e w' ⟨rfl,rfl⟩))
 obtain⟨W0,hW0⟩:∃W0,((((w.alloc (.cells #[.int .i64 0,.int .i64 0,.pointer none,.slice none 0 0,.slice none 0 0,.slice none 0 0] 131)).alloc (.cells #[.string ⟨s1.toArray⟩] 9)).alloc (.cells #[.string ⟨#[10]⟩] 9)).alloc (.cells #[.int .i64 0] 3))=W0:=⟨_,rfl⟩;have hsz:W0.heap.size=w.heap.size+4:=by rw[←hW0];simp
 have hB0:Below w.heap.size w W0:=by
  rw[←hW0];exact((((PG _ w).alloc (Px _) _).alloc (by simp<;>omega) _).alloc (by simp<;>omega) _).alloc (by simp<;>omega) _
 have k0:Blk W0 w.heap.size 131 [.int .i64 0,.int .i64 0,.pointer none,.slice none 0 0,.slice none 0 0,.slice none 0 0]:=by
  rw[←hW0];exact(Rh _ _ _ (by simp<;>omega)).trans ((Rh _ _ _ (by simp<;>omega)).trans ((Rh _ _ _ (by simp<;>omega)).trans (PK w _)))
 have k1:Blk W0 (w.heap.size+1) 9 [.string ⟨s1.toArray⟩]:=by
  rw[←hW0];refine(Rh _ _ _ (by simp<;>omega)).trans ((Rh _ _ _ (by simp<;>omega)).trans ?_);have:=PK (w.alloc (.cells #[.int .i64 0,.int .i64 0,.pointer none,.slice none 0 0,.slice none 0 0,.slice none 0 0] 131)) (.cells #[.string ⟨s1.toArray⟩] 9)
  rwa [PS]at this
 have k2:Blk W0 (w.heap.size+1+1) 9 [.string ⟨#[10]⟩]:=by
  rw[←hW0];refine(Rh _ _ _ (by simp<;>omega)).trans ?_;have:=PK ((w.alloc (.cells #[.int .i64 0,.int .i64 0,.pointer none,.slice none 0 0,.slice none 0 0,.slice none 0 0] 131)).alloc (.cells #[.string ⟨s1.toArray⟩] 9)) (.cells #[.string ⟨#[10]⟩] 9)
  rwa [PS,PS]at this
 have k3:Blk W0 (w.heap.size+1+2) 3 [.int .i64 0]:=by
  rw[←hW0];have:=PK (((w.alloc (.cells #[.int .i64 0,.int .i64 0,.pointer none,.slice none 0 0,.slice none 0 0,.slice none 0 0] 131)).alloc (.cells #[.string ⟨s1.toArray⟩] 9)).alloc (.cells #[.string ⟨#[10]⟩] 9)) (.cells #[.int .i64 0] 3)
  rwa [PS,PS,PS]at this
 have rs0:RSS (w.heap.size+4) w.heap.size W0 st0:=⟨_,_,_,_,⟨⟨by omega,by omega,k0,eB.nil _ _,ag.nil _ _⟩,.inl rfl,ag.nil _ _,fun _=>rfl⟩⟩;have hsum:=EL s1;rw[hW0];clear hW0;refine Gc rfl (by decide) (gf:=138) (lb:= #[.pointer (some ⟨w.heap.size+1+1,0,none⟩),.pointer (some ⟨w.heap.size+1,0,none⟩),.pointer (some ⟨w.heap.size+1+2,0,none⟩)]) rfl trivial (enters_of Tryz.func138 (by kernel_rfl) rfl)
  (GX 8 (w.heap.size+4) w.heap.size (w.heap.size+1) s1 W0 (by omega) (by omega) (by omega) k1 k2 k3) (by omega)
  (fun h k i h1 h2=>(k i h1 h2).trans (h i h1 h2)) (fun A i _ _=>rfl) (fun W l o' hl i h1 h2=>World.putObj_heap_other (by omega)) (fun W o hw i h1 h2=>Rh W o i (by omega)) (fun _=>rfl)
  (fun q W=>RSS (w.heap.size+4) w.heap.size W (st0.all q)∧Below w.heap.size w W)
  (fun q A A' row hi hg hr=>⟨hi.1.kept hg (fun r e=>by
    rcases hr r e with h1 | ⟨h1,h2⟩
    ·exact⟨by omega,.inl (by omega)⟩
    ·exact⟨by omega,.inr h2⟩),
   hi.2.grown hg hi.2.size (fun r e=>by
    rcases hr r e with h1 | ⟨h1,h2⟩
    ·omega
    ·omega)⟩)
  ⟨rs0,hB0⟩
  (fun x=>{tmps:= #[.string ⟨s.toArray⟩,undef,.slice none 0 0,.slice none 0 0,.pointer (some ⟨w.heap.size,0,none⟩),.string ⟨x.toArray⟩,.string ⟨s.toArray⟩,.bool false,.string ⟨s.toArray⟩,.string ⟨s1.toArray⟩,.func (.func 138) #[] #[.pointer (some ⟨w.heap.size+1+1,0,none⟩),.pointer (some ⟨w.heap.size+1,0,none⟩),.pointer (some ⟨w.heap.size+1+2,0,none⟩)],.string ⟨x.toArray⟩,undef,undef,undef,undef,undef,undef,undef,undef],defers:=[] }) ?assign ?body ?done
 case assign=>
  intro l x W K hK;simp only[zk]
  gi_wp2
  exact hK
 case body=>
  rintro l pre x W ⟨hr,hb⟩ hsp;obtain⟨p1,p2⟩:=Bo hsp;simp only[PL,QF,List.flatten_append,List.flatten_cons,List.flatten_nil,Qc]at p1 p2;have hle:=St.all_le pre I5;have hx:=sU x [13];obtain⟨st,hst⟩:∃st,st0.all pre=st:=⟨_,rfl⟩;have hsn:st0.all (pre++ [x])=st.step (cr x):=by rw[St.all_snoc,hst]
  rw[hst]at hle hr;have l1:=hle.ln;have l2:=hle.tx;have l3:=hle.rows;have l4:=hle.dg;have l5:=hle.fi;have hwz:=hb.size;have T2:Hid (∀W m,CallsIn (Fence.wide.inRound l) m Tryz.prog 74 #[.string ⟨x.toArray⟩,.string ⟨#[13]⟩] W fun e w'=>e=.returned (.string ⟨(cr x).toArray⟩)∧W=w'):=zH fun W m=>by
   have h:=iU x [13] W (by omega);exact CallsIn.inRound l (Qb.2 (h.mono fun e w' ⟨a,b⟩=>⟨a,b.symm⟩))
  have R2:Hid (∀m,CallsIn (Fence.wide.inRound l) m Tryz.prog 75 #[.pointer (some ⟨w.heap.size,0,none⟩),.string ⟨(cr x).toArray⟩] W (vO (w.heap.size+4) w.heap.size W (st.step (cr x)))):=zH fun m=>
   CallsIn.inRound l (Qb.2 (Jj W st hr (fun W' h=>hM.below (Px _) (hb.trans (h.below (by omega) (Px _)))) (cr x) (by omega) (by omega) l5 (by
    have:(cr x).length≤x.length:=hx;omega) (by omega) (by omega)))
  have HB:=zH hb;have HSN:=zH hsn;obtain⟨cx,hcx⟩:∃cx,cr x=cx:=⟨_,rfl⟩;rw[hcx]at T2 R2 HSN;clear hr hb hsp hle hst hsn hcx hx k0 k1 k2 k3 rs0
  gi_wp2_with (first
   | (refine⟨trivial,?_⟩;gi_at_call 74;refine(T2.out _ _).mono ?_;rintro e w' ⟨rfl,rfl⟩)
   | (refine⟨trivial,?_⟩;gi_at_call 75;refine(R2.out _).mono ?_;rintro e W3 ⟨rfl,r3,q3⟩))
  refine⟨q3.ko,q3.low,?_,HB.out.trans (q3.below (by omega) (Px _))⟩;rw[HSN.out];exact r3
 case done=>
  rintro D xs W hD hS ⟨hr,hb⟩ hdef;subst hS;have hle:=St.all_le (pcs s1) I5;obtain⟨st,hst⟩:∃st,st0.all (pcs s1)=st:=⟨_,rfl⟩;rw[hst]at hle hr;have l1:=hle.ln;have l2:=hle.tx;have l3:=hle.rows;have l4:=hle.dg;have l5:=hle.fi;have Z1:Hid (∀m,CallsIn Fence.wide m Tryz.prog 76 #[.pointer (some ⟨w.heap.size,0,none⟩)] W (vO (w.heap.size+4) w.heap.size W st.stop)):=zH fun m=>
   Qb.2 (I4 W st hr (fun W' h=>hM.below (Px _) (hb.trans (h.below (by omega) (Px _)))) (by omega) (by omega) (by omega))
  have HB:=zH hb;have HD:=zH hdef;have HST:=zH hst;clear hr hb hdef hle hst k0 k1 k2 k3 rs0
  gi_wp2_with fail
  refine⟨trivial,?_⟩;refine(Z1.out _).mono ?_;rintro e W2 ⟨rfl,⟨va,vb,vr,vd,r2⟩,q2⟩;have hd2:W2.heap[D]? =some (.deferred (some [])):=q2.ko.same _ _ HD.out rfl;have c4:W2.cell? ⟨w.heap.size,4,none⟩=some vr:=r2.blk.cell 4;have c5:W2.cell? ⟨w.heap.size,5,none⟩=some vd:=r2.blk.cell 5;have HE:Hid (eB w.heap.size (W2.drew.putObj D (.deferred none)) vr st.stop.rows∧bG w.heap.size (W2.drew.putObj D (.deferred none)) vd st.stop.dg∧Below w.heap.size w (W2.drew.putObj D (.deferred none))):=by
   have h1:=r2.keep (PG W2.heap.size W2).drew;have hd3:W2.drew.heap[D]? =some (.deferred (some [])):=hd2;have hs:∀e,aG e (w.heap.size+4) W2.drew (W2.drew.putObj D (.deferred none)):=fun e=>aG.put _ hd3 rfl
   have hb2:Below w.heap.size w W2:=HB.out.trans (q2.below (by omega) (Px _));refine zH ⟨(h1.rw.held (hs _) (hs _)).mono (by omega),(h1.dg.held (hs _)).mono (by omega),hb2.drew.trans ?_⟩;exact⟨rfl,rfl,rfl,by simp,fun k hk=>World.putObj_heap_other (by omega)⟩
  obtain⟨ra,rc,hra⟩:=r2.rw.len;obtain⟨da,dc,hda⟩:=(ag.sl ax r2.dg).len;obtain⟨m1,hm1⟩:∃m1,st.stop.rows.length=m1:=⟨_,rfl⟩;obtain⟨m2,hm2⟩:∃m2,st.stop.dg.length=m2:=⟨_,rfl⟩;rw[hm1]at hra;rw[hm2]at hda;subst hra hda;have HD2:=zH hd2;clear r2 q2 hd2 hm1 hm2 Z1 HD HB
  gi_wp2_with fail
  gi_region
  all_goals
   gi_wp2_with fail
   refine⟨by simp,.inl ⟨_,_,rfl,run_takeDeferred (w:=W2.drew) HD2.out,?_⟩⟩;refine⟨_,results_tmp2 (by rfl) _ _ _,_,_,rfl,?_,?_,HE.out.2.2,HE.out.2.2.size⟩
   ·rw[HST.out];exact HE.out.1
   ·rw[HST.out];exact HE.out.2.1
theorem Jk (s:List UInt8)(w:World)(hM:Mx w)(hs:s.length≤40000):
  Calls Tryz.prog 40 #[.string ⟨s.toArray⟩] w fun e w'=> ∃vr vd,e=.returned (.tuple #[vr,vd])∧eB w.heap.size w' vr (gu s).1∧bG w.heap.size w' vd (gu s).2∧Below w.heap.size w w'∧w.heap.size≤w'.heap.size:=by
 unfold gu
 by_cases h:s=[]
 ·subst h
  refine(Ji w).mono ?_;rintro e w' ⟨rfl,rfl⟩;exact⟨_,_,rfl,eB.nil _ _,ag.nil _ _,PG _ _,Px _⟩
 ·rw[PO h]
  exact Qb.1 (LM s w hM hs h)
end
theorem Nz (l:List UInt8)(c:UInt8):Lib.trimSuffix (l++ [c]) [c]=l:=by
 unfold Lib.trimSuffix;have:Lib.hasSuffix (l++ [c]) [c]=true:=by
  rw[Lib.hasSuffix,List.isSuffixOf_iff_suffix];exact⟨l,rfl⟩
 rw[this];simp
theorem Cm (l:List UInt8)(c d:UInt8)(h:d≠c):Lib.trimSuffix (l++ [d]) [c]=l++ [d]:=by
 unfold Lib.trimSuffix;have:Lib.hasSuffix (l++ [d]) [c]=false:=by
  rw[Bool.eq_false_iff];intro hs;rw[Lib.hasSuffix,List.isSuffixOf_iff_suffix]at hs;obtain⟨t,ht⟩:=hs;have:=List.append_inj_right' ht rfl;simp at this;exact h this.symm
 rw[this];rfl
theorem AP {α:Type}(l:List α):l=[]∨ ∃m c,l=m++ [c]:=by
 rcases Ro l with h | ⟨m,c,h⟩
 ·exact .inl h
 ·exact .inr ⟨m,c,by rw[h,List.concat_eq_append]⟩
def tot (l:List (List UInt8)):Nat:=(l.map List.length).sum
theorem zU (l:List (List UInt8))(x:List UInt8):tot (l++ [x])=tot l+x.length:=by simp[tot]
def sh (k:Int)(y:Row):Row:=(y.1+k,y.2)
end Go.Proofs.YtebabjnngdjceaaGreatDoor

/- The document's Set. -/
import Derived.Test.YtebabjnngdjceaaGreatDoorJA
import Derived.Deep.RegionWith
import Derived.Deep.RegionLaw
import Derived.Test.YtebabjnngdjceaaGreatDoorZ0
set_option linter.unusedVariables false
set_option linter.unusedSimpArgs false
set_option maxRecDepth 100000
set_option maxHeartbeats 4000000
namespace Go.Proofs.YtebabjnngdjceaaGreatDoor
open Go.RowKit
section
attribute [local go_sem ↓ high] cO
theorem Fs.t_at {w:World} {g off k cap:Nat} {l:List Tok} (h:Ts w (.slice (some ⟨g,off,none⟩) k cap) l) {j:Nat} {x y:Int} (hj:l[j]? =some (x,y)):
  w.cell? ⟨g,off+j*2,none⟩=some (.int .i64 x)∧w.cell? ⟨g,off+j*2+1,none⟩=some (.int .i32 y):=by
 obtain⟨g',off',he,z0,z1⟩:=Fs.t h hj;injection he with he
 injection he with e1 e2
 subst e1 e2;exact⟨z0,z1⟩
theorem fw.app0 {w W:World} {s:Value} {c:List Gly×Fce} (h:fw w s c W) (r n:Int) (hl:c.1.length≤500000):
  ∃sa sc W',(Builtin.append_ #[26,26] 26 #[s,.slice (some ⟨W.heap.size,0,none⟩) 1 1]).run Tryz.prog (W.alloc (.cells #[.int .i32 r,.int .u8 n] 35))= .ok (.slice sa (c.1.length+1) sc) W'∧fw w (.slice sa (c.1.length+1) sc) (c.1++ [(r,n)],c.2) W':=by
 have hl1:=af W (.cells #[.int .i32 r,.int .u8 n] 35);have hbig:=h.big;have h1:=h.keep hl1;obtain⟨i0,hi,hz0,hz1,hz2⟩:=PU qK;obtain⟨s',W',hrun,ho,hg,-⟩:=lX ah mP (by decide) Tryz.underlying26 hi hz0 hz1 hz2 rfl (by decide) h1.s (bR ah W 35 [(r,n)]) (by simp;omega) (by simp;omega);obtain⟨sa,sc,hs⟩:=(ag.sl ah ho).len;rw[Pb,QG]at hs;subst hs;have n0:s.ownBlock≠some w.heap.size:=fun e=>by have:=(h1.s.ty e).1;omega
 have n1:s.ownBlock≠some (w.heap.size+1):=fun e=>by have:=(h1.s.ty e).1;omega
 exact⟨sa,sc,W',hrun,(hg.block _ (by simp;omega) (fun e=>n0 e.symm)).trans h1.b0,(hg.block _ (by simp;omega) (fun e=>n1 e.symm)).trans h1.b1,ho,h1.bel.grown hg (by simp;omega) (fun j e=>by have:=(h1.s.ty e).1;omega)⟩
theorem Hz (p q:Int) (l:List Tok) (v:Value) (w:World) (hv:Ts w v l) (hl:l.length≤100000):
  Calls Tryz.prog 23 #[.agg #[.int .u8 p,.int .u8 q],v] w (LW w (fO (p,q) l)):=by
 have HV:=zH hv;obtain⟨a,cap,rfl⟩:=hv.len;clear hv;go_enter Tryz.func23,Tryz.ntmps23
 go_wp2_with fail
 go_loopw [6,7] (fun s i wr=> ∃j:Nat,j≤l.length∧i= .int .i64 j∧fw w s (fO (p,q) (l.take j)) wr) (fun _ i _=>l.length-(intOf i).toNat)
 case atStart=>exact⟨0,by omega,rfl,fw.start w p q⟩
 case round=>
  obtain⟨j,hj,rfl,hR⟩:=hrel;have HL:Hid ((fO (p,q) (l.take j)).1.length≤100000):=zH (by have:=pg (p,q) (l.take j);simp only[Pg]at this;omega);obtain⟨⟨X,A,B⟩,hS⟩: ∃S,fO (p,q) (l.take j)=S:=⟨_,rfl⟩;rw[hS]at hR HL
  by_cases hlt:j<l.length
  ·obtain⟨⟨k,r⟩,hz⟩: ∃z,l[j]? =some z:=⟨l[j],OU hlt⟩
   obtain⟨g,off,rfl,z0,z1⟩:=Fs.t (Fs.below HV.out hR.bel) hz;have HN:=zH (wE (f:=(p,q)) hz);rw[hS]at HN;have hi0:(j:Int)<(l.length:Int):=by omega
   have hi1:(0:Int)≤(j:Int):=by omega
   have c0:wr.cell? ⟨w.heap.size,0,none⟩=some (.int .u8 A):=hR.b0.cell 0;have c1:wr.cell? ⟨w.heap.size,1,none⟩=some (.int .u8 B):=hR.b0.cell 1;obtain⟨sa,sc,hs⟩:=(ag.sl ah hR.s).len;change _=Value.slice sa X.length sc at hs;obtain⟨xl,hxl⟩: ∃xl,X.length=xl:=⟨_,rfl⟩;rw[hxl]at hs;subst hs;have R1:=zH hR;have HZ:Hid (∀W,Below w.heap.size w W→W.cell? ⟨g,off+j*2,none⟩=some (.int .i64 k)∧W.cell? ⟨g,off+j*2+1,none⟩=some (.int .i32 r)):=zH (fun W hb=>Fs.t_at (Fs.below HV.out hb) hz)
   by_cases k1:k=1
   ·subst k1
    obtain⟨sa',sc',W',hrun,hR2⟩:=(hR.keep (OX _ wr).drew).app0 r A (by have:=HL.out;simp only at this ⊢;omega);simp only at hrun hR2;rw[hxl]at hrun hR2;obtain⟨y0,y1⟩:=HZ.out W' hR2.bel;have R2:Hid (fw w (.slice sa' (xl+1) sc') (gX (X,A,B) (1,r)) W'):=zH hR2;rw[←HN.out]at R2;clear hR2 HN hxl hR hS hz;go_wp2_with fail
    go_region_law ((refine bZ rfl (.tmp 20) (.tmp 29) 26 26 rfl _ _ rfl rfl hrun ?_))
    all_goals
     go_simp;go_wp2_with fail
     go_roundw
     case rel=>exact⟨j+1,by omega,by go_num,R2.out⟩
     case measure=>(simp[intOf];try omega)
   ·by_cases k2:k=2
    ·subst k2
     obtain⟨s',W',hrun,hR2⟩:=R1.out.app 32 0 (by have:=HL.out;simp only at this ⊢;omega);obtain⟨y0,y1⟩:=HZ.out W' hR2.bel;have R2:Hid (fw w s' (gX (X,A,B) (2,r)) W'):=zH hR2;rw[←HN.out]at R2;obtain⟨sa',sc',hs'⟩:=(ag.sl ah hR2.s).len;obtain⟨xl',hxl'⟩: ∃xl',(X++ [((32:Int),(0:Int))]).length=xl':=⟨_,rfl⟩;simp only at hs';rw[hxl']at hs';subst hs';clear hR2 hxl' HN hxl hR hS hz;go_wp2_with fail
     go_roundw
     case rel=>exact⟨j+1,by omega,by go_num,R2.out⟩
     case measure=>(simp[intOf];try omega)
    ·by_cases k3:k=3
     ·subst k3
      have HT:=zH (fun W=>EL A B r W);obtain⟨⟨A',B'⟩,hF⟩: ∃F,iQ (A,B) r=F:=⟨_,rfl⟩;have HG:Hid (fO (p,q) (l.take (j+1))=(X,(A',B'))):=zH (by rw[HN.out];simp[gX,hF]);rw[hF]at HT;have HC:Hid (∀w2,Below wr.heap.size wr.drew w2→(w2.cell? ⟨w.heap.size,0,none⟩=some (.int .u8 A)∧w2.cell? ⟨w.heap.size,1,none⟩=some (.int .u8 B)∧w2.frozen? ⟨w.heap.size,0,none⟩=false∧w2.frozen? ⟨w.heap.size,1,none⟩=false)∧Hid (fw w (.slice sa xl sc) (X,(A',B')) ((w2.setCell ⟨w.heap.size,0,none⟩ (.int .u8 A')).setCell ⟨w.heap.size,1,none⟩ (.int .u8 B')))):=zH (fun w2 b2=>by
       have h2:=R1.out.keep ((OX _ wr).drew.trans b2);exact⟨⟨h2.b0.cell 0,h2.b0.cell 1,h2.b0.frozen (by simp),h2.b0.frozen (by simp)⟩,zH (h2.turn A' B')⟩)
      clear hF HN hxl k1 k2 hR hS hz;go_wp2_with fail
      go_region_with ((go_at_call 49;(with_reducible refine(HT.out _).mono ?_);rintro e w2 ⟨rfl,b2⟩;obtain⟨⟨g0,g1,e0,e1⟩,R3⟩:=HC.out w2 b2))
      all_goals
       go_simp;go_wp2_with fail
       go_roundw
       case rel=>exact⟨j+1,by omega,by go_num,by rw[HG.out];exact R3.out⟩
       case measure=>(simp[intOf];try omega)
     ·have R2:Hid (fw w (.slice sa xl sc) (gX (X,A,B) (k,r)) wr):=zH (by simp only[gX,Pd k1,Pd k2,Pd k3];exact R1.out)
      rw[←HN.out]at R2;clear HN hxl hR hS hz;go_wp2_with fail
      go_roundw
      case rel=>exact⟨j+1,by omega,by go_num,R2.out⟩
      case measure=>(simp[intOf];try omega)
  ·obtain rfl:j=l.length:=by omega
   have c0:wr.cell? ⟨w.heap.size,0,none⟩=some (.int .u8 A):=hR.b0.cell 0;have c1:wr.cell? ⟨w.heap.size,1,none⟩=some (.int .u8 B):=hR.b0.cell 1;have d0:wr.cell? ⟨w.heap.size+1,0,none⟩=some (.int .u8 0):=hR.b1.cell 0;have d1:wr.cell? ⟨w.heap.size+1,1,none⟩=some (.int .u8 0):=hR.b1.cell 1;have f0:wr.frozen? ⟨w.heap.size+1,0,none⟩=false:=hR.b1.frozen (by simp);have f1:wr.frozen? ⟨w.heap.size+1,1,none⟩=false:=hR.b1.frozen (by simp);obtain⟨sa,sc,hs⟩:=(ag.sl ah hR.s).len;change _=Value.slice sa X.length sc at hs;obtain⟨xl,hxl⟩: ∃xl,X.length=xl:=⟨_,rfl⟩;rw[hxl]at hs;subst hs;rw[PG]at hS;have HS:=zH hS;obtain⟨o1,o2,o3⟩:=hR.fin (.int .u8 A) (.int .u8 B);have HO:=zH o1;have HBl:=zH o2;have HBK:=zH o3;clear o1 o2 o3;clear hR hS hxl;go_wp2_with fail
   go_region
   go_wp2_with fail
   have k0:=HBK.out.cell 0;have k1:=HBK.out.cell 1;simp at k0 k1;exact Pq (v:= .tuple #[.slice sa xl sc,.agg #[.int .u8 A,.int .u8 B]]) (by simp[results,Tryz.results23,go_sem,k0,k1]) rfl (by rw[HS.out];exact⟨_,rfl,HO.out,HBl.out⟩)
end
end Go.Proofs.YtebabjnngdjceaaGreatDoor

/- The document's Line. -/
import Derived.Test.YtebabjnngdjceaaGreatDoorHa
import Derived.Test.YtebabjnngdjceaaGreatDoorS2
import Derived.Test.YtebabjnngdjceaaGreatDoorEp
import Derived.Test.YtebabjnngdjceaaGreatDoorZ0
set_option linter.unusedVariables false
set_option linter.unusedSimpArgs false
set_option maxRecDepth 100000
set_option maxHeartbeats 4000000
namespace Go.Proofs.YtebabjnngdjceaaGreatDoor
open Go.RowKit
theorem ER (p q:Int) (b:List UInt8) (w:World) (hb:b.length≤2000):
  Calls Tryz.prog 9 #[.agg #[.int .u8 p,.int .u8 q],.string ⟨b.toArray⟩] w (J4 w (fO (p,q) (bK 0 (dec b)).1) (bK 0 (dec b)).2):=by
 have hdl:=l6 b;obtain⟨W2,hW2⟩: ∃W2,(w.alloc (.cells #[.int .u8 p,.int .u8 q] 28)).alloc (.cells #[.int .u8 0,.int .u8 0] 28)=W2:=⟨_,rfl⟩;have hR0:=fw.start w p q;rw[hW2]at hR0;have HA:=zH (EM b W2 (by omega));have hlen:=ow (dec b);unfold mZ at HA;obtain⟨TT,hTT⟩: ∃TT,(bK 0 (dec b)).1=TT:=⟨_,rfl⟩;obtain⟨DD,hDD⟩: ∃DD,(bK 0 (dec b)).2=DD:=⟨_,rfl⟩;rw[hTT,hDD]at HA hlen ⊢;have htl:TT.length≤100000:=by omega
 obtain⟨⟨X,A,B⟩,hS⟩: ∃S,fO (p,q) TT=S:=⟨_,rfl⟩;have HS:=zH (fun v W (h:Ts W v TT)=>Hz p q TT v W h htl);unfold LW at HS;rw[hS]at HS ⊢;have R0:=zH hR0;clear hdl hlen hTT hDD hS htl hR0;go_enter Tryz.func9,Tryz.ntmps9
 go_wp2_with fail
 refine HA.out.mono ?_;rintro e w1 ⟨vt,vd,rfl,o1,o2,b1⟩;have h1:=R0.out.keep b1;have c0:w1.cell? ⟨w.heap.size,0,none⟩=some (.int .u8 p):=h1.b0.cell 0;have c1:w1.cell? ⟨w.heap.size,1,none⟩=some (.int .u8 q):=h1.b0.cell 1;have hbig:=h1.big;have z2:=R0.out.big;have HS1:=zH (HS.out vt w1 (ag.sl az o1));have R1:=zH h1;have O2:=zH o2;obtain⟨ta,tc,rfl⟩:=(ag.sl az o1).len;obtain⟨da,dc,rfl⟩:=(ag.sl ai o2).len;obtain⟨n1,hn1⟩: ∃n,TT.length=n:=⟨_,rfl⟩;obtain⟨n2,hn2⟩: ∃n,DD.length=n:=⟨_,rfl⟩;rw[hn1]at HS1;rw[hn2]at O2;rw[hn1,hn2];clear h1 o1 o2 b1 HA HS hn1 hn2 R0 hW2;go_wp2_with fail
 refine HS1.out.mono ?_;rintro e w2 ⟨x,rfl,ox,bx⟩;have h2:=R1.out.keep bx;have bl:=af w2 (.cells #[.int .u8 A,.int .u8 B] 28);have h3:=h2.keep bl;have hz2:=bx.size;have ox2:aI w1.heap.size (w2.alloc (.cells #[.int .u8 A,.int .u8 B] 28)) x X:=ox.keep bl;have od2:aL W2.heap.size (w2.alloc (.cells #[.int .u8 A,.int .u8 B] 28)) (.slice da n2 dc) DD:=(O2.out.keep bx).keep bl;have hbk:Blk (w2.alloc (.cells #[.int .u8 A,.int .u8 B] 28)) w2.heap.size 28 [.int .u8 A,.int .u8 B]:=O9 w2 _;clear c0 c1 HS1 R1 bx O2 ox;obtain⟨sa,sc,hs⟩:=(ag.sl ah ox2).len;obtain⟨xl,hxl⟩: ∃xl,X.length=xl:=⟨_,rfl⟩;rw[hxl]at hs;subst hs;have HF:=zH h3;have HX:=zH ox2;have HD:=zH od2;have HBK:=zH hbk;clear h2 h3 ox2 od2 hxl bl hbk;go_wp2_with fail
 obtain⟨W3,hW3⟩: ∃W3,w2.alloc (.cells #[.int .u8 A,.int .u8 B] 28)=W3:=⟨_,rfl⟩;rw[hW3]at HF HX HD HBK;have k0:W3.cell? ⟨w2.heap.size,0,none⟩=some (.int .u8 A):=HBK.out.cell 0;have k1:W3.cell? ⟨w2.heap.size,1,none⟩=some (.int .u8 B):=HBK.out.cell 1;have k2:W3.cell? ⟨w.heap.size+1,0,none⟩=some (.int .u8 0):=HF.out.b1.cell 0;have k3:W3.cell? ⟨w.heap.size+1,1,none⟩=some (.int .u8 0):=HF.out.b1.cell 1;have k4:W3.frozen? ⟨w.heap.size+1,0,none⟩=false:=HF.out.b1.frozen (by simp);have k5:W3.frozen? ⟨w.heap.size+1,1,none⟩=false:=HF.out.b1.frozen (by simp);rw[hW3];obtain⟨-,o4,o5⟩:=HF.out.fin (.int .u8 A) (.int .u8 B);have q0:=o5.cell 0;have q1:=o5.cell 1;have o6:aI w1.heap.size ((W3.setCell ⟨w.heap.size+1,0,none⟩ (.int .u8 A)).setCell ⟨w.heap.size+1,1,none⟩ (.int .u8 B)) (.slice sa xl sc) X:=Pt (Pt HX.out (by simp only;omega) _) (by simp only;omega) _;have o7:aL W2.heap.size ((W3.setCell ⟨w.heap.size+1,0,none⟩ (.int .u8 A)).setCell ⟨w.heap.size+1,1,none⟩ (.int .u8 B)) (.slice da n2 dc) DD:=Pt (Pt HD.out (by simp only;omega) _) (by simp only;omega) _;have O6:=zH (ag.mono (base':=w.heap.size) (o6.keep (OX _ _).drew) (by omega));have O7:=zH (ag.mono (base':=w.heap.size) (o7.keep (OX _ _).drew) (by omega));have O4:=zH o4;simp at q0 q1;clear o4 o5 o6 o7 HX HD HF hW3;go_region
 go_wp2_with fail
 exact Pq (v:= .tuple #[.slice sa xl sc,.agg #[.int .u8 A,.int .u8 B],.slice da n2 dc]) (by simp[results,Tryz.results9,go_sem,q0,q1]) rfl ⟨_,_,rfl,O6.out,O7.out,O4.out⟩
end Go.Proofs.YtebabjnngdjceaaGreatDoor

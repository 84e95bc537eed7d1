/- The program's own for do -/
import Derived.Test.YtebabjnngdjceaaGreatDoorQh
import Derived.Test.YtebabjnngdjceaaGreatDoorCg
set_option linter.unusedVariables false
set_option linter.unusedSimpArgs false
set_option maxRecDepth 100000
set_option maxHeartbeats 16000000
namespace Go.Proofs.YtebabjnngdjceaaGreatDoor
open Go.RowKit
section
open Go.RowKit
theorem Jn (SI:Nat→Prop)(w0:World)(lb:Nat)(hlb:w0.heap.size≤lb)(hSI:∀b,SI b→b<w0.heap.size)(hU:U8 w0):∀(n:Nat) (l:List Nd),aP l=n→nlL l≤90000→Lg w0 lb SI l:=by
 intro n
 induction n using Nat.strongRecOn with
 | _ n IH=>
  intro l hn hnl lv v acc base m d left w hv hbw hbase hN hB hc hl2 hd ha;subst hn;have HPO:Hid (∀(q:List Nd),aP q<aP l→nlL q≤90000→Lg w0 lb SI q):=zH (fun q hq hq2=>IH (aP q) hq q rfl hq2);have hll:=pU l;obtain⟨W1,hW1⟩:∃W,W=w.alloc (.cells (ig m d lb).toArray 157):=⟨_,rfl⟩;have b1:Below w.heap.size w W1:=by rw[hW1];exact ae _ _
  have HP1:Hid (Blk W1 w.heap.size 157 (ig m d lb)):=zH (by rw[hW1];exact PK w _);have HN1:=zH (hN.keep b1);have HB1:=zH (hB.below b1);have HZ:Hid (lb<w.heap.size):=zH hB.lt;have HBW1:=zH (hbw.trans (b1.mono hbw.size));have HPF1:Hid (PF lb base w W1):=zH (PF.of b1);have HOW1:Hid (Ow lb v w v W1):=zH (fun b h1 _ h3=>⟨b1.block b h1,h3⟩);have HV:=zH hv;have HSI:=zH hSI;have HLB:=zH hlb;have HBA:=zH hbase;have HU:=zH hU;have HSZ1:=zH b1.size;obtain⟨va,vc,rfl⟩:=hN.len;obtain⟨la,lc,rfl⟩:=hv.len;unfold Iz;simp only[ig,cntF]at hW1⊢;have HW1:=zH hW1;have HOV:=zH (fun(b:Nat) (hb:w.heap.size≤b) (e:(Value.slice va acc.length vc).ownBlock=some b)=>(by obtain⟨L,S,hL,-⟩:=hN.own;have:=hL.blt e;omega:False));clear hv hbw hbase hN hB hlb hSI hU hW1 b1 IH;go_enter Tryz.func99,Tryz.ntmps99
  go_wp2_with fail
  rw[←HW1.out];go_loopw [1,11] (fun u i wr=> ∃(p:Nat),i=.int .i64 (p:Int)∧p≤l.length∧Hid (dN FS base wr u (acc++tfL (l.take p) m d))∧Hid (Blk wr lb 3 [.int .i64 ((left-aP (l.take p):Nat):Int)])∧Hid (PF lb base W1 wr)∧Hid (Ow lb (.slice va acc.length vc) W1 u wr)) (fun _ i _=>l.length-(intOf i).toNat)
  case atStart=>exact⟨0,rfl,by omega,by simpa[mR] using HN1,by simpa[aP] using HB1,zH (PF.refl _ _ _),zH (Ow.refl _ _ _)⟩
  case round=>
   obtain⟨p,rfl,hp,HN,HBK,HPF,HOW⟩:=hrel;clear HN1 HB1;obtain⟨ua,uc,rfl⟩:=HN.out.len;obtain⟨un,hun⟩:∃n,(acc++tfL (l.take p) m d).length=n:=⟨_,rfl⟩;rw[hun]at HN HOW⊢;have HUN:=zH hun
   by_cases hlt:p<l.length
   ·obtain⟨y,hy⟩:∃y,l[p]? =some y:=⟨l[p],Pz hlt⟩
    have HCN:=zH (vD hy);have hle:=zo hy;have hnle:=AO hy;have hul:un≤acc.length+aP (l.take p):=by have:=xZ (l.take p) m d;rw[←hun,PL];omega
    have hlt':(p:Int)<(l.length:Int):=by omega
    have hp0:(0:Int)≤(p:Int):=by omega
    have hbr:Below w0.heap.size w0 wr:=HBW1.out.trans (HPF.out.below HBW1.out.size HLB.out HBA.out);obtain⟨g,off,x,rfl,hC,hH,hK⟩:=HV.out.atK (Kp.below hbr HSI.out) hy;obtain⟨yh,yks⟩:=y;have hNX:Hid (¬20≤d→tfL (l.take (p+1)) m d=tfL (l.take p) m d++tfN (.mk yh yks) m d):=zH (fun h=>Lt hy m d h);simp only[Nd.hd,Nd.kids]at HCN hle hnle hH hK;obtain⟨wb,hwb⟩:∃wb,wb=wr.alloc (.cells (af x).toArray 58):=⟨_,rfl⟩;have bb:Below wr.heap.size wr wb:=by rw[hwb];exact ae _ _
    have hPr:Blk wr w.heap.size 157 (ig m d lb):=HPF.out.blk HP1.out (by have:=HZ.out;omega) (by decide);have hPb:=hPr.below bb;have q2:wb.cell? ⟨w.heap.size,2,none⟩=some (cntF lb):=hPb.cell 2;have HC1:=zH (qV lb (left-aP (l.take p)) wb (HBK.out.below bb) (by omega) (by omega));have HXN:Hid (Blk wb wr.heap.size 58 (af x)):=zH (by rw[hwb];exact PK wr _);have HZN:Hid (wr.heap.size≠lb):=zH (fun e=>by have:=HBK.out.lt;omega);have HPB:=zH hPb;have HNB:=zH (HN.out.keep bb);have HPFb:=zH (HPF.out.trans (PF.of bb));have HOWb:Hid (Ow lb (.slice va acc.length vc) W1 (.slice ua un uc) wb):=zH (HOW.out.trans (Ow.exc (Exc.of bb)) HPF.out.size);have HKK:=zH hK;have HHH:=zH hH;obtain⟨xk,xl,xn,⟨t1,t2,t3⟩,⟨k1,k2,k3⟩,⟨r1,r2,r3⟩,xc,⟨q1,q2',q3⟩,xb,xa⟩:=x;have c0:=hC.c0;have c1:=hC.c1;have c2:=hC.c2;have c3:=hC.c3;have c4:=hC.c4;have c5:=hC.c5;have c6:=hC.c6;have c7:=hC.c7;have c8:=hC.c8;have c9:=hC.c9;simp only[af,pv,cntF]at hwb q2 HKK;subst hwb;clear hy hC hK hH bb hPr hPb hbr hun;go_wp2_with fail
    refine HC1.out.mono ?_;rintro e w3 ⟨rfl,hB3,hE3⟩;have HB3:=zH hB3;have HN3:=zH (HNB.out.exc HBA.out hE3);have HPF3:Hid (PF lb base W1 w3):=zH (HPFb.out.trans (PF.exc hE3));have HOW3:Hid (Ow lb (.slice va acc.length vc) W1 (.slice ua un uc) w3):=zH (HOWb.out.trans (Ow.exc hE3) HPFb.out.size);have hP3:=hE3.blk HPB.out (by have:=HZ.out;omega);have p0:w3.cell? ⟨w.heap.size,0,none⟩=some (.int .i64 m):=hP3.cell 0;have p1:w3.cell? ⟨w.heap.size,1,none⟩=some (.int .i64 (d:Int)):=hP3.cell 1;have p2:w3.cell? ⟨w.heap.size,2,none⟩=some (cntF lb):=hP3.cell 2;have hX3:=hE3.blk HXN.out HZN.out;have x4:w3.cell? ⟨wr.heap.size,4,none⟩=some (.slice k1 k2 k3):=hX3.cell 4;have hb3:Below w0.heap.size w0 w3:=HBW1.out.trans (HPF3.out.below HBW1.out.size HLB.out HBA.out);simp only[cntF]at p2
    by_cases hdd:d=20
    ·have HDD:=zH hdd
     have HLV:=uz SI w0 lb HLB.out HSI.out m d (aP yks) yks rfl (left-aP (l.take p)-1) (.slice k1 k2 k3) w3 (by omega) (by omega) HKK.out hb3 HB3.out;simp only[ig,cntF]at HLV;have HLV:=zH HLV;have e20:((d:Int)==20)=true:=by simp;omega
     clear hB3 hE3 hP3 hX3 hb3 HC1 c0 c1 c2 c3 c4 c5 c6 c7 c8 c9 q2 hdd;go_wp2_with fail
     refine HLV.out.mono ?_;rintro e w5 ⟨rfl,hB5,hE5⟩;have HB5:=zH hB5;have HN5:=zH (HN3.out.exc HBA.out hE5);have HPF5:Hid (PF lb base W1 w5):=zH (HPF3.out.trans (PF.exc hE5));have HOW5:Hid (Ow lb (.slice va acc.length vc) W1 (.slice ua un uc) w5):=zH (HOW3.out.trans (Ow.exc hE5) HPF3.out.size);clear hB5 hE5 HLV p0 p1 p2 x4;go_wp2_with fail
     go_roundw
     case rel=>exact⟨p+1,by go_num,by omega,zH (by have h:=HN5.out;have e:=HDD.out;rw[zW _ m d (by omega)]at h⊢;exact h),zH (by rw[HCN.out,show left-(aP (l.take p)+(1+aP yks))=left-aP (l.take p)-1-aP yks by omega];exact HB5.out),HPF5,HOW5⟩
     case measure=>(simp[intOf];try omega)
    ·have HON:=Jp SI w0 lb HLB.out HSI.out HU.out ⟨xk,xl,xn,(t1,t2,t3),(k1,k2,k3),(r1,r2,r3),xc,(q1,q2',q3),xb,xa⟩ yh yks HHH.out HKK.out (by omega) (HPO.out yks (by omega) (by omega)) (.slice ua un uc) (acc++tfL (l.take p) m d) base m d (left-aP (l.take p)-1) w3 hb3 HBA.out HN3.out HB3.out (by omega) (by omega) (by omega) (by have:=HUN.out;omega)
     unfold Iz at HON;simp only[ig,cntF,af,pv]at HON;have HON:=zH HON;have e20:((d:Int)==20)=false:=by simp;omega
     have HDD:Hid (¬20≤d):=zH (by omega);have x0:w3.cell? ⟨wr.heap.size,0,none⟩=some (.int .i64 xk):=hX3.cell 0;have x1:w3.cell? ⟨wr.heap.size,1,none⟩=some (.int .i64 xl):=hX3.cell 1;have x2:w3.cell? ⟨wr.heap.size,2,none⟩=some (.int .i64 xn):=hX3.cell 2;have x3:w3.cell? ⟨wr.heap.size,3,none⟩=some (.slice t1 t2 t3):=hX3.cell 3;have x5:w3.cell? ⟨wr.heap.size,5,none⟩=some (.slice r1 r2 r3):=hX3.cell 5;have x6:w3.cell? ⟨wr.heap.size,6,none⟩=some (.string ⟨xc.toArray⟩):=hX3.cell 6;have x7:w3.cell? ⟨wr.heap.size,7,none⟩=some (.slice q1 q2' q3):=hX3.cell 7;have x8:w3.cell? ⟨wr.heap.size,8,none⟩=some (.bool xb):=hX3.cell 8;have x9:w3.cell? ⟨wr.heap.size,9,none⟩=some (.bool xa):=hX3.cell 9;clear hB3 hE3 hP3 hX3 hb3 HC1 c0 c1 c2 c3 c4 c5 c6 c7 c8 c9 q2 hdd;go_wp2_with fail
     refine HON.out.mono ?_;rintro e w5 ⟨v5,rfl,hN5,hB5,hF5,hO5⟩;have HB5:=zH hB5;have HN5:=zH hN5;have HPF5:Hid (PF lb base W1 w5):=zH (HPF3.out.trans hF5);have HOW5:Hid (Ow lb (.slice va acc.length vc) W1 v5 w5):=zH (HOW3.out.trans hO5 HPF3.out.size);clear hN5 hB5 hF5 hO5 HON p0 p1 p2 x0 x1 x2 x3 x4 x5 x6 x7 x8 x9;go_wp2_with fail
     go_roundw
     case rel=>exact⟨p+1,by go_num,by omega,zH (by rw[hNX.out HDD.out,←Qx];exact HN5.out),zH (by rw[HCN.out,show left-(aP (l.take p)+(1+aP yks))=left-aP (l.take p)-1-aP yks by omega];exact HB5.out),HPF5,HOW5⟩
     case measure=>(simp[intOf];try omega)
   ·obtain rfl:p=l.length:=by omega
    have hlt':¬(l.length:Int)<(l.length:Int):=by omega
    rw[Qa]at HN HBK;clear hun HUN;go_wp2_with fail
    go_ret;refine⟨_,rfl,HN.out,HBK.out,HPF1.out.trans HPF.out,fun b h1 h2 h3=>?_⟩;obtain⟨q1,q2⟩:=HOW.out b (PH h1 HSZ1.out) h2 h3;exact⟨q1.trans (HOW1.out b h1 h2 h3).1,q2⟩
end
section
def Lc (m:Nm)(l:List Nd)(w:World)(e:Ending)(w':World):Prop:= ∃s:PV,e=.returned (rP m (pv s))∧NsS (fun b=>w.heap.size≤b∧b<w'.heap.size) w' (pv s) l∧Below w.heap.size w w'
theorem Gf (S:Nat→Prop)(m:Nm)(l:List Nd)(v:Value)(w:World)(hU:U8 w)(hb:nlL l≤60000)(hv:NsS S w v l)(hS:∀x,S x→x<w.heap.size):
  Calls Tryz.prog 65 #[rP m v] w (Lc m (zV l) w):=by
 have hcl:=pR l;obtain⟨k1,z1,rfl⟩:=hv.len;obtain⟨w0,hw0⟩:∃w0,w0=(w.alloc (.cells (rQ m (.slice k1 l.length z1)).toArray 38)).alloc (.cells ([.string ⟨#[]⟩,.string ⟨#[]⟩,.string ⟨#[]⟩,.string ⟨#[]⟩,.slice none 0 0]:List Value).toArray 38):=⟨_,rfl⟩;obtain⟨bl,hbA,hbB⟩:=sP w _ _ w0 hw0;have hz0:w0.heap.size=w.heap.size+1+1:=by rw[hw0,PS,PS]
 obtain⟨W3,hW3⟩:∃W,W=w0.alloc (.cells #[.int .i64 20000] 3):=⟨_,rfl⟩;have b3:Below w0.heap.size w0 W3:=by rw[hW3];exact ae _ _
 have hz3:W3.heap.size=w.heap.size+1+1+1:=by rw[hW3,PS,hz0]
 have hL:Blk W3 (w.heap.size+1+1) 3 [.int .i64 ((20000:Nat):Int)]:=by
  have:=PK w0 (.cells #[.int .i64 20000] 3);rw[hz0,←hW3]at this;exact this
 have bw3:Below w.heap.size w W3:=bl.trans (b3.mono bl.size);have hput:=Jn S w (w.heap.size+1+1) (by omega) hS hU (aP l) l rfl (by omega) (.slice k1 l.length z1) (.slice none 0 0) [] W3.heap.size 0 0 20000 W3 hv bw3 (by omega) (dN.nil (fun b q=>q.elim) (Px _)) hL (by omega) (Px _) (by omega) (by simp;omega);rw[Qt,Ls (by omega)]at hput;unfold Iz at hput;simp only[ig,cntF]at hput;rw[show((0:Nat):Int)=0 from rfl]at hput;have HPUT:=zH hput;obtain⟨TL,hTL⟩:∃T,zV l=T:=⟨_,rfl⟩;rw[hTL]at HPUT⊢;have HA:=zH (hbA.below b3);have HB:=zH (hbB.below b3);have BW3:=zH bw3;have HZ3:=zH hz3;have c4:W3.cell? ⟨w.heap.size,4,none⟩=some (.slice k1 l.length z1):=HA.out.cell 4;unfold rP;unfold rQ at hw0⊢;subst hw0;have C4:=c4;rw[hW3]at C4;have HW3:=zH hW3;clear hv hS hU bl hbA hbB hz0 hz3 b3 hL bw3 hput hTL hW3 hcl c4;go_enter Tryz.func65,Tryz.ntmps65
 go_wp2_with fail
 rw[←HW3.out];refine HPUT.out.mono ?_;rintro e w1 ⟨v1,rfl,hN1,hB1,hF1,-⟩;obtain⟨c1,c3,rfl⟩:=hN1.len;obtain⟨c2,hc2⟩:∃n,TL.length=n:=⟨_,rfl⟩;rw[hc2]at hN1⊢;have A1:=hF1.blk HA.out (by omega) (by decide);have B1:=hF1.blk HB.out (by omega) (by decide);have f4:w1.frozen? ⟨w.heap.size,4,none⟩=false:=A1.frozen (by simp[rQ]);have g4:w1.cell? ⟨w.heap.size,4,none⟩=some (.slice k1 l.length z1):=A1.cell 4;have A2:=A1.set 4 (.slice c1 c2 c3);have B2:=Blk.other B1 (show w.heap.size+1≠w.heap.size by omega) 4 (.slice c1 c2 c3);have x0:(w1.setCell ⟨w.heap.size,4,none⟩ (.slice c1 c2 c3)).cell? ⟨w.heap.size,0,none⟩=some (.string ⟨m.a.toArray⟩):=A2.cell 0;have x1:(w1.setCell ⟨w.heap.size,4,none⟩ (.slice c1 c2 c3)).cell? ⟨w.heap.size,1,none⟩=some (.string ⟨m.b.toArray⟩):=A2.cell 1;have x2:(w1.setCell ⟨w.heap.size,4,none⟩ (.slice c1 c2 c3)).cell? ⟨w.heap.size,2,none⟩=some (.string ⟨m.c.toArray⟩):=A2.cell 2;have x3:(w1.setCell ⟨w.heap.size,4,none⟩ (.slice c1 c2 c3)).cell? ⟨w.heap.size,3,none⟩=some (.string ⟨m.d.toArray⟩):=A2.cell 3;have x4:(w1.setCell ⟨w.heap.size,4,none⟩ (.slice c1 c2 c3)).cell? ⟨w.heap.size,4,none⟩=some (.slice c1 c2 c3):=A2.cell 4;have z0:(w1.setCell ⟨w.heap.size,4,none⟩ (.slice c1 c2 c3)).cell? ⟨w.heap.size+1,0,none⟩=some (.string ⟨#[]⟩):=B2.cell 0;have z1':(w1.setCell ⟨w.heap.size,4,none⟩ (.slice c1 c2 c3)).cell? ⟨w.heap.size+1,1,none⟩=some (.string ⟨#[]⟩):=B2.cell 1;have z2:(w1.setCell ⟨w.heap.size,4,none⟩ (.slice c1 c2 c3)).cell? ⟨w.heap.size+1,2,none⟩=some (.string ⟨#[]⟩):=B2.cell 2;have z3:(w1.setCell ⟨w.heap.size,4,none⟩ (.slice c1 c2 c3)).cell? ⟨w.heap.size+1,3,none⟩=some (.string ⟨#[]⟩):=B2.cell 3;have z4:(w1.setCell ⟨w.heap.size,4,none⟩ (.slice c1 c2 c3)).cell? ⟨w.heap.size+1,4,none⟩=some (.slice none 0 0):=B2.cell 4;have v0:(w1.setCell ⟨w.heap.size,4,none⟩ (.slice c1 c2 c3)).frozen? ⟨w.heap.size+1,0,none⟩=false:=B2.frozen (by simp);have v1:(w1.setCell ⟨w.heap.size,4,none⟩ (.slice c1 c2 c3)).frozen? ⟨w.heap.size+1,1,none⟩=false:=B2.frozen (by simp);have v2:(w1.setCell ⟨w.heap.size,4,none⟩ (.slice c1 c2 c3)).frozen? ⟨w.heap.size+1,2,none⟩=false:=B2.frozen (by simp);have v3:(w1.setCell ⟨w.heap.size,4,none⟩ (.slice c1 c2 c3)).frozen? ⟨w.heap.size+1,3,none⟩=false:=B2.frozen (by simp);have v4:(w1.setCell ⟨w.heap.size,4,none⟩ (.slice c1 c2 c3)).frozen? ⟨w.heap.size+1,4,none⟩=false:=B2.frozen (by simp);have B7:=((((B2.set 0 (.string ⟨m.a.toArray⟩)).set 1 (.string ⟨m.b.toArray⟩)).set 2 (.string ⟨m.c.toArray⟩)).set 3 (.string ⟨m.d.toArray⟩)).set 4 (.slice c1 c2 c3);have H7:=zH B7;have HSS:=zH hN1.nss;have HF1:=zH hF1;clear A1 B1 A2 B2 B7 hN1 hB1 hF1 HPUT HA HB C4 hc2;go_wp2_with fail
 have B7:=H7.out;have k0:=B7.cell 0;have k1:=B7.cell 1;have k2:=B7.cell 2;have k3:=B7.cell 3;have k4:=B7.cell 4;simp at k0 k1 k2 k3 k4;refine Qi (v:= .agg #[.string ⟨m.a.toArray⟩,.string ⟨m.b.toArray⟩,.string ⟨m.c.toArray⟩,.string ⟨m.d.toArray⟩,.slice c1 c2 c3]) (by simp[results,Tryz.results65,go_sem,k0,k1,k2,k3,k4]) rfl ?_;have hz:=HZ3.out;have h1:=HF1.out.size;have hbel:Below w.heap.size w w1:=BW3.out.trans (HF1.out.below BW3.out.size (by omega) (by omega));refine⟨(c1,c2,c3),rfl,?_,?_⟩
 ·refine(HSS.out.keep (fun b q=>?_)).mono (fun b q=>?_)
  ·have hb:b≠w.heap.size∧b≠w.heap.size+1:=by
    rcases q with q | q
    ·exact q.elim
    ·omega
   simp only[PN _ (⟨w.heap.size,_,none⟩:Addr) _ b hb.1,PN _ (⟨w.heap.size+1,_,none⟩:Addr) _ b hb.2]
  ·simp only[gH]
   rcases q with q | q
   ·exact q.elim
   ·exact⟨by omega,by omega⟩
 ·refine((((hbel.setCell ?_ _).setCell ?_ _).setCell ?_ _).setCell ?_ _).setCell ?_ _ |>.setCell ?_ _<;>simp<;>omega
end
section
noncomputable def Kw (x hi mx:Value):Sem Value:=Instr.slice 36 x none (some hi) (some mx)
theorem Ab (x hi mx:Value):Instr.slice 36 x none (some hi) (some mx)=Kw x hi mx:=rfl
theorem Ig (a:Option Addr)(n c:Nat)(h:n≤c)(W:World):(Kw (.slice a n c) (.int .i64 (n:Int)) (.int .i64 (n:Int))).run Tryz.prog W=.ok (.slice a n n) W:=by
 obtain⟨i0,hi,hz0,hz1,hz2⟩:=Ql kY;unfold Kw;simp[Instr.slice,Instr.sliceBounds,Instr.sliceBound,asIntOf,QB Tryz.underlying36,h,sizeOf,typeInfo,hi];intro _
 cases a<;>rfl
attribute [local go_sem ↓ high] Ab
theorem xK (a:Option Addr)(n c:Nat)(h:n≤c)(w:World):Calls Tryz.prog 62 #[.slice a n c] w fun e w'=>e=.returned (.slice a n n)∧w=w':=by
 have f1:=fun W=>Ig a n c h W
 go_enter Tryz.func62,Tryz.ntmps62
 go_wp2_with fail
 go_ret;exact⟨rfl,rfl⟩
def pV (x:NV):NV:=x.wkids (x.kids.1,x.kids.2.1,x.kids.2.1)
def gL (j:Nat)(L:List NV):List NV:=(L.take j).map pV++L.drop j
theorem Ee (j:Nat)(L:List NV):(gL j L).length=L.length:=by unfold gL;simp;omega
theorem BP (L:List NV):gL 0 L=L:=by simp[gL]
theorem Ic {j:Nat}{L:List NV}{x:NV}(h:L[j]? =some x):(gL j L)[j]? =some x:=by
 have hj:=(Pw.1 h).1;unfold gL;rw[P5 (by simp;omega)];simp only[Qy,PW,RD (Nat.le_of_lt hj),Rs,QE,Qr];exact h
theorem Ed {j:Nat}{L:List NV}{x:NV}(h:L[j]? =some x):(gL j L).set j (pV x)=gL (j+1) L:=by
 have hj:=(Pw.1 h).1;have e:L.drop j=x::L.drop (j+1):=by
  rw[Qu hj]
  congr 1
  rw[Pz hj]at h;exact PT h
 have hl:((L.take j).map pV).length=j:=by simp;omega
 unfold gL;rw[Rx _ _ (by omega),hl,Rs,e,Qw,h];simp
theorem Ef (L:List NV):gL L.length L=L.map pV:=by simp[gL]
theorem BM.copy {X R:Nat→Prop}{w:World}{b:Nat}{t:Bt}(h:BM true X R w b t):
  ∃ka kc oa oc pa,∃LO:List NV,w.cell? ⟨b,0,none⟩=some (.string ⟨t.nm.a.toArray⟩)∧w.cell? ⟨b,1,none⟩=some (.string ⟨t.nm.b.toArray⟩)∧w.cell? ⟨b,2,none⟩=some (.string ⟨t.nm.c.toArray⟩)∧w.cell? ⟨b,3,none⟩=some (.string ⟨t.nm.d.toArray⟩)∧
   w.cell? ⟨b,4,none⟩=some (.slice ka t.kids.length kc)∧w.cell? ⟨b,5,none⟩=some (.slice oa t.opn.length oc)∧w.cell? ⟨b,6,none⟩=some (.pointer pa)∧t.kids.length≤kc∧LO.length=t.opn.length∧Fs 10 af w (.slice oa t.opn.length oc) LO∧
   (∀(i:Nat) x,LO[i]? =some x→x.kids.2.1≤x.kids.2.2)∧
   ∀W o ob oc',Below w.heap.size w W→w.heap.size≤o→Blk W o 116 (bP t.nm (ka,t.kids.length,t.kids.length) (ob,t.opn.length,oc') (.pointer pa))→ag 58 10 af w.heap.size W (.slice ob t.opn.length oc') (LO.map pV)→(Value.slice ob t.opn.length oc').ownBlock≠some o→
    ∃X',BM false X' (fun k=>R k∨X k) W o t∧ ∀k,X' k→w.heap.size≤k:=by
 have hlt:=h.lt;obtain⟨kv,ov,pa,LO,lab,h1,h2⟩:=h;obtain⟨ka,kc,ek,hkc⟩:=h1.kids.len;obtain⟨oa,oc,eo,hoc⟩:=h1.olen;obtain⟨pa',hpa⟩:∃q,pa=.pointer q:=by
  rcases h1.para with⟨-,q,-⟩| ⟨-,g,tv,q,-⟩
  ·exact⟨_,q⟩
  ·exact⟨_,q⟩
 have hRX:∀k,R k→R k∨X k:=fun k q=> .inl q
 have hLX:∀z,z≠0→ ∀k,(R k∨lab k=z)→R k∨X k:=fun z hz k q=>q.imp id (fun q=>(h2 k).2 (by omega))
 refine⟨ka,kc,oa,oc,pa',LO,h1.box.cell 0,h1.box.cell 1,h1.box.cell 2,h1.box.cell 3,by rw[h1.box.cell 4,←ek];rfl,by rw[h1.box.cell 5,←eo];rfl,by rw[h1.box.cell 6,←hpa];rfl,hkc,h1.ol,by rw[←eo];exact ag.sl ay h1.opn,fun i x hx=>?_,fun W o ob oc' hb ho hbox hown hne=>?_⟩
 ·have hi:i<t.opn.length:=by rw[←h1.ol];exact(Pw.1 hx).1
  obtain⟨a,c,e,hc⟩:=(h1.on i x _ hx (Pz hi)).2.len;rw[oQ e];exact hc
 have kW:Kp (fun k=>R k∨X k) w W:=Kp.below hb (fun k q=>hlt k q.symm);have hoblt:∀k,(Value.slice ob t.opn.length oc').ownBlock=some k→w.heap.size≤k∧k<W.heap.size:=fun k e=>⟨(hown.ty e).1,hown.ltb e⟩
 have hk:RwN (fun k=>R k∨X k) (fun k=>(if k=o then 1 else if(Value.slice ob t.opn.length oc').ownBlock=some k then 3 else 0)=2) W (.slice ka t.kids.length t.kids.length) t.kids:=by
  obtain⟨a,c,e,q⟩:=h1.kids.clip (O':=fun _=>False);rw[ek]at e;injection e with e1
  subst e1;exact((q.mono (hLX 2 (by decide)) (fun _ z=>z)).keep kW (fun _ z=>z.elim)).mono (fun _ z=>z) (fun _ z=>z.elim)
 refine⟨fun k=>(if k=o then 1 else if(Value.slice ob t.opn.length oc').ownBlock=some k then 3 else 0)≠0,⟨(ka,t.kids.length,t.kids.length),(ob,t.opn.length,oc'),.pointer pa',LO.map pV,fun k=>if k=o then 1 else if(Value.slice ob t.opn.length oc').ownBlock=some k then 3 else 0,⟨fun k q=>?_,fun k q=>PH (hlt k q.symm) hb.size,fun k q=>?_,by simp,hbox,hk,hown.z,fun k e=>?_,by rw[Qy];exact h1.ol,fun i x y p q=>?_,?_⟩,fun k=>RJ⟩,fun k q=>?_⟩
 ·by_cases e:k=o
  ·rw[e];exact hbox.lt
  ·by_cases e2:(Value.slice ob t.opn.length oc').ownBlock=some k
   ·exact(hoblt k e2).2
   ·simp[e,e2]at q
 ·have hkl:=hlt k q.symm
  have e1:k≠o:=by omega
  have e2:(Value.slice ob t.opn.length oc').ownBlock≠some k:=fun e=>by have:=(hoblt k e).1;omega
  simp only[PO e1,PO e2]
 ·have e':(Value.slice ob t.opn.length oc').ownBlock=some k:=e
  have e1:k≠o:=fun e1=>hne (by rw[←e1];exact e')
  simp only[PO e1,PZ e']
 ·rw[QL]at p
  cases hx:LO[i]? with
  | none=>rw[hx]at p;cases p
  | some x0=>
   rw[hx]at p;obtain rfl:=PT p;obtain⟨q1,q2⟩:=h1.on i x0 y hx q;refine⟨((q1.mono hRX).keep kW).wkids _,?_⟩;obtain⟨a,c,e,q3⟩:=q2.clip (O':=fun _=>False);have e2:pv (pV x0).kids=.slice a y.kids.length y.kids.length:=by
    have:=oQ e;unfold pV NV.wkids;simp only[this];rfl
   rw[e2];exact((q3.mono (hLX _ (by omega)) (fun _ z=>z)).keep kW (fun _ z=>z.elim)).mono (fun _ z=>z) (fun _ z=>z.elim)
 ·rcases h1.para with⟨z1,z2,z3⟩| ⟨z1,g,tv,z2,z3,z4⟩
  ·exact .inl ⟨z1,by rw[←hpa];exact z2,z3⟩
  ·obtain⟨hg4,hto,htb⟩:lab g=4∧ag 35 2 aR 0 w (pv tv) t.text∧ ∀k,(pv tv).ownBlock=some k→lab k=5:=by
    rcases z4 with⟨-,q⟩| ⟨q,-⟩
    ·exact q
    ·cases q
   refine .inr ⟨z1,g,tv,by rw[←hpa];exact z2,(hb.block g z3.lt).trans z3,.inr ⟨rfl,.inr ((h2 g).2 (by omega)),?_⟩⟩;exact((o9 ah hto).mono (fun k e=> .inr ((h2 k).2 (by rw[htb k e];decide)))).keep kW
 ·by_cases e:k=o
  ·omega
  ·by_cases e2:(Value.slice ob t.opn.length oc').ownBlock=some k
   ·exact(hoblt k e2).1
   ·simp[e,e2]at q
theorem BM.fin {m:Bool}{X R:Nat→Prop}{w:World}{b:Nat}{t:Bt}(h:BM m X R w b t)(ho:t.opn=[]):∃a c,(∀(i:Nat) u,(rQ t.nm (.slice a t.kids.length c))[i]? =some u→w.cell? ⟨b,i,none⟩=some u)∧NsS (fun k=>R k∨X k) w (.slice a t.kids.length c) (jY t):=by
 obtain⟨kv,ov,pa,LO,lab,h1,h2⟩:=h;obtain⟨a,c,e,hc⟩:=h1.kids.len;refine⟨a,c,fun i u hu=>?_,?_⟩
 ·rw[←e]at hu
  match i,hu with
  | 0,hu=>rw[h1.box.cell 0];exact hu
  | 1,hu=>rw[h1.box.cell 1];exact hu
  | 2,hu=>rw[h1.box.cell 2];exact hu
  | 3,hu=>rw[h1.box.cell 3];exact hu
  | 4,hu=>rw[h1.box.cell 4];exact hu
  | n+5,hu=>simp[rQ]at hu
 ·have q:=h1.kids.nss
  rw[e]at q;have eb:jY t=t.kids:=by unfold jY;rw[ho];simp[nL]
  rw[eb];exact q.mono (fun k z=>z.imp id (fun z=>(h2 k).2 (by omega)))
def Pt (w1:World)(nm:Nm)(LO:List NV)(ka:Option Addr)(kn kc on:Nat)(pa:Option Addr)(wx:World)(s:Value):Prop:=
 ∃o oa oc,s=.pointer (some ⟨o,0,none⟩)∧Below w1.heap.size w1 wx∧w1.heap.size≤o∧Blk wx o 116 (bP nm (ka,kn,kc) (oa,on,oc) (.pointer pa))∧ag 58 10 af w1.heap.size wx (.slice oa on oc) LO∧(Value.slice oa on oc).ownBlock≠some o
theorem KE {X R:Nat→Prop}{w:World}{b:Nat}{t:Bt}(h:BM true X R w b t)(hU:U8 w)(hb:btl t≤50000):
  Calls Tryz.prog 31 #[eF b] w (Lc t.nm (wz t) w):=by
 obtain⟨W1,hW1⟩:∃W,W=w.alloc (.cells ([.string ⟨#[]⟩,.string ⟨#[]⟩,.string ⟨#[]⟩,.string ⟨#[]⟩,.slice none 0 0]:List Value).toArray 38):=⟨_,rfl⟩;have b1:Below w.heap.size w W1:=by rw[hW1];exact ae _ _
 have kr:Blk W1 w.heap.size 38 [.string ⟨#[]⟩,.string ⟨#[]⟩,.string ⟨#[]⟩,.string ⟨#[]⟩,.slice none 0 0]:=by rw[hW1];exact PK w _
 have hlt:=h.lt;have hB1:=h.keep (Kp.below b1 (fun k q=>hlt k (.inl q))) (Kp.below b1 (fun k q=>hlt k (.inr q))) b1.size;have hlt1:=hB1.lt;have hsm:=fC hb;obtain⟨ka,kc,oa,oc,pa,LO,c0,c1,c2,c3,c4,c5,c6,hkc,hLl,hLv,hLk,hCP⟩:=hB1.copy;have HCL:=zH (fun W (hW:Below W1.heap.size W1 W)=>vG LO _ W (Fs.below hLv hW) (by omega));have HCP:=zH hCP;have HLL:=zH hLl;have HLK:=zH hLk;have HU:Hid (∀W,Below w.heap.size w W→U8 W):=zH (fun W hW=>hU.below hW);have hz1:W1.heap.size=w.heap.size+1:=by rw[hW1,PS]
 have HB1:=zH b1;have HKR:=zH kr;have HW1:=zH hW1;have HZ1:=zH hz1;have hbe:=fD t;have HBE:Hid (btl (bM t)≤50003):=zH (by omega);have HBT:Hid (btl t≤50000):=zH hb;obtain⟨kn,hkn⟩:∃n,t.kids.length=n:=⟨_,rfl⟩;obtain⟨on,hon⟩:∃n,t.opn.length=n:=⟨_,rfl⟩;obtain⟨nm,hnm⟩:∃n,t.nm=n:=⟨_,rfl⟩;rw[hkn]at c4 HCP hkc;rw[hon]at c5 HCL HCP HLL;rw[hnm]at c0 c1 c2 c3 HCP⊢;have HON:=zH hon;have HNM:=zH hnm;have hon9:on≤50000:=by omega
 have hblt:b<W1.heap.size:=hB1.lt b (.inl hB1.self);have HLT:Hid (∀k,(R k∨X k)→k<W1.heap.size):=zH (fun k q=>hlt1 k q.symm);clear h hU hb hW1 b1 kr hlt hB1 hlt1 hsm hCP hLl hLv hLk hz1 hbe hkn hon hnm;go_enter Tryz.func31,Tryz.ntmps31
 go_upto_region 1 with fail
 rw[←HW1.out];clear HW1;go_upto_region 3 with fail
 go_cut [3] (fun s wx=>Pt W1 nm LO ka kn kc on pa wx s)
 case first=>
  have HSX:Hid (∀W:World,Below W1.heap.size W1 W→W.cell? ⟨b,0,none⟩=some (.string ⟨nm.a.toArray⟩)∧W.cell? ⟨b,1,none⟩=some (.string ⟨nm.b.toArray⟩)∧W.cell? ⟨b,2,none⟩=some (.string ⟨nm.c.toArray⟩)∧W.cell? ⟨b,3,none⟩=some (.string ⟨nm.d.toArray⟩)∧W.cell? ⟨b,4,none⟩=some (.slice ka kn kc)∧W.cell? ⟨b,5,none⟩=some (.slice oa on oc)∧W.cell? ⟨b,6,none⟩=some (.pointer pa)):=zH (fun W hW=>⟨aC hW c0,aC hW c1,aC hW c2,aC hW c3,aC hW c4,aC hW c5,aC hW c6⟩);refine wp_region_held_drew (S:=(fun W'=>W'.cell? ⟨b,0,none⟩=some (.string ⟨nm.a.toArray⟩)∧W'.cell? ⟨b,1,none⟩=some (.string ⟨nm.b.toArray⟩)∧W'.cell? ⟨b,2,none⟩=some (.string ⟨nm.c.toArray⟩)∧W'.cell? ⟨b,3,none⟩=some (.string ⟨nm.d.toArray⟩)∧W'.cell? ⟨b,4,none⟩=some (.slice ka kn kc)∧W'.cell? ⟨b,5,none⟩=some (.slice oa on oc)∧W'.cell? ⟨b,6,none⟩=some (.pointer pa))) (by kernel_rfl) ?_ (fun hHeld=>?_)
  ·exact HSX.out _ (PG W1.heap.size W1).drew
  refine zK (i:=0) (v:=eF b) rfl ?_;simp only[zA,Act.put];refine zK (i:=1) (v:=eF b) rfl ?_;simp only[zA,Act.put];refine zK (i:=2) (v:= .pointer (some ⟨b,0,none⟩)) rfl ?_;simp only[zA,Act.put];refine zK (i:=3) (v:= .agg #[.string ⟨nm.a.toArray⟩,.string ⟨nm.b.toArray⟩,.string ⟨nm.c.toArray⟩,.string ⟨nm.d.toArray⟩,.slice ka kn kc]) rfl ?_;simp only[zA,Act.put];refine zK (i:=4) (v:=eF b) rfl ?_;simp only[zA,Act.put];refine zK (i:=5) (v:=eF b) rfl ?_;simp only[zA,Act.put];refine zK (i:=6) (v:= .pointer (some ⟨b,5,none⟩)) rfl ?_;simp only[zA,Act.put];refine zK (i:=7) (v:= .slice oa on oc) rfl ?_;simp only[zA,Act.put];refine zK (i:=9) (v:=eF b) rfl ?_;simp only[zA,Act.put];refine zK (i:=10) (v:=eF b) rfl ?_;simp only[zA,Act.put];refine zK (i:=11) (v:= .pointer (some ⟨b,6,none⟩)) rfl ?_;simp only[zA,Act.put];refine zK (i:=12) (v:= .pointer pa) rfl ?_;simp only[zA,Act.put];refine wpAnyH_ready (rs:=[8,14]) (by kernel_rfl) (by simp) ?_;refine AllReadyH.cons rfl (fun K hK=>?_) (AllReadyH.cons rfl (fun K hK=>?_) AllReadyH.nil)
  ·try simp only[zG]
   go_simp;go_at_call 61
   refine(HCL.out _ (PG W1.heap.size W1).drew).mono ?_;rintro e w2 ⟨u,rfl,ho,hb2⟩;obtain⟨ob,oc',rfl⟩:=(ag.sl ay ho).len;rw[HLL.out]at ho⊢;have hbx:Below W1.heap.size W1 w2:=(PG W1.heap.size W1).drew.trans hb2;have HBX:=zH hbx;have ho':ag 58 10 af W1.heap.size w2 (.slice ob on oc') LO:=ho;have HO:=zH ho';clear ho ho' hb2 hbx;go_wp2_with fail
   refine hK.out _ _ ?_ (fun hHeld=>?_)
   ·exact HSX.out _ HBX.out
   clear hK K
   try simp only[zA,Act.put]
   refine zK (i:=13) (v:= .agg #[.string ⟨nm.a.toArray⟩,.string ⟨nm.b.toArray⟩,.string ⟨nm.c.toArray⟩,.string ⟨nm.d.toArray⟩,.slice ka kn kc,.slice ob on oc',.pointer pa]) rfl ?_;simp only[zA,Act.put];refine wpAnyH_ready (rs:=[14]) (by kernel_rfl) (by simp) ?_;refine AllReadyH.cons rfl (fun K hK=>?_) AllReadyH.nil
   try simp only[zG]
   go_simp;refine hK.out _ _ ?_ (fun hHeld=>?_)
   ·exact HSX.out _ (HBX.out.trans ((ae w2 _).mono HBX.out.size))
   clear hK K
   try simp only[zA,Act.put]
   have kz:Blk (w2.alloc (.cells #[.string ⟨#[]⟩,.string ⟨#[]⟩,.string ⟨#[]⟩,.string ⟨#[]⟩,.slice none 0 0,.slice none 0 0,.pointer none] 116)) w2.heap.size 116 [.string ⟨#[]⟩,.string ⟨#[]⟩,.string ⟨#[]⟩,.string ⟨#[]⟩,.slice none 0 0,.slice none 0 0,.pointer none]:=PK w2 _;have z0:=kz.cell 0;have z1:=kz.cell 1;have z2:=kz.cell 2;have z3:=kz.cell 3;have z4:=kz.cell 4;have z5:=kz.cell 5;have z6:=kz.cell 6;simp only[PD,PE]at z0 z1 z2 z3 z4 z5 z6;have g0:(w2.alloc (.cells #[.string ⟨#[]⟩,.string ⟨#[]⟩,.string ⟨#[]⟩,.string ⟨#[]⟩,.slice none 0 0,.slice none 0 0,.pointer none] 116)).frozen? ⟨w2.heap.size,0,none⟩=false:=kz.frozen (by simp);have g1:(w2.alloc (.cells #[.string ⟨#[]⟩,.string ⟨#[]⟩,.string ⟨#[]⟩,.string ⟨#[]⟩,.slice none 0 0,.slice none 0 0,.pointer none] 116)).frozen? ⟨w2.heap.size,1,none⟩=false:=kz.frozen (by simp);have g2:(w2.alloc (.cells #[.string ⟨#[]⟩,.string ⟨#[]⟩,.string ⟨#[]⟩,.string ⟨#[]⟩,.slice none 0 0,.slice none 0 0,.pointer none] 116)).frozen? ⟨w2.heap.size,2,none⟩=false:=kz.frozen (by simp);have g3:(w2.alloc (.cells #[.string ⟨#[]⟩,.string ⟨#[]⟩,.string ⟨#[]⟩,.string ⟨#[]⟩,.slice none 0 0,.slice none 0 0,.pointer none] 116)).frozen? ⟨w2.heap.size,3,none⟩=false:=kz.frozen (by simp);have g4:(w2.alloc (.cells #[.string ⟨#[]⟩,.string ⟨#[]⟩,.string ⟨#[]⟩,.string ⟨#[]⟩,.slice none 0 0,.slice none 0 0,.pointer none] 116)).frozen? ⟨w2.heap.size,4,none⟩=false:=kz.frozen (by simp);have g5:(w2.alloc (.cells #[.string ⟨#[]⟩,.string ⟨#[]⟩,.string ⟨#[]⟩,.string ⟨#[]⟩,.slice none 0 0,.slice none 0 0,.pointer none] 116)).frozen? ⟨w2.heap.size,5,none⟩=false:=kz.frozen (by simp);have g6:(w2.alloc (.cells #[.string ⟨#[]⟩,.string ⟨#[]⟩,.string ⟨#[]⟩,.string ⟨#[]⟩,.slice none 0 0,.slice none 0 0,.pointer none] 116)).frozen? ⟨w2.heap.size,6,none⟩=false:=kz.frozen (by simp);have hws:=HBX.out.size;have hbz:Below W1.heap.size W1 (w2.alloc (.cells #[.string ⟨#[]⟩,.string ⟨#[]⟩,.string ⟨#[]⟩,.string ⟨#[]⟩,.slice none 0 0,.slice none 0 0,.pointer none] 116)):=HBX.out.trans ((ae w2 _).mono hws);have HBL:Hid (Below W1.heap.size W1 (w2.alloc (.cells #[.string ⟨nm.a.toArray⟩,.string ⟨nm.b.toArray⟩,.string ⟨nm.c.toArray⟩,.string ⟨nm.d.toArray⟩,.slice ka kn kc,.slice ob on oc',.pointer pa] 116))):=zH (HBX.out.trans ((ae w2 _).mono hws));have HKB:Hid (Blk (w2.alloc (.cells #[.string ⟨nm.a.toArray⟩,.string ⟨nm.b.toArray⟩,.string ⟨nm.c.toArray⟩,.string ⟨nm.d.toArray⟩,.slice ka kn kc,.slice ob on oc',.pointer pa] 116)) w2.heap.size 116 [.string ⟨nm.a.toArray⟩,.string ⟨nm.b.toArray⟩,.string ⟨nm.c.toArray⟩,.string ⟨nm.d.toArray⟩,.slice ka kn kc,.slice ob on oc',.pointer pa]):=zH (PK w2 _);have HOW:Hid (ag 58 10 af W1.heap.size (w2.alloc (.cells #[.string ⟨nm.a.toArray⟩,.string ⟨nm.b.toArray⟩,.string ⟨nm.c.toArray⟩,.string ⟨nm.d.toArray⟩,.slice ka kn kc,.slice ob on oc',.pointer pa] 116)) (.slice ob on oc') LO):=zH (HO.out.kp (fun k e=>Qk w2 _ (HO.out.ltb e)))
   have HNE:Hid ((Value.slice ob on oc').ownBlock≠some w2.heap.size):=zH (fun e=>by have:=HO.out.ltb e;omega);have HWS:=zH hws;clear kz hbz hws;refine wpAnyH_ready (rs:=[15]) (by kernel_rfl) (by simp) ?_;refine AllReadyH.cons rfl (fun K hK=>?_) AllReadyH.nil
   try simp only[zG]
   go_simp;refine hK.out _ _ ?_ (fun hHeld=>?_)
   ·exact HSX.out _ HBL.out
   clear hK K
   try simp only[zA,Act.put]
   refine Qd (by kernel_rfl) ?_ _;go_wp2_with fail
   go_meet
   exact⟨_,_,_,rfl,HBL.out,HWS.out,HKB.out,HOW.out,HNE.out⟩
  ·try simp only[zG]
   go_simp;refine hK.out _ _ ?_ (fun hHeld=>?_)
   ·exact HSX.out _ (ae W1 _).drew
   clear hK K
   try simp only[zA,Act.put]
   refine wpAnyH_ready (rs:=[8]) (by kernel_rfl) (by simp) ?_;refine AllReadyH.cons rfl (fun K hK=>?_) AllReadyH.nil
   try simp only[zG]
   go_simp;go_at_call 61
   refine(HCL.out (W1.alloc (.cells #[.string ⟨#[]⟩,.string ⟨#[]⟩,.string ⟨#[]⟩,.string ⟨#[]⟩,.slice none 0 0,.slice none 0 0,.pointer none] 116)).drew (ae W1 _).drew).mono ?_;rintro e w2 ⟨u,rfl,ho,hb2⟩;obtain⟨ob,oc',rfl⟩:=(ag.sl ay ho).len;rw[HLL.out]at ho⊢;have hz:(W1.alloc (.cells #[.string ⟨#[]⟩,.string ⟨#[]⟩,.string ⟨#[]⟩,.string ⟨#[]⟩,.slice none 0 0,.slice none 0 0,.pointer none] 116)).drew.heap.size=W1.heap.size+1:=PS _ _;have kz:Blk w2 W1.heap.size 116 [.string ⟨#[]⟩,.string ⟨#[]⟩,.string ⟨#[]⟩,.string ⟨#[]⟩,.slice none 0 0,.slice none 0 0,.pointer none]:=Blk.below (W:=(W1.alloc (.cells #[.string ⟨#[]⟩,.string ⟨#[]⟩,.string ⟨#[]⟩,.string ⟨#[]⟩,.slice none 0 0,.slice none 0 0,.pointer none] 116)).drew) (PK W1 _) hb2;have hbx:Below W1.heap.size W1 w2:=(ae W1 (.cells #[.string ⟨#[]⟩,.string ⟨#[]⟩,.string ⟨#[]⟩,.string ⟨#[]⟩,.slice none 0 0,.slice none 0 0,.pointer none] 116)).drew.trans (hb2.mono (by rw[hz];omega));have HBX:=zH hbx;have ho':ag 58 10 af (W1.heap.size+1) w2 (.slice ob on oc') LO:=by rw[←hz];exact ho
   have HO:=zH ho';have z0:=kz.cell 0;have z1:=kz.cell 1;have z2:=kz.cell 2;have z3:=kz.cell 3;have z4:=kz.cell 4;have z5:=kz.cell 5;have z6:=kz.cell 6;simp only[PD,PE]at z0 z1 z2 z3 z4 z5 z6;have g0:w2.frozen? ⟨W1.heap.size,0,none⟩=false:=kz.frozen (by simp);have g1:w2.frozen? ⟨W1.heap.size,1,none⟩=false:=kz.frozen (by simp);have g2:w2.frozen? ⟨W1.heap.size,2,none⟩=false:=kz.frozen (by simp);have g3:w2.frozen? ⟨W1.heap.size,3,none⟩=false:=kz.frozen (by simp);have g4:w2.frozen? ⟨W1.heap.size,4,none⟩=false:=kz.frozen (by simp);have g5:w2.frozen? ⟨W1.heap.size,5,none⟩=false:=kz.frozen (by simp);have g6:w2.frozen? ⟨W1.heap.size,6,none⟩=false:=kz.frozen (by simp);have HBL:Hid (Below W1.heap.size W1 (((((((w2.setCell ⟨W1.heap.size,0,none⟩ (.string ⟨nm.a.toArray⟩)).setCell ⟨W1.heap.size,1,none⟩ (.string ⟨nm.b.toArray⟩)).setCell ⟨W1.heap.size,2,none⟩ (.string ⟨nm.c.toArray⟩)).setCell ⟨W1.heap.size,3,none⟩ (.string ⟨nm.d.toArray⟩)).setCell ⟨W1.heap.size,4,none⟩ (.slice ka kn kc)).setCell ⟨W1.heap.size,5,none⟩ (.slice ob on oc')).setCell ⟨W1.heap.size,6,none⟩ (.pointer pa))):=zH ((((((((hbx.setCell (Px _) _).setCell (Px _) _).setCell (Px _) _).setCell (Px _) _).setCell (Px _) _).setCell (Px _) _).setCell (Px _) _));have HKB:Hid (Blk (((((((w2.setCell ⟨W1.heap.size,0,none⟩ (.string ⟨nm.a.toArray⟩)).setCell ⟨W1.heap.size,1,none⟩ (.string ⟨nm.b.toArray⟩)).setCell ⟨W1.heap.size,2,none⟩ (.string ⟨nm.c.toArray⟩)).setCell ⟨W1.heap.size,3,none⟩ (.string ⟨nm.d.toArray⟩)).setCell ⟨W1.heap.size,4,none⟩ (.slice ka kn kc)).setCell ⟨W1.heap.size,5,none⟩ (.slice ob on oc')).setCell ⟨W1.heap.size,6,none⟩ (.pointer pa)) W1.heap.size 116 [.string ⟨nm.a.toArray⟩,.string ⟨nm.b.toArray⟩,.string ⟨nm.c.toArray⟩,.string ⟨nm.d.toArray⟩,.slice ka kn kc,.slice ob on oc',.pointer pa]):=zH ((((((((kz.set 0 _).set 1 _).set 2 _).set 3 _).set 4 _).set 5 _).set 6 _));have HOW:Hid (ag 58 10 af W1.heap.size (((((((w2.setCell ⟨W1.heap.size,0,none⟩ (.string ⟨nm.a.toArray⟩)).setCell ⟨W1.heap.size,1,none⟩ (.string ⟨nm.b.toArray⟩)).setCell ⟨W1.heap.size,2,none⟩ (.string ⟨nm.c.toArray⟩)).setCell ⟨W1.heap.size,3,none⟩ (.string ⟨nm.d.toArray⟩)).setCell ⟨W1.heap.size,4,none⟩ (.slice ka kn kc)).setCell ⟨W1.heap.size,5,none⟩ (.slice ob on oc')).setCell ⟨W1.heap.size,6,none⟩ (.pointer pa)) (.slice ob on oc') LO):=zH (by
    refine(HO.out.kp (fun k e=>?_)).mono (Rl _);have hk:=(HO.out.ty e).1;have hne:k≠W1.heap.size:=by omega
    simp only[PN _ (⟨W1.heap.size,_,none⟩:Addr) _ k hne])
   have HNE:Hid ((Value.slice ob on oc').ownBlock≠some W1.heap.size):=zH (fun e=>by have:=(HO.out.ty e).1;omega);clear ho ho' hb2 hbx kz hz;go_wp2_with fail
   refine hK.out _ _ ?_ (fun hHeld=>?_)
   ·exact HSX.out _ HBX.out
   clear hK K
   try simp only[zA,Act.put]
   refine zK (i:=13) (v:= .agg #[.string ⟨nm.a.toArray⟩,.string ⟨nm.b.toArray⟩,.string ⟨nm.c.toArray⟩,.string ⟨nm.d.toArray⟩,.slice ka kn kc,.slice ob on oc',.pointer pa]) rfl ?_;simp only[zA,Act.put];refine wpAnyH_ready (rs:=[15]) (by kernel_rfl) (by simp) ?_;refine AllReadyH.cons rfl (fun K hK=>?_) AllReadyH.nil
   try simp only[zG]
   go_simp;refine hK.out _ _ ?_ (fun hHeld=>?_)
   ·exact HSX.out _ HBL.out
   clear hK K
   try simp only[zA,Act.put]
   refine Qd (by kernel_rfl) ?_ _;go_wp2_with fail
   go_meet
   exact⟨_,_,_,rfl,HBL.out,Px _,HKB.out,HOW.out,HNE.out⟩
 case rest=>
 obtain⟨o,ob,oc',rfl,hbx,ho,hbox,hown,hne⟩:=hcut;obtain⟨W2,hW2⟩:∃W,wc=W:=⟨_,rfl⟩;rw[hW2]at hbx hbox hown⊢;clear hW2 c0 c1 c2 c3 c4 c5 c6 HCL;have d4:=hbox.cell 4;have f4:W2.frozen? ⟨o,4,none⟩=false:=hbox.frozen (by simp[bP]);simp only[bP,pv,PD,PE]at d4;have HC4:=zH (xK ka kn kc hkc W2);have box2:=hbox.set 4 (.slice ka kn kn);have eb:(bP nm (ka,kn,kc) (ob,on,oc') (.pointer pa)).set 4 (.slice ka kn kn)=bP nm (ka,kn,kn) (ob,on,oc') (.pointer pa):=rfl;rw[eb]at box2;obtain⟨W3,hW3⟩:∃W,W2.setCell ⟨o,4,none⟩ (.slice ka kn kn)=W:=⟨_,rfl⟩;have HBX:Hid (Below W1.heap.size W1 W3):=zH (by rw[←hW3];exact hbx.setCell ho _);have HBOX:Hid (Blk W3 o 116 (bP nm (ka,kn,kn) (ob,on,oc') (.pointer pa))):=zH (by rw[←hW3];exact box2);have HOWN:Hid (ag 58 10 af W1.heap.size W3 (.slice ob on oc') (gL 0 LO)):=zH (by
  rw[BP];refine hown.kp (fun k e=>?_);rw[←hW3];exact PN _ ⟨o,4,none⟩ _ k (fun e2=>hne (by have e3:k=o:=e2;rw[←e3];exact e)))
 have HNE:=zH hne;have HO:=zH ho;have HW3:=zH hW3;have z5:=HBOX.out.cell 5;simp only[bP,pv,PD,PE]at z5;clear hbx hbox hown hne box2 eb hW3;go_wp2_with fail
 refine HC4.out.mono ?_;rintro e w4 ⟨rfl,rfl⟩;clear HC4;go_upto_region 5 with fail
 rw[HW3.out];clear HW3 d4 f4;go_wp2_with fail
 go_loopw [4,5,32] (fun _ _ i wr=> ∃j:Nat,j≤on∧i=.int .i64 (j:Int)∧Hid (Below W1.heap.size W1 wr)∧Hid (Blk wr o 116 (bP nm (ka,kn,kn) (ob,on,oc') (.pointer pa)))∧Hid (ag 58 10 af W1.heap.size wr (.slice ob on oc') (gL j LO))) (fun _ _ i _=>on-(intOf i).toNat)
 case atStart=>exact⟨0,by omega,rfl,HBX,HBOX,HOWN⟩
 case round=>
  obtain⟨j,hj,rfl,HBW,HBB,HOO⟩:=hrel;clear HBX HBOX HOWN z5
  by_cases hlt:j<on
  ·obtain⟨x,hx⟩:∃x,LO[j]? =some x:=⟨LO[j]'(by rw[HLL.out];exact hlt),Pz _⟩
   have hxk:=HLK.out j x hx;have hxj:=Ic hx;have hxs:=Ed hx;obtain⟨g,c,e,hgc,hg,cur,hcur,-⟩:=HOO.out.place ay (by rw[Ee,HLL.out];omega);injection e with e1 e2 e3
   subst e1 e3;have hoo:=HOO.out;have hgl:g<wr.heap.size:=hoo.ltb rfl;have hgo:g≠o:=fun e=>HNE.out (by rw[e];rfl)
   have hcel:∀(i:Nat) u,(af x)[i]? =some u→wr.cell? ⟨g,j*10+i,none⟩=some u∧wr.frozen? ⟨g,j*10+i,none⟩=false:=fun i u hu=>hoo.slotA ay hxj hu
   obtain⟨V1,hV1⟩:∃W,W=wr.alloc (.cells (af x).toArray 58):=⟨_,rfl⟩;have hbV:Below wr.heap.size wr V1:=by rw[hV1];exact ae _ _
   have kV:Blk V1 wr.heap.size 58 (af x):=by rw[hV1];exact PK wr _
   have boxV:=HBB.out.below hbV;have kG:=hoo.kp (W':=V1) (fun k e=>hbV.block k (hoo.ltb e));have own2:=kG.set1 ay (s':=pV x) hxj (i:=4) (u:= .slice x.kids.1 x.kids.2.1 x.kids.2.1) (by decide) rfl;rw[hxs]at own2;have z5:=boxV.cell 5;simp only[bP,pv,PD,PE]at z5;have x5:=HBB.out.cell 5;simp only[bP,pv,PD,PE]at x5;have v4:=kV.cell 4;have g4:V1.cell? ⟨g,j*10+4,none⟩=some (pv x.kids):=aC hbV (hcel 4 _ rfl).1;have e4:V1.frozen? ⟨g,j*10+4,none⟩=false:=(hbV.frozen (p:=⟨g,j*10+4,none⟩) hgl).trans (hcel 4 _ rfl).2;have HN1:Hid (Below W1.heap.size W1 (V1.drew.setCell ⟨g,j*10+4,none⟩ (.slice x.kids.1 x.kids.2.1 x.kids.2.1))):=zH ((HBW.out.trans (hbV.mono HBW.out.size)).drew.setCell hg _);have HN2:Hid (Blk (V1.drew.setCell ⟨g,j*10+4,none⟩ (.slice x.kids.1 x.kids.2.1 x.kids.2.1)) o 116 (bP nm (ka,kn,kn) (some ⟨g,0,none⟩,on,oc') (.pointer pa))):=zH (Blk.other (W:=V1.drew) boxV (fun e=>hgo e.symm) _ _);have HN3:Hid (ag 58 10 af W1.heap.size (V1.drew.setCell ⟨g,j*10+4,none⟩ (.slice x.kids.1 x.kids.2.1 x.kids.2.1)) (.slice (some ⟨g,0,none⟩) on oc') (gL (j+1) LO)):=zH (own2.kp (fun k e=>rfl));have hi0:(j:Int)<(on:Int):=by omega
   have hi1:(0:Int)≤(j:Int):=by omega
   obtain⟨xk,xl,xn,⟨t1,t2,t3⟩,⟨k1,k2,k3⟩,⟨r1,r2,r3⟩,xc,⟨q1,q2,q3⟩,xb,xa⟩:=x;simp only[af,pv,PD,PE]at hcel hV1 kV v4 g4 HN1 HN2 HN3 hxk;have HC:=zH (xK k1 k2 k3 hxk V1.drew);have s0:=(hcel 0 _ rfl).1;have s1:=(hcel 1 _ rfl).1;have s2:=(hcel 2 _ rfl).1;have s3:=(hcel 3 _ rfl).1;have s4:=(hcel 4 _ rfl).1;have s5:=(hcel 5 _ rfl).1;have s6:=(hcel 6 _ rfl).1;have s7:=(hcel 7 _ rfl).1;have s8:=(hcel 8 _ rfl).1;have s9:=(hcel 9 _ rfl).1
   try simp only[Qr]at s0
   have HV1:=zH hV1;have HVO:Hid (wr.heap.size≠g∧o≠g):=zH ⟨by omega,fun e=>hgo e.symm⟩;clear hx hxk hxj hxs hgc hg hcur hoo hgl hgo hcel hbV kV boxV kG own2 hV1 HBW HBB HOO e2;go_upto_region 8 with fail
   rw[←HV1.out];clear HV1 x5 s0 s1 s2 s3 s4 s5 s6 s7 s8 s9;refine wp_region_held_drew (S:=(fun W'=>W'.cell? ⟨o,5,none⟩=some (.slice (some ⟨g,0,none⟩) on oc')∧W'.cell? ⟨wr.heap.size,4,none⟩=some (.slice k1 k2 k3))) (by kernel_rfl) ?_ (fun hHeld=>?_)
   ·exact⟨z5,v4⟩
   refine zK (i:=0) (v:= .pointer (some ⟨o,5,none⟩)) rfl ?_;simp only[zA,Act.put];refine zK (i:=1) (v:= .slice (some ⟨g,0,none⟩) on oc') rfl ?_;simp only[zA,Act.put];refine zK (i:=2) (v:= .int .i64 (j:Int)) rfl ?_;simp only[zA,Act.put];refine zK (i:=3) (v:= .pointer (some ⟨wr.heap.size,4,none⟩)) rfl ?_;simp only[zA,Act.put];refine zK (i:=4) (v:= .slice k1 k2 k3) rfl ?_;simp only[zA,Act.put];refine wpAnyH_ready (rs:=[5]) (by kernel_rfl) (by simp) ?_;refine AllReadyH.cons rfl (fun K hK=>?_) AllReadyH.nil
   try simp only[zG]
   go_simp;go_at_call 62
   refine HC.out.mono ?_;rintro e w6 ⟨rfl,rfl⟩;go_wp2_with fail
   refine hK.out _ _ ?_ (fun hHeld=>?_)
   ·exact⟨z5,v4⟩
   clear hK K
   try simp only[zA,Act.put]
   refine zK (i:=6) (v:= .pointer (some ⟨g,j*10,none⟩)) rfl ?_;simp only[zA,Act.put];refine zK (i:=7) (v:= .pointer (some ⟨g,j*10+4,none⟩)) rfl ?_;simp only[zA,Act.put];refine wpAnyH_ready (rs:=[8]) (by kernel_rfl) (by simp) ?_;refine AllReadyH.cons rfl (fun K hK=>?_) AllReadyH.nil
   try simp only[zG]
   go_simp;refine hK.out _ _ ?_ (fun hHeld=>?_)
   ·exact⟨(aM (PN V1 ⟨g,_,none⟩ _ o (fun e=>HVO.out.2 e))).trans z5,(aM (PN V1 ⟨g,_,none⟩ _ wr.heap.size (fun e=>HVO.out.1 e))).trans v4⟩
   clear hK K
   try simp only[zA,Act.put]
   refine Qd (by kernel_rfl) ?_ _;go_wp2_with fail
   go_roundw
   case rel=>exact⟨j+1,by omega,by go_num,HN1,HN2,HN3⟩
   case measure=>(simp[intOf];try omega)
  ·obtain rfl:j=on:=by omega
   have hlt':¬(j:Int)<(j:Int):=by omega
   have hoo:=HOO.out;rw[←HLL.out,Ef,HLL.out]at hoo;obtain⟨X2,hB2,hX2⟩:=HCP.out wr o ob oc' HBW.out HO.out HBB.out hoo HNE.out;have HEN:=zH (jX hB2 (by have:=HBT.out;omega));have HW1R:=zH HBW.out;have HX2:=zH hX2;clear hoo hB2 hX2 HBW HBB HOO;go_wp2_with fail
   refine HEN.out.mono ?_;rintro e w5 ⟨rfl,X3,R3,hB3,hE3,hX3,hR3⟩;have HCT:=zH (lC hB3 0 (by have:=HBE.out;omega) (by omega));simp only[Int.natCast_zero,Int.cast_ofNat_Int,Nat.sub_zero]at HCT;have HB5:Hid (Below W1.heap.size W1 w5∧wr.heap.size≤w5.heap.size):=zH ⟨HW1R.out.trans (hE3.below HW1R.out.size (fun k q z=>by have:=HX2.out k z;omega)),hE3.size⟩;have HX3:Hid (∀k,X3 k→W1.heap.size≤k):=zH (fun k q=>(hX3 k q).elim (HX2.out k) (fun z=>PY HW1R.out.size z));clear hB3 hE3 hX3 hR3 HEN;go_wp2_with fail
   refine HCT.out.mono ?_;rintro e w6 ⟨rfl,X4,R4,hB4,hE4,hX4,hR4⟩;have hsp:=uu (bM t).opn.length (bM t);have hall:=Am (bM t).opn.length (bM t);have hnl:=uw (bM t).opn.length (bM t);have hbl:=uy (bM t).opn.length (bM t);obtain⟨tz,htz⟩:∃q,jP (bM t).opn.length (bM t)=q:=⟨_,rfl⟩;rw[htz]at hB4 hsp hall hnl hbl;have hoz:tz.opn=[]:=Qj (by omega);have hnz:tz.nm=nm:=by
    rw[hsp.1,←HNM.out];unfold bM mI
    split
    ·rfl
    ·exact(qy t _).1
   obtain⟨fa,fc,hcells,hns⟩:=hB4.fin hoz;rw[hnz]at hcells;have hb6:Below W1.heap.size W1 w6:=HB5.out.1.trans (hE4.below HB5.out.1.size (fun k q z=>by have:=HX3.out k z;omega));have hbw:Below w.heap.size w w6:=HB1.out.trans (hb6.mono HB1.out.size);have hlt4:=hB4.lt;have hdoc:wz t=zV (jY tz):=by unfold wz;rw[←hall]
   have hnlz:nlL (jY tz)≤60000:=by
    have h1:=MU tz;have h2:=HBE.out;omega
   have HTD:=zH (Gf (fun k=>R4 k∨X4 k) nm (jY tz) (.slice fa tz.kids.length fc) w6 (HU.out _ hbw) hnlz hns (fun k q=>hlt4 k q.symm));rw[←hdoc]at HTD;have kr:=HKR.out.below (W':=w6) (hb6.mono (Px _));have hwz:w.heap.size<W1.heap.size:=by rw[HZ1.out];omega
   have HKR6:=zH kr;have HBW6:=zH hbw;have x0:=hcells 0 _ rfl;have x1:=hcells 1 _ rfl;have x2:=hcells 2 _ rfl;have x3:=hcells 3 _ rfl;have x4:=hcells 4 _ rfl;obtain⟨tn,htn⟩:∃n,tz.kids.length=n:=⟨_,rfl⟩;rw[htn]at HTD x4;unfold rP rQ at HTD;clear hB4 hE4 hX4 hR4 hsp hall hnl hbl htz hoz hnz hcells hns hb6 hbw hlt4 hdoc hnlz kr htn HCT;go_wp2_with fail
   refine HTD.out.mono ?_;rintro e w7 ⟨⟨s1,s2,s3⟩,rfl,hs,hb7⟩;unfold rP rQ;simp only[pv]at hs⊢;have kr7:=HKR6.out.below hb7;have z0:=kr7.cell 0;have z1:=kr7.cell 1;have z2:=kr7.cell 2;have z3:=kr7.cell 3;have z4:=kr7.cell 4;simp only[PD,PE]at z0 z1 z2 z3 z4;have f0:w7.frozen? ⟨w.heap.size,0,none⟩=false:=kr7.frozen (by simp);have f1:w7.frozen? ⟨w.heap.size,1,none⟩=false:=kr7.frozen (by simp);have f2:w7.frozen? ⟨w.heap.size,2,none⟩=false:=kr7.frozen (by simp);have f3:w7.frozen? ⟨w.heap.size,3,none⟩=false:=kr7.frozen (by simp);have f4:w7.frozen? ⟨w.heap.size,4,none⟩=false:=kr7.frozen (by simp);have hb7w:Below w.heap.size w w7:=HBW6.out.trans (hb7.mono HBW6.out.size);have hs67:=HBW6.out.size;have hs16:W1.heap.size≤w6.heap.size:=by have:=HKR6.out.lt;have:=HZ1.out;omega
   obtain⟨F,hF⟩:∃F,((((w7.setCell ⟨w.heap.size,0,none⟩ (.string ⟨nm.a.toArray⟩)).setCell ⟨w.heap.size,1,none⟩ (.string ⟨nm.b.toArray⟩)).setCell ⟨w.heap.size,2,none⟩ (.string ⟨nm.c.toArray⟩)).setCell ⟨w.heap.size,3,none⟩ (.string ⟨nm.d.toArray⟩)).setCell ⟨w.heap.size,4,none⟩ (.slice s1 s2 s3)=F:=⟨_,rfl⟩;have kF:Blk F w.heap.size 38 [.string ⟨nm.a.toArray⟩,.string ⟨nm.b.toArray⟩,.string ⟨nm.c.toArray⟩,.string ⟨nm.d.toArray⟩,.slice s1 s2 s3]:=by
    rw[←hF];exact((((kr7.set 0 _).set 1 _).set 2 _).set 3 _).set 4 _
   have HFIN:Hid (Lc nm (wz t) w (.returned (.agg #[.string ⟨nm.a.toArray⟩,.string ⟨nm.b.toArray⟩,.string ⟨nm.c.toArray⟩,.string ⟨nm.d.toArray⟩,.slice s1 s2 s3])) F):=zH (by
    have hFs:F.heap.size=w7.heap.size:=by rw[←hF];simp only[gH]
    refine⟨(s1,s2,s3),rfl,(hs.keep (fun k q=>?_)).mono (fun k q=>⟨by omega,by rw[hFs];exact q.2⟩),?_⟩
    ·have hne:k≠w.heap.size:=by have:=HKR6.out.lt;omega
     rw[←hF];simp only[PN _ (⟨w.heap.size,_,none⟩:Addr) _ k hne]
    ·rw[←hF]
     exact((((hb7w.setCell (Px _) _).setCell (Px _) _).setCell (Px _) _).setCell (Px _) _).setCell (Px _) _)
   have HKF:=zH kF;have HFF:=zH hF;clear hs kr7 hb7 hb7w hs67 hs16 kF hF HTD x0 x1 x2 x3 x4;go_wp2_with fail
   rw[HFF.out];have e0:=HKF.out.cell 0;have e1:=HKF.out.cell 1;have e2:=HKF.out.cell 2;have e3:=HKF.out.cell 3;have e4:=HKF.out.cell 4;simp only[PD,PE]at e0 e1 e2 e3 e4;refine Qi (v:= .agg #[.string ⟨nm.a.toArray⟩,.string ⟨nm.b.toArray⟩,.string ⟨nm.c.toArray⟩,.string ⟨nm.d.toArray⟩,.slice s1 s2 s3]) (by simp[results,Tryz.results31,go_sem,e0,e1,e2,e3,e4]) rfl ?_;exact HFIN.out
end
theorem Exc.exq {X:Nat→Prop}{w w':World}(h:Exc X w w'):Exq X w w':=⟨h.os,h.tape,h.output,h.size,h.block⟩
abbrev BIM:BIT:=fun X R w b t=>BM true X R w b t
theorem AfC.aft {X R S:Nat→Prop}{b:Nat}{t':Bt}{w w':World}(h:AfC true X R b t' w w'):Aft BIM X R S w b t' w':=by
 obtain⟨X',R',h1,h2,h3,h4⟩:=h;exact⟨X',R',h1,h2.exq,h3,fun k q=>(h4 k q).imp id (fun z=> .inr z)⟩
theorem Ej:bu BIM U8 where
 lt:=fun h=>h.lt
 keep:=fun h hX hR hs=>h.keep hX hR hs
 sep:=fun h=>h.sep
 more:=fun h h1 h2=>BM.more h h1 h2
 new:=fun w=>(KD w).mono fun e w' ⟨h1,h2,h3⟩=>⟨_,_,h1,h2,h3,fun k q=>Rw q.symm⟩
 title:=fun n0 n1 n2 n3 h _=>(El h ⟨n0,n1,n2,n3⟩).mono fun e w' ⟨h1,h2,h3⟩=>⟨h1,_,_,h2,h3.exq,fun k q=> .inl q,fun k q=> .inl q⟩
 opn:=fun h _ hx hS hb=>(Ik h hx hS (by omega)).mono fun e w' ⟨h1,h2⟩=>⟨h1,h2.aft⟩
 add:=fun h _ hx hS hb=>(KF h hx hS (by omega)).mono fun e w' ⟨h1,h2⟩=>⟨h1,h2.aft⟩
 close:=fun k h _ hb=>(Eo h k (by omega)).mono fun e w' ⟨h1,h2⟩=>⟨h1,h2.aft⟩
 shut:=fun K h _ hv hS hK hb=>(Ij h K _ hv hS (by omega) (by omega)).mono fun e w' ⟨h1,h2⟩=>⟨h1,h2.aft⟩
 text:=fun g i h _ hv hS hb=>(Ii h g i hv hS (by omega)).mono fun e w' ⟨h1,h2⟩=>⟨h1,h2.aft⟩
 nd:=fun h _ hb=>(jX h (by omega)).mono fun e w' ⟨h1,h2⟩=>⟨h1,h2.aft⟩
 depth:=fun h _=>(lw h).mono fun e w' ⟨h1,h2⟩=>⟨h1,by rw[←h2];exact PG _ _⟩
 doc:=fun h hT hb=>(KE h hT (by omega)).mono fun e w' ⟨s,h1,h2,h3⟩=>⟨s,h1,h2,h3⟩
 tb:=fun h hb=>h.below hb
end Go.Proofs.YtebabjnngdjceaaGreatDoor

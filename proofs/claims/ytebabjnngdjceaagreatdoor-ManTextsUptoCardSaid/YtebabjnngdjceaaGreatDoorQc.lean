/- The program's own for documents: which signs tell columns. -/
import Derived.Test.YtebabjnngdjceaaGreatDoorY3
import Derived.Test.YtebabjnngdjceaaGreatDoorQ9
import Derived.Test.YtebabjnngdjceaaGreatDoorBs
import Derived.Laws.RangeAny
import Derived.Lib.TrimAscii
import Derived.Lib.TrimU
import Derived.Test.YtebabjnngdjceaaGreatDoorZ0
set_option linter.unusedVariables false
set_option linter.unusedSimpArgs false
set_option maxRecDepth 100000
namespace Go.Proofs.YtebabjnngdjceaaGreatDoor
open Go.RowKit
section
open Go.RowKit Go.Lib
def AP (x:Int):Bool:=x==108 || x==99 || x==114
def jd (x:Int):Int:=if AP x then x else-1
theorem uF (b:UInt8):AP (b.toNat:Int)=side b:=by
 unfold AP side;have e: ∀k:UInt8,((b.toNat:Int)==(k.toNat:Int))=(b==k):=fun k=>by
  rw[Bool.eq_iff_iff];simp only[QB]
  constructor
  ·intro h
   have h':b.toNat=k.toNat:=by omega
   exact Qt.1 h'
  ·rintro rfl;rfl
 rw[←e 108,←e 99,←e 114];rfl
theorem AO {x:Int} (h:128≤x):AP x=false:=by
 unfold AP;have h1:(x==108)=false:=by simp;omega
 have h2:(x==99)=false:=by simp;omega
 have h3:(x==114)=false:=by simp;omega
 rw[h1,h2,h3];rfl
theorem vW {b:UInt8} (h:128≤b.toNat):side b=false:=by rw[←uF];exact AO (by omega)
theorem iF {b:UInt8} (h:b.toNat / 64=2):side b=false:=vW (by omega)
theorem Gl (b:UInt8) (t:List UInt8) (h:128≤b.toNat):(b::t).filter side=((b::t).drop (decodeL (b::t)).2).filter side:=by
 have hb:=vW h;rw[decodeL_N];rcases decodeN_shape (b::t).length ((b::t).getD 0 0).toNat ((b::t).getD 1 0).toNat ((b::t).getD 2 0).toNat ((b::t).getD 3 0).toNat with⟨c,e⟩| ⟨c1,c2,c3,cv,e⟩| ⟨c1,c2,c3,c4,cv,cs,e⟩| ⟨c1,c2,c3,c4,c5,cv,cw,e⟩| e
 ·exfalso
  have:((b::t).getD 0 0)=b:=rfl;rw[this]at c;omega
 ·rw[e]
  rcases t with _ | ⟨x1,t⟩
  ·simp at c2
  ·have k1:side x1=false:=iF c3
   simp[hb,k1]
 ·rw[e]
  rcases t with _ | ⟨x1,_ | ⟨x2,t⟩⟩
  ·simp at c2
  ·simp at c2
  ·have k1:side x1=false:=iF c3
   have k2:side x2=false:=iF c4;simp[hb,k1,k2]
 ·rw[e]
  rcases t with _ | ⟨x1,_ | ⟨x2,_ | ⟨x3,t⟩⟩⟩
  ·simp at c2
  ·simp at c2
  ·simp at c2
  ·have k1:side x1=false:=iF c3
   have k2:side x2=false:=iF c4;have k3:side x3=false:=iF c5;simp[hb,k1,k2,k3]
 ·rw[e]
  simp[hb]
theorem yE (b:UInt8) (t:List UInt8) (h:128≤b.toNat):128≤(decodeL (b::t)).1:=
 (decode_high ⟨(b::t).toArray⟩ 0 (by simp[Go.Lib.size_eq]) (by exact h)).1
theorem ug: ∀(n:Nat) (l:List UInt8),l.length≤n→mapD jd l=l.filter side
 | _,[],_=>rfl
 | 0,_::_,h=>by simp at h
 | n+1,b::t,h=>by
  rw[mapD_step jd (b::t) (by simp)]
  by_cases ha:b.toNat<128
  ·rw[decodeL_ascii b t ha]
   simp only[List.drop_succ_cons,Qs];rw[ug n t (by simpa using h)]
   by_cases hs:side b=true
   ·have hk:jd (b.toNat:Int)=(b.toNat:Int):=by unfold jd;rw[uF,hs];rfl
    have henc:=encode_decode (b::t) (by simp) (by rw[decodeL_ascii b t ha];simp;omega);rw[decodeL_ascii b t ha]at henc;rw[hk,Pk (by omega),Q5 hs,henc];rfl
   ·have hs':side b=false:=by simpa using hs
    have hk:jd (b.toNat:Int)= -1:=by unfold jd;rw[uF,hs'];rfl
    rw[hk,Pd (by decide),QL hs];rfl
  ·have hh:=yE b t (by omega)
   have hk:jd ((decodeL (b::t)).1:Int)= -1:=by unfold jd;rw[AO (by omega)];rfl
   have hw:=decodeL_width (b::t);rw[hk,Pd (by decide),Qa,ug n _ (by rw[Pi];simp only[Pe]at h ⊢;omega),←Gl b t (by omega)]
theorem zO (x:Int) (w:World):Calls Tryz.prog 200 #[.int .i32 x] w fun e w'=>e= .returned (.bool (AP x))∧w=w':=by
 unfold AP
 by_cases h1:x=108
 ·subst h1
  go_enter Tryz.func200,Tryz.ntmps200
  go_wp2_with fail
  go_ret;exact⟨rfl,rfl⟩
 ·have n1:(x==108)=false:=by simpa using h1
  by_cases h2:x=99
  ·subst h2
   clear h1;go_enter Tryz.func200,Tryz.ntmps200
   go_wp2_with fail
   go_ret;exact⟨rfl,rfl⟩
  ·have n2:(x==99)=false:=by simpa using h2
   rw[n1,n2];obtain⟨p,hp⟩: ∃p,(x==114)=p:=⟨_,rfl⟩;rw[hp];clear h1 h2;go_enter Tryz.func200,Tryz.ntmps200
   go_wp2_with fail
   go_ret;exact⟨rfl,rfl⟩
theorem E9 (x:Int) (w:World):Calls Tryz.prog 199 #[.int .i32 x] w fun e w'=>e= .returned (.int .i32 (jd x))∧w=w':=by
 have H:=zH (zO x w);unfold jd;obtain⟨p,hp⟩: ∃p,AP x=p:=⟨_,rfl⟩;rw[hp]at H ⊢;clear hp
 cases p
 ·rw[Pd (by simp)]
  go_enter Tryz.func199,Tryz.ntmps199
  go_wp2_with fail
  refine H.out.mono ?_;rintro e w1 ⟨rfl,rfl⟩;go_wp2_with fail
  go_ret;exact⟨rfl,rfl⟩
 ·rw[Pk rfl]
  go_enter Tryz.func199,Tryz.ntmps199
  go_wp2_with fail
  refine H.out.mono ?_;rintro e w1 ⟨rfl,rfl⟩;go_wp2_with fail
  go_ret;exact⟨rfl,rfl⟩
theorem Cx (x:Int) (h0:0≤x) (h1:x≤1114111): -2147483648≤jd x∧jd x≤2147483647:=by
 unfold jd
 split<;>omega
theorem xK (l:List UInt8) (w:World) (hU:U8 w) (hl:l.length≤90000):Calls Tryz.prog 201 #[.func (.func 199) #[] #[],.string ⟨l.toArray⟩] w fun e w'=>e= .returned (.string ⟨(l.filter side).toArray⟩)∧Below w.heap.size w w':=by
 have hsz:(⟨l.toArray⟩:ByteArray).size=l.length:=by simp[Go.Lib.size_eq]
 have h:=Ht 199 #[] (enters_of Tryz.func199 (by kernel_rfl) rfl) jd ⟨l.toArray⟩ w (by rw[hsz];omega) (fun W x _ _=>(E9 (x:Int) W).mono fun e w' ⟨he,hw⟩=>⟨he,hw▸OX _ _⟩) (fun x hx=>Cx _ (by omega) (by omega)) hU;have e:(⟨l.toArray⟩:ByteArray).data.toList=l:=rfl;rw[e,ug l.length l (OW _)]at h;exact h
attribute [local go_sem ↓ high] iH gu l7
theorem xL (c:List UInt8) (w:World) (hU:U8 w) (hl:c.length≤90000):Calls Tryz.prog 165 #[.string ⟨c.toArray⟩] w fun e w'=>e= .returned (.string ⟨(jc c).toArray⟩)∧Below w.heap.size w w':=by
 have HM:=zH (xK c w hU hl);have hfl:(c.filter side).length≤c.length:=List.length_filter_le _ _;unfold jc;obtain⟨F,hF⟩: ∃F,c.filter side=F:=⟨_,rfl⟩;rw[hF]at HM hfl ⊢;have q1:=LA F [];have hFl:(⟨F.toArray⟩:ByteArray).size=F.length:=by simp[Go.Lib.size_eq]
 clear hF hU
 by_cases he:F=[]
 ·rw[Qg he]at q1
  subst he;rw[show(if([]:List UInt8).take 20=[] then([108]:List UInt8) else([]:List UInt8).take 20)=[108] from rfl];go_enter Tryz.func165,Tryz.ntmps165
  go_wp2_with fail
  refine HM.out.mono ?_;rintro e w1 ⟨rfl,b1⟩;have B1:=zH b1;clear b1 HM;go_wp2_with fail
  go_ret;exact⟨rfl,B1.out⟩
 ·rw[Px he]at q1
  have hne: ¬F.take 20=[]:=fun h=>he (by
   cases F with
   | nil=>rfl
   | cons x l=>simp at h)
  rw[Pd hne];have mm:=xW (F.length:Int) 20 ((min F.length 20:Nat):Int) (by split<;>omega);have hsl: ∀W:World,(Instr.slice 9 (.string ⟨F.toArray⟩) none (some (.int .i64 ((min F.length 20:Nat):Int))) none).run Tryz.prog W= .ok (.string ⟨(F.take 20).toArray⟩) W:=fun W=>by
   rw[run_slice_string_h W 9 _ Tryz.underlying9 .i64 _ (by omega) (by rw[hFl];omega)];have e:(⟨F.toArray⟩:ByteArray).extract 0 ((min F.length 20:Nat):Int).toNat=⟨(F.take 20).toArray⟩:=by
    rw[ByteArray.extract_mk];simp only[QS];have e2:F.take (min F.length 20)=F.take 20:=by
     by_cases h:F.length≤20
     ·rw[Rc h,PG,Pz h]
     ·rw[Nat.min_eq_right (by omega)]
    simp[e2]
   rw[e]
  clear he hne;go_enter Tryz.func165,Tryz.ntmps165
  go_wp2_with fail
  refine HM.out.mono ?_;rintro e w1 ⟨rfl,b1⟩;have B1:=zH b1;clear b1 HM;go_wp2_with fail
  go_ret;exact⟨rfl,B1.out⟩
end
end Go.Proofs.YtebabjnngdjceaaGreatDoor

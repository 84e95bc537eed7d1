/- The walk of ManTexts. The walk of ManHeads: the document's answer Heads, and the rows that the law makes. The walk of ManTexts: its loops. What ManVerbs asks: its rows. The walk of ManVerbs. -/
import Derived.Test.YtebabjnngdjceaaGreatDoorYt
import Derived.Test.YtebabjnngdjceaaGreatDoorS3
import Derived.Test.YtebabjnngdjceaaGreatDoorHa
import Derived.Deep.RegionWith
import Derived.Deep.RegionLaw
import Derived.Test.YtebabjnngdjceaaGreatDoorC1
import Derived.Test.YtebabjnngdjceaaGreatDoorH1
import Derived.Test.YtebabjnngdjceaaGreatDoorE1
import Derived.Deep.RegionHeld3
import Derived.IntWalk
import Derived.Deep.DeepCutAuto
import Derived.StillTailTactics
import Derived.Test.YtebabjnngdjceaaGreatDoorH5
import Derived.Test.YtebabjnngdjceaaGreatDoorC5
import Derived.Test.YtebabjnngdjceaaGreatDoorKK
import Derived.Test.YtebabjnngdjceaaGreatDoorH2
import Derived.Test.YtebabjnngdjceaaGreatDoorQg
import Derived.Test.YtebabjnngdjceaaGreatDoorY5
import Derived.Test.YtebabjnngdjceaaGreatDoorZ0
set_option linter.unusedVariables false
set_option linter.unusedSimpArgs false
set_option maxRecDepth 100000
set_option maxHeartbeats 16000000
namespace Go.Proofs.YtebabjnngdjceaaGreatDoor
open Go.RowKit
def pO (l:List Txt):Nat:=(l.map List.length).sum
theorem BD (l:List Txt) (t:Txt):pO (l++ [t])=pO l+t.length:=by simp[pO]
theorem pM: ∀l:List Txt,pO l+l.length=lnT l
 | []=>rfl
 | t::l=>by
  have:=pM l;rw[iQ,←this,List.length_cons];simp only[pO,List.map_cons,List.sum_cons];omega
theorem BA (l:List Txt) (j:Nat):pO (l.take j)≤lnT l:=by
 have h1:=pM (l.take j);have h2:=qF l j;omega
noncomputable def rH (args:Array Value):Sem Next:=do pure (.value (←Builtin.append_ #[25,25] 25 args))
theorem lJ (cs:Array Bool) (args:Array Value):builtin .append #[25,25] 25 cs args=rH args:=rfl
theorem Dz {W W':World} {args:Array Value} {v:Value} (h:(Builtin.append_ #[25,25] 25 args).run Tryz.prog W= .ok v W'):(rH args).run Tryz.prog W= .ok (.value v) W':=by
 unfold rH;simp[Sem.run_bind,h]
attribute [irreducible] rH
abbrev HV:=Int×Int×(Option Addr×Nat×Nat)
def hcell (r:HV):List Value:=[.int .i64 r.1,.int .i64 r.2.1,aL r.2.2]
def hpl (L:List HV):List (Int×Int):=L.map fun x=>(x.1,x.2.1)
noncomputable def KC (args:Array Value):Sem Next:=do pure (.value (←Builtin.append_ #[48,48] 48 args))
attribute [irreducible] KC
def I6:Row:=(1,[84,72],[[120]],[])
def lead:List Bool→Nat
 | true::l=>lead l+1
 | _=>0
theorem BS {base:Nat} {W:World} (hb:base≤W.heap.size) (y z:Row) (a b:Option Addr×Nat×Nat) (hA:ic base W (aL a) y.2.2.1) (hB:ic base W (aL b) z.2.2.1) (C:Array Value) (hC:C=(ah (y.1,y.2.1,a,y.2.2.2)++ah (z.1,z.2.1,b,z.2.2.2)).toArray):
  bY base (W.alloc (.cells C 33)) (.slice (some ⟨W.heap.size,0,none⟩) 2 2) [y,z]:=by
 have b1:=af W (.cells C 33);refine⟨[(y.1,y.2.1,a,y.2.2.2),(z.1,z.2.1,b,z.2.2.2)],?_,?_⟩
 ·have:=gT (e:=33) gD W hb [(y.1,y.2.1,a,y.2.2.2),(z.1,z.2.1,b,z.2.2.2)] (show(2:Nat)≤maxLen from by decide)
  rw[dD,dA,←hC]at this;exact this
 ·exact((jC.nil _).snoc (x:=(y.1,y.2.1,a,y.2.2.2)) (y:=y) ⟨rfl,rfl,rfl,hA.keep b1⟩).snoc (x:=(z.1,z.2.1,b,z.2.2.2)) (y:=z) ⟨rfl,rfl,rfl,hB.keep b1⟩
section
theorem wB {base:Nat} {W:World} {rv:Value} {l:List Row} (h:bY base W rv l) (hb:base≤W.heap.size) (hl:l.length≤500000) (y:Row) (a:Option Addr×Nat×Nat) (hA:ic base W (aL a) y.2.2.1):
  ∃a' c' w3,(rH #[rv,.slice (some ⟨W.heap.size,0,none⟩) 1 1]).run Tryz.prog (W.alloc (.cells (ah (y.1,y.2.1,a,y.2.2.2)).toArray 33))= .ok (.value (.slice a' (l++ [y]).length c')) w3∧bY base w3 (.slice a' (l++ [y]).length c') (l++ [y])∧
   (∀{α:Type} {e n base':Nat} {f:α→List Value} {x:Value} {m:List α},ag e n f base' W x m→e≠33→ag e n f base' w3 x m)∧Below base W w3∧W.heap.size≤w3.heap.size:=by
 obtain⟨v',w3,hr,ho,hg,hw⟩:=h.push hb hl y a hA _ rfl;obtain⟨a',c',rfl⟩:=ho.sl.len;have bl:=af W (.cells (ah (y.1,y.2.1,a,y.2.2.2)).toArray 33);refine⟨a',c',w3,Dz hr,ho,fun hx he=>?_,?_,by have:=hg.size;simp only[World.size_alloc]at this;omega⟩
 ·obtain⟨LL,hL,-⟩:=h
  exact ag.apart (ag.keep hx bl) hg (df (ag.keep hx bl) (ag.keep hL bl) he)
 ·obtain⟨LL,hL,-⟩:=h
  exact(ag.keep hL bl).below (bl.mono hb) (by simp only[World.size_alloc];omega) hg
attribute [local go_sem ↓ high] dE lJ
end
def I7:Row:=(2,[69,88],[],[])
def iy:Row:=(90,[69,69],[],[])
def vbQ:Nat→List Txt→List (Int×Txt)
 | _,[]=>[]
 | i,t::l=>((3+i:Nat),t)::vbQ (i+1) l
theorem vP: ∀(i:Nat) (l:List Txt) (t:Txt),vbQ i (l++ [t])=vbQ i l++ [(((3+(i+l.length):Nat):Int),t)]
 | i,[],t=>by simp[vbQ]
 | i,a::l,t=>by
  have:=vP (i+1) l t;simp only[List.cons_append,vbQ,this,List.length_cons];rw[show i+1+l.length=i+(l.length+1) by omega]
theorem uj: ∀(i:Nat) (l:List Txt),(vbQ i l).length=l.length
 | i,[]=>rfl
 | i,a::l=>by simp[vbQ,uj (i+1) l]
theorem ui: ∀(i:Nat) (l:List Txt),(vbQ i l).map Prod.snd=l
 | i,[]=>rfl
 | i,a::l=>by simp[vbQ,ui (i+1) l]
def I5 (q:Int×Txt):Row:=(q.1,[],[],q.2)
def vbR (l:List Txt):List Row:=I6::I7::(vbQ 0 l).map I5
theorem Ak (l:List Txt):(vbR l).length=2+l.length:=by simp[vbR,uj];omega
theorem DW (l:List Txt) (t:Txt):vbR (l++ [t])=vbR l++ [(((3+l.length:Nat):Int),[],[],t)]:=by
 unfold vbR;rw[vP,Nat.zero_add];simp[I5]
theorem DX (l:List Txt):(vbR l++ [iy]).map toM=⟨1,mTH,[[120]],[]⟩::⟨2,mEX,[],[]⟩::((vbQ 0 l).map fun q=>(⟨q.1,[],[],q.2⟩:aQ))++ [⟨90,mEE,[],[]⟩]:=by
 unfold vbR;simp only[List.map_cons,List.map_append,List.map_map,List.cons_append,List.map_nil];rfl
theorem Gw (l:List Txt) (hl:l≠ []):nU (di I9 ((vbR l++ [iy]).map toM)).b=[Nd.mk ⟨6,2,0,[],l.map fun t=>(lgF t).1,aX⟩ []]:=by
 rw[DX];have h:=uU J5 J6 (vbQ 0 l) (by
  intro e;have:=uj 0 l;rw[e]at this;exact hl (List.eq_nil_of_length_eq_zero this.symm)) 1 90 2 (by omega) (by omega) [120]
 rw[h];have e:((vbQ 0 l).map fun q=>(lgF q.2).1)=l.map fun t=>(lgF t).1:=by
  conv=>rhs;rw[←ui 0 l]
  rw[List.map_map];rfl
 rw[e]
theorem Gy (i:Nat) (l:List Txt) (q:Int×Txt) (h:q∈vbQ i l):q.2∈l:=by
 have:=List.mem_map_of_mem (f:=Prod.snd) h
 rwa [ui]at this
theorem Gx {l:List Txt} {r:aQ} (h:r∈(vbR l++ [iy]).map toM):r=⟨1,mTH,[[120]],[]⟩∨r=⟨2,mEX,[],[]⟩∨r=⟨90,mEE,[],[]⟩∨ ∃(ln:Int) (t:Txt),t∈l∧r=⟨ln,[],[],t⟩:=by
 rw[DX]at h;simp only[List.cons_append,List.mem_cons,List.mem_append,List.mem_map,List.not_mem_nil,or_false]at h;rcases h with h | h | ⟨q,hq,h⟩| h
 ·exact .inl h
 ·exact .inr (.inl h)
 ·exact .inr (.inr (.inr ⟨q.1,q.2,Gy 0 l q hq,h.symm⟩))
 ·exact .inr (.inr (.inl h))
theorem xY {l:List Txt} (hl:lnT l≤600) {r:aQ} (h:r∈(vbR l++ [iy]).map toM):eD r∧r.mac≠ [84,83]∧r.mac.length≤100000:=by
 rcases Gx h with rfl | rfl | rfl | ⟨ln,t,ht,rfl⟩
 ·exact⟨⟨by decide,by decide,by decide⟩,by decide,by decide⟩
 ·exact⟨⟨by decide,by decide,by decide⟩,by decide,by decide⟩
 ·exact⟨⟨by decide,by decide,by decide⟩,by decide,by decide⟩
 ·have:=AU ht
  exact⟨⟨by simp only;omega,by simp[lnT],by simp⟩,by simp,by simp⟩
theorem DY: ∀(i:Nat) (l:List Txt),fI ((vbQ i l).map fun q=>(⟨q.1,[],[],q.2⟩:aQ))≤2*lnT l+30*l.length
 | i,[]=>by simp[vbQ,fI]
 | i,a::l=>by
  have ih:=DY (i+1) l;have h1:fI ((vbQ i (a::l)).map fun q=>(⟨q.1,[],[],q.2⟩:aQ))=rwt ⟨((3+i:Nat):Int),[],[],a⟩+fI ((vbQ (i+1) l).map fun q=>(⟨q.1,[],[],q.2⟩:aQ)):=by simp[vbQ,fI]
  have h2:rwt ⟨((3+i:Nat):Int),[],[],a⟩≤2*(a.length+1)+30:=by unfold rwt;simp[lnT]<;>omega
  rw[h1,iQ,List.length_cons];omega
theorem Jj (l:List Txt) (h1:lnT l≤600) (h2:l.length≤30):fI ((vbR l++ [iy]).map toM)≤5000:=by
 have h:=DY 0 l;rw[DX];have e: ∀a b c:aQ,∀m:List aQ,fI (a::b::m++ [c])=rwt a+rwt b+fI m+rwt c:=fun a b c m=>by simp[fI];omega
 rw[e];have e1:rwt ⟨1,mTH,[[120]],[]⟩≤100:=by decide
 have e2:rwt ⟨2,mEX,[],[]⟩≤100:=by decide
 have e3:rwt ⟨90,mEE,[],[]⟩≤100:=by decide
 omega
theorem Jk (l:List Txt) (h1:lnT l≤600) (h2:l.length≤30):PB ((vbR l++ [iy]).map toM):=
 AC (fun r hr=>(xY h1 hr).1) (fun r hr=>(xY h1 hr).2.1) (fun r hr=>(xY h1 hr).2.2) (by have:=Jj l h1 h2;omega)
section
attribute [local go_sem ↓ high] lJ
theorem uV {w:World} (hU:U8 w) (hEr:Er w) (hMx:Mx w) (L:List Txt) (vl:Value) (hl:Ss w vl L) (hsz:lnT L≤2000000):
  Calls Tryz.prog 6 #[vl] w fun e w'=>e= .returned (.bool true)∧Below w.heap.size w w':=by
 have HK:Hid (∀W,Below w.heap.size w W→Calls Tryz.prog 8 #[] W fun e w'=>e= .returned (.bool true)∧Below w.heap.size w w'):=
  zH (fun W hb=>(wZ (hU.below hb) (hEr.below hb) (hMx.below (Nat.le_refl _) hb)).mono fun e w' ⟨e1,e2⟩=>⟨e1,hb.trans (e2.mono hb.size)⟩)
 have HPA:Hid (∀V v,Below w.heap.size w V→Rws V v (vbR L++ [iy])→lnT L≤600→L.length≤30→Calls Tryz.prog 10 #[v] V (rM V (di I9 ((vbR L++ [iy]).map toM)))):=zH (fun V v hb hv h1 h2=>Ce (hU.below hb) (hEr.below hb) hv (Jk L h1 h2));obtain⟨va,vc,rfl⟩:=hl.len;have HL:=zH hl;obtain⟨N,hN⟩: ∃N,L.length=N:=⟨_,rfl⟩;have HN:=zH hN;have HSZ:=zH hsz;rw[hN];clear hU hEr hMx hl hN hsz
 by_cases hg:N=0∨20<N
 ·by_cases h0:N=0
  ·subst h0
   go_enter Tryz.func6,Tryz.ntmps6
   go_wp2_with fail
   refine(HK.out _ (Below.refl _ _)).mono ?_;rintro e w9 ⟨rfl,b9⟩;go_wp2_with fail
   go_ret;exact⟨rfl,b9⟩
  ·have hz:((N:Int)==0)=false:=by simp;omega
   have hg':(20:Int)<(N:Int):=by omega
   go_enter Tryz.func6,Tryz.ntmps6
   go_wp2_with fail
   refine(HK.out _ (Below.refl _ _)).mono ?_;rintro e w9 ⟨rfl,b9⟩;go_wp2_with fail
   go_ret;exact⟨rfl,b9⟩
 ·have hz:((N:Int)==0)=false:=by simp;omega
  have hg': ¬(20:Int)<(N:Int):=by omega
  have HNZ:Hid (L≠ []):=zH (fun e=>by have:=HN.out;rw[e]at this;exact hg (.inl this.symm));have hN20:N≤20:=by omega
  have bs0:=af w (.cells #[.string ⟨#[120]⟩] 9);have zs0:(w.alloc (.cells #[.string ⟨#[120]⟩] 9)).heap.size=w.heap.size+1:=World.size_alloc _ _;have hS0:ic w.heap.size (w.alloc (.cells #[.string ⟨#[120]⟩] 9)) (.slice (some ⟨w.heap.size,0,none⟩) 1 1) [[120]]:=gT bP w (Nat.le_refl _) [[120]] (show(1:Nat)≤maxLen from by decide);have hR0:=BS (base:=w.heap.size) (W:=w.alloc (.cells #[.string ⟨#[120]⟩] 9)) (by omega) I6 I7 (some ⟨w.heap.size,0,none⟩,1,1) (none,0,0) hS0 (ag.nil _ _) #[.int .i64 1,.string ⟨#[84,72]⟩,.slice (some ⟨w.heap.size,0,none⟩) 1 1,.string ⟨#[]⟩,.int .i64 2,.string ⟨#[69,88]⟩,.slice none 0 0,.string ⟨#[]⟩] rfl;have hb0:=bs0.trans ((af (w.alloc (.cells #[.string ⟨#[120]⟩] 9)) (.cells #[.int .i64 1,.string ⟨#[84,72]⟩,.slice (some ⟨w.heap.size,0,none⟩) 1 1,.string ⟨#[]⟩,.int .i64 2,.string ⟨#[69,88]⟩,.slice none 0 0,.string ⟨#[]⟩] 33)).mono bs0.size);rw[zs0]at hR0;have HR0:=zH (show bY _ _ _ (vbR (L.take 0)) from hR0);have HB0:=zH hb0;clear hR0 hS0 zs0 bs0 hb0 hg;go_enter Tryz.func6,Tryz.ntmps6
  go_wp2_with fail
  go_loopw [3,4,5] (fun n rv i wr=> ∃k:Nat,i= .int .i64 (k:Int)∧k≤N∧n= .int .i64 (pO (L.take k):Nat)∧Hid (bY w.heap.size wr rv (vbR (L.take k)))∧Hid (Below w.heap.size w wr)) (fun _ _ i _=>N-(intOf i).toNat)
  case atStart=>exact⟨0,rfl,by omega,rfl,HR0,HB0⟩
  case round=>
   clear HR0 HB0;obtain⟨k,rfl,hk,rfl,HR,HB⟩:=hrel
   by_cases hlt:k<N
   ·obtain⟨t,ht⟩: ∃t,L[k]? =some t:=⟨L[k]'(by rw[HN.out];exact hlt),List.getElem?_eq_getElem _⟩
    have HSN:Hid (L.take (k+1)=L.take k++ [t]):=zH (by rw[List.take_add_one,ht];rfl);have HKL:Hid ((L.take k).length=k):=zH (by rw[List.length_take,HN.out];omega);obtain⟨g,off,rfl,c0⟩:=Ss.at (Fs.below HL.out HB.out) ht;have hk0:(0:Int)≤(k:Int):=by omega
    have hk1:(k:Int)<(N:Int):=by omega
    have hnx:pO (L.take (k+1))=pO (L.take k)+t.length:=by rw[HSN.out];exact BD _ _
    have hb1:=BA L (k+1);have hb2:=HSZ.out;have HX:=zH hnx;obtain⟨a,hA⟩: ∃a,pO (L.take k)=a:=⟨_,rfl⟩;obtain⟨b,hB⟩: ∃a,t.length=a:=⟨_,rfl⟩;have hab:a+b≤2000000:=by omega
    rw[hA,hB]at HX;rw[hA];have HTB:=zH hB;have hwk:IntKind.i64.wrap (3+(k:Int))=3+(k:Int):=DR (by omega) (by omega);obtain⟨ra,rc,w3,hr,ho,hk3,hb3,hs3⟩:=wB HR.out HB.out.size (by rw[Ak,List.length_take];omega) (3+(k:Int),[],[],t) (none,0,0) (ag.nil _ _);simp only[ah,aL]at hr;have HR3:Hid (bY w.heap.size w3 (.slice ra (vbR (L.take k)++ [(3+(k:Int),[],[],t)]).length rc) (vbR (L.take (k+1)))):=zH (by
     rw[HSN.out,DW,HKL.out,show(((3+k:Nat):Int))=3+(k:Int) by omega];exact ho)
    have HB3:Hid (Below w.heap.size w w3):=zH (HB.out.trans hb3);obtain⟨ra0,rc0,hru⟩:=HR.out.len;subst hru;obtain⟨rn0,hrn0⟩: ∃n,(vbR (L.take k)).length=n:=⟨_,rfl⟩;obtain⟨rn1,hrn1⟩: ∃n,(vbR (L.take k)++ [(3+(k:Int),[],[],t)]).length=n:=⟨_,rfl⟩;rw[hrn1]at hr HR3;rw[hrn0]at hr ⊢;have hr2:(rH #[.slice ra0 rn0 rc0,.slice (some ⟨wr.heap.size,0,none⟩) 1 1]).run Tryz.prog (wr.alloc (.cells #[.int .i64 (3+(k:Int)),.string ⟨#[]⟩,.slice none 0 0,.string ⟨t.toArray⟩] 33))= .ok (.value (.slice ra rn1 rc)) w3:=hr;clear ht hnx hb1 hb2 hA ho hk3 hb3 hs3 hrn0 hrn1 hr HR HB;go_wp2_with fail
    go_roundw
    case rel=>exact⟨k+1,by go_num,by omega,by rw[HX.out];rw[←HTB.out];go_num,HR3,HB3⟩
    case measure=>simp[intOf];omega
   ·obtain rfl:k=N:=by omega
    have hknlt: ¬(k:Int)<(k:Int):=by omega
    have htk:L.take k=L:=List.take_of_length_le (by rw[HN.out];exact Nat.le_refl _);rw[htk]at HR ⊢;have hS:=pM L;rw[HN.out]at hS;obtain⟨T,hT⟩: ∃T,pO L=T:=⟨_,rfl⟩;rw[hT]at hS ⊢;obtain⟨ra,rc,w3,hr,ho,hk3,hb3,hs3⟩:=wB HR.out HB.out.size (by rw[Ak,HN.out];omega) iy (none,0,0) (ag.nil _ _);simp only[ah,aL,iy]at hr;have HR3:Hid (bY w.heap.size w3 (.slice ra (vbR L++ [iy]).length rc) (vbR L++ [iy])):=zH ho;have HB3:Hid (Below w.heap.size w w3):=zH (HB.out.trans hb3);obtain⟨ra0,rc0,hru⟩:=HR.out.len;subst hru;obtain⟨rn0,hrn0⟩: ∃n,(vbR L).length=n:=⟨_,rfl⟩;have hrn9:(vbR L++ [iy]).length=rn0+1:=by rw[List.length_append,hrn0];rfl
    rw[hrn9]at HR3;have hrn8:(vbR L++ [((90:Int),([69,69]:List UInt8),([]:List (List UInt8)),([]:List UInt8))]).length=rn0+1:=hrn9;rw[hrn8,hrn0]at hr;rw[hrn0];have hr2:(rH #[.slice ra0 rn0 rc0,.slice (some ⟨wr.heap.size,0,none⟩) 1 1]).run Tryz.prog (wr.alloc (.cells #[.int .i64 90,.string ⟨#[69,69]⟩,.slice none 0 0,.string ⟨#[]⟩] 33))= .ok (.value (.slice ra (rn0+1) rc)) w3:=hr;clear ho hk3 hb3 hs3 hrn0 hr HR HB htk hrn9 hrn8
    by_cases hg1:500<T
    ·have hg1':(500:Int)<(T:Int):=by omega
     clear hS hT;go_wp2_with fail
     refine(HK.out _ HB3.out).mono ?_;rintro e w9 ⟨rfl,b9⟩;go_wp2_with fail
     go_ret;exact⟨rfl,b9⟩
    ·have hg1': ¬(500:Int)<(T:Int):=by omega
     have HTL:Hid (lnT L≤600):=zH (by omega);obtain⟨s,hs⟩: ∃s,di I9 ((vbR L++ [iy]).map toM)=s:=⟨_,rfl⟩;have HPC:Hid (Calls Tryz.prog 10 #[.slice ra (rn0+1) rc] w3 fun e w2=> ∃a0 a1 a2 a3 g off p3 d1 d2 d3 r1 r3,e= .returned (.tuple #[.agg #[.string ⟨a0⟩,.string ⟨a1⟩,.string ⟨a2⟩,.string ⟨a3⟩,.slice (some ⟨g,off,none⟩) 1 p3],.slice d1 d2 d3])∧
       ∃W2,w2.alloc (.cells #[.string ⟨a0⟩,.string ⟨a1⟩,.string ⟨a2⟩,.string ⟨a3⟩,.slice (some ⟨g,off,none⟩) 1 p3] 38)=W2∧Hid (Below w.heap.size w W2)∧Hid (∀W,Below W2.heap.size W2 W→W.cell? ⟨w2.heap.size,4,none⟩=some (.slice (some ⟨g,off,none⟩) 1 p3)∧W.cell? ⟨g,off,none⟩=some (.int .i64 6)∧W.cell? ⟨g,off+1,none⟩=some (.int .i64 2)∧W.cell? ⟨g,off+5,none⟩=some (.slice r1 k r3)∧
        ∀(i:Nat) (t:Txt),L[i]? =some t→ ∃gr og rb rc,r1=some ⟨gr,og,none⟩∧W.cell? ⟨gr,og+i,none⟩=some (.slice rb (lgF t).1.length rc)∧Gs W (.slice rb (lgF t).1.length rc) (lgF t).1)):=zH (by
      have hfact:=Gw L HNZ.out;rw[hs]at hfact;have hp:=HPA.out w3 _ HB3.out (by obtain⟨L',hL,hA⟩:=HR3.out;exact⟨L',ag.sl gD hL,hA.mono fun v a ha=>ag.sl bP ha⟩) HTL.out (by rw[HN.out];omega);rw[hs]at hp;refine hp.mono ?_;rintro e w2 ⟨⟨p1,p2,p3⟩,d,rfl,q1,q2,q3⟩;obtain⟨d1,d3,rfl⟩:=q2.len;rw[hfact]at q1;obtain⟨pa,pc,hpl⟩:=q1.len;have hpv:pv (p1,p2,p3)= .slice p1 p2 p3:=rfl;rw[hpv]at hpl q1;injection hpl with e1 e2 e3
      subst e1 e2 e3;obtain⟨g,off,⟨t1,t2,t3⟩,⟨k1,k2,k3⟩,⟨r1,r2,r3⟩,⟨q1',q2',q3'⟩,rfl,hA⟩:=q1.at (j:=0) rfl;have b2:=af w2 (.cells #[.string ⟨s.b.nm.a.toArray⟩,.string ⟨s.b.nm.b.toArray⟩,.string ⟨s.b.nm.c.toArray⟩,.string ⟨s.b.nm.d.toArray⟩,.slice (some ⟨g,off,none⟩) 1 p3] 38);have kD:Blk (w2.alloc (.cells #[.string ⟨s.b.nm.a.toArray⟩,.string ⟨s.b.nm.b.toArray⟩,.string ⟨s.b.nm.c.toArray⟩,.string ⟨s.b.nm.d.toArray⟩,.slice (some ⟨g,off,none⟩) 1 p3] 38)) w2.heap.size 38 [.string ⟨s.b.nm.a.toArray⟩,.string ⟨s.b.nm.b.toArray⟩,.string ⟨s.b.nm.c.toArray⟩,.string ⟨s.b.nm.d.toArray⟩,.slice (some ⟨g,off,none⟩) 1 p3]:=heap_alloc_new w2 _;refine⟨_,_,_,_,g,off,p3,d1,_,d3,r1,r3,rfl,_,rfl,zH ?_,zH (fun W hb=>?_)⟩
      ·exact(HB3.out.trans (q3.mono HB3.out.size)).trans (b2.mono (by have:=q3.size;have:=HB3.out.size;omega))
      ·have bb:=b2.trans (hb.mono b2.size)
       have NA:=hA.keep (Kp.below bb (fun k q=>q.2));have h0:=NA.c0;have h1:=NA.c1;have h5:=NA.c5;simp only[Nat.zero_mul,Nat.add_zero]at h0 h1 h5;refine⟨(kD.below hb).cell 4,h0,h1,?_,fun i t ht=>?_⟩
       ·rw[h5]
        show some (Value.slice r1 (L.map fun t=>(lgF t).1).length r3)=_;rw[List.length_map,HN.out]
       ·obtain⟨gr,og,rb,rc,e1,-,e3,e4⟩:=NA.rows.at (j:=i) (r:=(lgF t).1) (by show(L.map fun t=>(lgF t).1)[i]? =_;rw[List.getElem?_map,ht];rfl)
        exact⟨gr,og,rb,rc,e1,e3,e4.1⟩)
     clear hS hT HPA hs HR3 HNZ;go_wp2_with fail
     refine HPC.out.mono ?_;rintro e w2 ⟨a0,a1,a2,a3,g,off,p3,d1,d2,d3,r1,r3,rfl,W2,hW2,HB2,HNA⟩;have HW2:=zH hW2;obtain⟨n4,n0,n1,n5,-⟩:=HNA.out W2 (Below.refl _ _);obtain⟨dd,hdd⟩: ∃n,w2.heap.size=n:=⟨_,rfl⟩;rw[hdd]at n4 HNA;have HDD:=zH hdd;clear hW2 HPC HB3 hr2;go_upto_region 14 with fail
     rw[HW2.out]
     try rw[HDD.out]
     clear HW2 hdd;go_wp2_with fail
     clear n4 n0 n1 n5;go_loopw [8] (fun i wx=> ∃z:Nat,i= .int .i64 (z:Int)∧z≤k∧Hid (Below W2.heap.size W2 wx)) (fun i _=>k-(intOf i).toNat)
     case atStart=>exact⟨0,rfl,by omega,zH (Below.refl _ _)⟩
     case round=>
      obtain⟨z,rfl,hz,HBz⟩:=hrel;have hz0:(0:Int)≤(z:Int):=by omega
      by_cases hzl:z<k
      ·obtain⟨t,ht⟩: ∃t,L[z]? =some t:=⟨L[z]'(by rw[HN.out];exact hzl),List.getElem?_eq_getElem _⟩
       obtain⟨g6,o6,rfl,c6⟩:=Ss.at (Fs.below HL.out (HB2.out.trans (HBz.out.mono HB2.out.size))) ht;have hz1:(z:Int)<(k:Int):=by omega
       have htl:=AU (List.mem_of_getElem? ht);have htl2:=HTL.out;have HIN:=jQ (0,[],(none,0,0),t) ⟨0,[],[],t⟩ wr ⟨rfl,rfl,rfl,Fs.nil wr⟩ ⟨by show t.length≤2000;omega,by simp[lnT],by simp⟩;have hib:dK ⟨0,[],[],t⟩=some (lgF t):=by unfold dK;rw[if_pos rfl]
       unfold aY at HIN;rw[hib]at HIN;simp only[Option.getD_some,Option.isSome_some,ah,aL]at HIN;obtain⟨D9,hD9⟩: ∃d,bu (0:Int) (lgF t).2=d:=⟨_,rfl⟩;rw[hD9]at HIN;have hgl:=(Ik t).1;have HNR:Hid (∀W,Below W2.heap.size W2 W→ ∃gr og rb rc,r1=some ⟨gr,og,none⟩∧W.cell? ⟨gr,og+z,none⟩=some (.slice rb (lgF t).1.length rc)∧Gs W (.slice rb (lgF t).1.length rc) (lgF t).1):=zH (fun W hb=>(HNA.out W hb).2.2.2.2 z t ht);have HNC:Hid (∀W,Below W2.heap.size W2 W→W.cell? ⟨dd,4,none⟩=some (.slice (some ⟨g,off,none⟩) 1 p3)∧W.cell? ⟨g,off+5,none⟩=some (.slice r1 k r3)):=zH (fun W hb=>⟨(HNA.out W hb).1,(HNA.out W hb).2.2.2.1⟩);obtain⟨G,hG⟩: ∃G,(lgF t).1=G:=⟨_,rfl⟩;rw[hG]at HIN HNR hgl;obtain⟨gn,hgn⟩: ∃n,G.length=n:=⟨_,rfl⟩;rw[hgn]at HNR hgl;have HGN:=zH hgn;have hgb:gn≤100000:=by omega
       have HI:=zH HIN;clear ht htl htl2 HIN hib hD9 hgl hG hgn;go_wp2_with fail
       refine HI.out.mono ?_;rintro e w1 ⟨x,d,rfl,x1,d1,b1⟩;obtain⟨xa,xc,rfl⟩:=(ag.sl ai x1).len;obtain⟨da,dc,rfl⟩:=(ag.sl ax d1).len;obtain⟨dn,hdn⟩: ∃n,D9.length=n:=⟨_,rfl⟩;rw[hdn,HGN.out];have X1:Hid (Gs w1 (.slice xa gn xc) G):=zH (by have:=ag.sl ai x1;rwa [HGN.out]at this);have HB1:=zH (HBz.out.trans (b1.mono HBz.out.size));obtain⟨n4,n5⟩:=HNC.out w1 HB1.out;obtain⟨gr,og,rb,rc,rfl,nr,-⟩:=HNR.out w1 HB1.out;have hne:((gn:Int) != (gn:Int))=false:=by simp
       clear x1 d1 b1 hdn HI c6;go_wp2_with fail
       clear n4 n5 nr;go_loopw [12] (fun i wx=> ∃q:Nat,i= .int .i64 (q:Int)∧q≤gn∧Hid (Below w1.heap.size w1 wx)) (fun i _=>gn-(intOf i).toNat)
       case atStart=>exact⟨0,rfl,by omega,zH (Below.refl _ _)⟩
       case round=>
        obtain⟨q,rfl,hq,HBq⟩:=hrel;have HBw:=zH (HB1.out.trans (HBq.out.mono HB1.out.size))
        by_cases hql:q<gn
        ·obtain⟨y,hy⟩: ∃y,G[q]? =some y:=⟨G[q]'(by rw[HGN.out];exact hql),List.getElem?_eq_getElem _⟩
         obtain⟨b5,o5,rfl,cy1,cy2,-⟩:=Gs.at (Fs.below X1.out HBq.out) hy;obtain⟨n4,n5⟩:=HNC.out wr HBw.out;obtain⟨gr',og',rb',rc',e7,nr,nG⟩:=HNR.out wr HBw.out
         cases e7
         obtain⟨b6,o7,rfl,cz1,cz2,-⟩:=Gs.at nG hy;have hq0:(0:Int)≤(q:Int):=by omega
         have hq1:(q:Int)<(gn:Int):=by omega
         have hqq:=sV;obtain⟨y1,y2⟩:=y;simp only at cy1 cy2 cz1 cz2;have HBn:Hid (∀W,Below wr.heap.size wr W→Below w1.heap.size w1 W):=zH (fun W hb=>HBq.out.trans (hb.mono HBq.out.size));clear hy nG;go_wp2_with fail
         go_quiet (fail)
         go_wp2
         go_roundw
         case rel=>exact⟨q+1,by go_num,by omega,zH (HBn.out _ (below_drewN (Below.refl _ _) _))⟩
         case measure=>simp[intOf];omega
        ·obtain rfl:q=gn:=by omega
         have hqn: ¬(q:Int)<(q:Int):=by omega
         go_wp2_with fail
         go_roundw
         case rel=>exact⟨z+1,by go_num,by omega,HBw⟩
         case measure=>simp[intOf];omega
      ·obtain rfl:z=k:=by omega
       have hzn: ¬(z:Int)<(z:Int):=by omega
       have HB9:=zH (HB2.out.trans (HBz.out.mono HB2.out.size));go_wp2_with fail
       refine(HK.out _ HB9.out).mono ?_;rintro e w9 ⟨rfl,b9⟩;have B9:=zH b9;clear b9;go_wp2_with fail
       go_ret;exact⟨rfl,B9.out⟩
end
end Go.Proofs.YtebabjnngdjceaaGreatDoor

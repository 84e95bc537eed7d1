/- The walk of ManTexts. The walk of ManTexts: its loops. -/
import Derived.Test.YtebabjnngdjceaaGreatDoorYt
import Derived.Test.YtebabjnngdjceaaGreatDoorS4
import Derived.Test.YtebabjnngdjceaaGreatDoorBe
import Derived.Test.YtebabjnngdjceaaGreatDoorH2
import Derived.Test.YtebabjnngdjceaaGreatDoorH5
import Derived.Test.YtebabjnngdjceaaGreatDoorDa
import Derived.Test.YtebabjnngdjceaaGreatDoorZ0
import Derived.Test.YtebabjnngdjceaaGreatDoorBs
set_option linter.unusedVariables false
set_option linter.unusedSimpArgs false
set_option maxRecDepth 100000
set_option maxHeartbeats 16000000
namespace Go.Proofs.YtebabjnngdjceaaGreatDoor
open Go.RowKit
def hAt (H:List Bool) (i:Nat):Bool:=(H[i]?).getD false
def mtQ (H:List Bool):Nat→List Txt→List (Int×Txt×Bool)
 | _,[]=>[]
 | i,t::l=>((i:Int),t,hAt H i)::mtQ H (i+1) l
theorem zY (H:List Bool): ∀(i:Nat) (l:List Txt) (t:Txt),mtQ H i (l++ [t])=mtQ H i l++ [(((i+l.length:Nat):Int),t,hAt H (i+l.length))]
 | i,[],t=>by simp[mtQ]
 | i,a::l,t=>by
  have ih:=zY H (i+1) l t;simp only[PR,mtQ,ih,Pe];rw[show i+1+l.length=i+(l.length+1) by omega]
theorem xS (H:List Bool): ∀(i:Nat) (l:List Txt),(mtQ H i l).length=l.length
 | i,[]=>rfl
 | i,a::l=>by simp[mtQ,xS H (i+1) l]
def dX (q:Int×Txt×Bool):Row:=if q.2.2 then(q.1,[83,72],[q.2.1],[]) else(q.1,[],[],q.2.1)
theorem nY (q:Int×Txt×Bool):toM (dX q)=iO q.1 q.2.1 q.2.2:=by
 unfold toM dX iO mSH
 split<;>rfl
def mtW (L:List Txt):List Gly:=L.flatMap (fun t=>ink (lgF t).1)
theorem Mh (H:List Bool): ∀(i:Nat) (l:List Txt),((mtQ H i l).flatMap fun q=>ink (lgF q.2.1).1)=mtW l
 | i,[]=>rfl
 | i,a::l=>by simp only[mtQ,List.flatMap_cons,mtW];rw[Mh H (i+1) l];rfl
theorem xR (H:List Bool): ∀(i:Nat) (l:List Txt) (q),q∈mtQ H i l→q.2.1∈l
 | i,[],q,h=>by cases h
 | i,a::l,q,h=>by
  simp only[mtQ,P6]at h;rcases h with rfl | h
  ·exact Rf
  ·exact Qc _ (xR H (i+1) l q h)
theorem Ce (H:List Bool): ∀(i:Nat) (l:List Txt),iX (((mtQ H i l).map dX).map toM)≤2*lnT l+30*l.length
 | i,[]=>by simp[mtQ,iX]
 | i,a::l=>by
  have ih:=Ce H (i+1) l;have h1:iX (((mtQ H i (a::l)).map dX).map toM)=rwt (toM (dX ((i:Int),a,hAt H i)))+iX (((mtQ H (i+1) l).map dX).map toM):=by simp[mtQ,iX]
  have h2:rwt (toM (dX ((i:Int),a,hAt H i)))≤2*(a.length+1)+30:=by
   rw[nY];unfold iO rwt
   split<;>simp[lnT]<;>omega
  rw[h1,iP,Pe];omega
theorem Iy (H:List Bool) (L:List Txt) (h1:lnT L≤600) (h2:L.length≤30):PB (((mtQ H 0 L).map dX).map toM):=by
 have hm: ∀r∈((mtQ H 0 L).map dX).map toM,∃(i:Int) (t:Txt) (b:Bool),t∈L∧r=iO i t b:=fun r hr=>by
  obtain⟨x,hx,rfl⟩:=QF.1 hr;obtain⟨q,hq,rfl⟩:=QF.1 hx;exact⟨q.1,q.2.1,q.2.2,xR H 0 L q hq,nY q⟩
 refine DJ (fun r hr=>?_) (fun r hr=>?_) (fun r hr=>?_) (by have:=Ce H 0 L;omega)
 ·obtain⟨i,t,b,ht,rfl⟩:=hm r hr
  have:=yj ht;unfold iO
  split
  ·exact⟨by simp,by simp[lnT];omega,fun s hs=>by simp only[QE]at hs;subst hs;omega⟩
  ·exact⟨by simp only;omega,by simp[lnT],fun s hs=>by cases hs⟩
 ·obtain⟨i,t,b,ht,rfl⟩:=hm r hr
  unfold iO mSH
  split<;>simp
 ·obtain⟨i,t,b,ht,rfl⟩:=hm r hr
  unfold iO mSH
  split<;>simp
theorem KQ (H:List Bool) (L:List Txt) (h2:L.length≤30):lvL (nu (dE I9 (((mtQ H 0 L).map dX).map toM)).b)=mtW L:=by
 have h:=xY NF (mtQ H 0 L) (by rw[xS];omega);rw[Mh]at h;have e:((mtQ H 0 L).map dX).map toM=(mtQ H 0 L).map (fun q=>iO q.1 q.2.1 q.2.2):=by rw[List.map_map];exact List.map_congr_left (fun q _=>nY q)
 rw[e];exact h
def si (l:List Txt):Nat:=(l.map List.length).sum
theorem ED (l:List Txt) (t:Txt):si (l++ [t])=si l+t.length:=by simp[si]
theorem rZ: ∀l:List Txt,si l+l.length=lnT l
 | []=>rfl
 | t::l=>by
  have:=rZ l;rw[iP,←this,Pe];simp only[si,PL,QZ];omega
theorem EC (l:List Txt) (j:Nat):si (l.take j)≤lnT l:=by
 have h1:=rZ (l.take j);have h2:=jH l j;omega
theorem uo (l:List Gly) (g:Gly):ink (l++ [g])=ink l++(if g.1=32 then [] else [g]):=by
 unfold ink;rw[List.filter_append]
 by_cases h:g.1=32<;>simp[h]
noncomputable def uQ (args:Array Value):Sem Next:=do pure (.value (←Builtin.append_ #[25,25] 25 args))
theorem vE (cs:Array Bool) (args:Array Value):builtin .append #[25,25] 25 cs args=uQ args:=rfl
theorem GD {W W':World} {args:Array Value} {v:Value} (h:(Builtin.append_ #[25,25] 25 args).run Tryz.prog W= .ok v W'):(uQ args).run Tryz.prog W= .ok (.value v) W':=by
 unfold uQ;simp[Qh,h]
attribute [irreducible] uQ
section
theorem zu {base:Nat} {W:World} {rv:Value} {l:List Row} (h:bS base W rv l) (hb:base≤W.heap.size) (hl:l.length≤500000) (y:Row) (a:Option Addr×Nat×Nat) (hA:jr base W (bG a) y.2.2.1):
  ∃a' c' w3,(uQ #[rv,.slice (some ⟨W.heap.size,0,none⟩) 1 1]).run Tryz.prog (W.alloc (.cells (ak (y.1,y.2.1,a,y.2.2.2)).toArray 33))= .ok (.value (.slice a' (l++ [y]).length c')) w3∧bS base w3 (.slice a' (l++ [y]).length c') (l++ [y])∧
   (∀{α:Type} {e n base':Nat} {f:α→List Value} {x:Value} {m:List α},ag e n f base' W x m→e≠33→ag e n f base' w3 x m)∧Below base W w3∧W.heap.size≤w3.heap.size:=by
 obtain⟨v',w3,hr,ho,hg,hw⟩:=h.push hb hl y a hA _ rfl;obtain⟨a',c',rfl⟩:=ho.sl.len;have bl:=af W (.cells (ak (y.1,y.2.1,a,y.2.2.2)).toArray 33);refine⟨a',c',w3,GD hr,ho,fun hx he=>?_,?_,by have:=hg.size;simp only[Pf]at this;omega⟩
 ·obtain⟨LL,hL,-⟩:=h
  exact ag.apart (ag.keep hx bl) hg (bE (ag.keep hx bl) (ag.keep hL bl) he)
 ·obtain⟨LL,hL,-⟩:=h
  exact(ag.keep hL bl).below (bl.mono hb) (by simp only[Pf];omega) hg
theorem rA (l:List Gly):(ink l).length≤l.length:=List.length_filter_le _ _
theorem oO: ∀l:List Txt,(mtW l).length≤lnT l
 | []=>by simp[mtW]
 | t::l=>by
  have h1:=oO l;have h2:=rA (lgF t).1;have h3:=(DX t).1;have h4:mtW (t::l)=ink (lgF t).1++mtW l:=rfl;rw[h4,Pb,iP];omega
theorem KR (H:List Bool) (L:List Txt) (h1:lnT L≤600):btl (dE I9 (((mtQ H 0 L).map dX).map toM)).b≤iX (((mtQ H 0 L).map dX).map toM)+20:=by
 have hm: ∀r∈((mtQ H 0 L).map dX).map toM,∃(i:Int) (t:Txt) (b:Bool),t∈L∧r=iO i t b:=fun r hr=>by
  obtain⟨x,hx,rfl⟩:=QF.1 hr;obtain⟨q,hq,rfl⟩:=QF.1 hx;exact⟨q.1,q.2.1,q.2.2,xR H 0 L q hq,nY q⟩
 refine AV (fun r hr=>?_) (fun r hr=>?_)
 ·obtain⟨i,t,b,ht,rfl⟩:=hm r hr
  have:=yj ht;unfold iO
  split
  ·exact⟨by simp,by simp[lnT];omega,fun s hs=>by simp only[QE]at hs;subst hs;omega⟩
  ·exact⟨by simp only;omega,by simp[lnT],fun s hs=>by cases hs⟩
 ·obtain⟨i,t,b,ht,rfl⟩:=hm r hr
  unfold iO mSH
  split<;>simp
attribute [local go_sem ↓ high] cO vE
theorem QUj {P:Prop}(h:P:=by
 obtain⟨ra,rn,rc,w3,hr,R3,G3,X3,B3⟩:=PN.out hb0;clear PN PY HHk BW2;have HG0:Hid (aI w.heap.size w3 (.slice ga0 gn0 gc0) (mtW (L.take k)++ink (G.take 0))):=zH (by simpa[ink] using G3.out);go_wp2_with fail
 clear hr;go_loopw [8,13] (fun gv i wz=> ∃z:Nat,i= .int .i64 (z:Int)∧z≤gn∧Hid (bS w.heap.size wz (.slice ra rn rc) ((mtQ H 0 (L.take (k+1))).map dX))∧Hid (aI w.heap.size wz gv (mtW (L.take k)++ink (G.take z)))∧Hid (aI x0 wz (.slice xa gn xc) G)∧Hid (Below w.heap.size w wz)∧Hid (∀q,gv.ownBlock=some q→ ¬(Value.slice xa gn xc).ownBlock=some q)) (fun _ i _=>gn-(intOf i).toNat)
 case atStart=>exact⟨0,rfl,by omega,R3,HG0,X3,B3,HNE⟩
 case round=>
  obtain⟨z,rfl,hz,HR4,HG4,HX4,HB4,HN4⟩:=hrel;have hgb:gn≤600:=by have:=HGN.out;have:=HTT.out;omega
  by_cases hz2:z<gn
  ·obtain⟨y,hy⟩: ∃y,G[z]? =some y:=⟨G[z]'(by rw[HGN.out];exact hz2),OU _⟩
   obtain⟨b1,o1,rfl,cy⟩:=Gs.at (ag.sl ah HX4.out) hy;have hz0:(0:Int)≤(z:Int):=by omega
   have hz1:(z:Int)<(gn:Int):=by omega
   have hsn:ink (G.take (z+1))=ink (G.take z)++(if y.1=32 then [] else [y]):=by rw[PD,hy];exact uo _ _
   obtain⟨y1,y2⟩:=y;obtain⟨cy1,cy2,-⟩:=cy;dsimp only at hsn cy1 cy2;have hinkl:(mtW (L.take k)++ink (G.take z)).length≤900000:=by
    have h1:=oO (L.take k);have h2:=jH L k;have h3:=rA (G.take z);have h4:(G.take z).length≤z:=by rw[Pg];omega
    have h5:=HTL.out;have h6:=HGN.out;have h7:=HTT.out;rw[Pb];omega
   by_cases hy32:y1=32
   ·subst hy32
    rw[Pk rfl,Pn]at hsn;have HS9:=zH hsn;clear hsn hy hinkl;go_wp2_with fail
    go_roundw
    case rel=>exact⟨z+1,by go_num,by omega,HR4,by rw[HS9.out];exact HG4,HX4,HB4,HN4⟩
    case measure=>simp[intOf];omega
   ·rw[Pd hy32]at hsn
    have HS9:=zH hsn;have bl:=af wr (.cells #[.int .i32 y1,.int .u8 y2] 35);have hzl:w.heap.size≤wr.heap.size:=HB4.out.size;obtain⟨v5,w5,hr5,ho5,hg5,hor⟩:=cB (HG4.out.keep bl) (bR ah wr 35 [(y1,y2)]) (by simp only[Pf];omega) (by simp only[QG];omega);obtain⟨ga5,gc5,rfl⟩:=(ag.sl ah ho5).len;obtain⟨ga4,gc4,rfl⟩:=(ag.sl ah HG4.out).len;have hX5:aI x0 w5 (.slice (some ⟨b1,o1,none⟩) gn xc) G:=ag.apart (HX4.out.keep bl) hg5 (by
     cases hx:(Value.slice (some ⟨b1,o1,none⟩) gn xc).ownBlock with
     | none=>exact .inl rfl
     | some q=>exact .inr (fun e=>HN4.out q e.symm hx))
    have HX5:=zH hX5;have HR5:Hid (bS w.heap.size w5 (.slice ra rn rc) ((mtQ H 0 (L.take (k+1))).map dX)):=zH (by
     obtain⟨LL,hL,hA⟩:=HR4.out.keep bl;have hg4:=HG4.out.keep bl;exact⟨LL,ag.apart hL hg5 (bE hL hg4 (by decide)),hA.mono fun v a ha=>ag.apart ha hg5 (bE ha hg4 (by decide))⟩)
    have HB5:Hid (Below w.heap.size w w5):=zH ((HG4.out.keep bl).below (HB4.out.trans (bl.mono hzl)) (by simp only[Pf];omega) hg5);have HN5:Hid (∀q,(Value.slice ga5 (mtW (L.take k)++ink (G.take z)++ [(y1,y2)]).length gc5).ownBlock=some q→ ¬(Value.slice (some ⟨b1,o1,none⟩) gn xc).ownBlock=some q):=zH (fun q e e2=>by
     rcases hor with h9 | h9
     ·rw[h9]at e;exact HN4.out q e e2
     ·rw[h9]at e
      have e3:=Ph e;have:=HX4.out.ltb e2;simp only[Pf]at e3;omega)
    have HG5:Hid (aI w.heap.size w5 (.slice ga5 (mtW (L.take k)++ink (G.take z)++ [(y1,y2)]).length gc5) (mtW (L.take k)++ink (G.take (z+1)))):=zH (by rw[HS9.out,←Pw];exact ho5);obtain⟨m4,hm4⟩: ∃m,(mtW (L.take k)++ink (G.take z)).length=m:=⟨_,rfl⟩;obtain⟨m5,hm5⟩: ∃m,(mtW (L.take k)++ink (G.take z)++ [(y1,y2)]).length=m:=⟨_,rfl⟩;rw[hm5]at hr5 HN5 HG5;rw[hm4]at hr5 ⊢;have hr6:(appG #[.slice ga4 m4 gc4,.slice (some ⟨wr.heap.size,0,none⟩) 1 1]).run Tryz.prog (wr.alloc (.cells #[.int .i32 y1,.int .u8 y2] 35))= .ok (.value (.slice ga5 m5 gc5)) w5:=hr5;clear hr5 hsn hy hinkl ho5 hg5 hor hX5 hzl hm4 hm5 bl HG4 HX4 HR4 HB4 HN4 HS9;go_wp2_with fail
    go_roundw
    case rel=>exact⟨z+1,by go_num,by omega,HR5,HG5,HX5,HB5,HN5⟩
    case measure=>simp[intOf];omega
  ·obtain rfl:z=gn:=by omega
   have hznlt: ¬(z:Int)<(z:Int):=by omega
   have h9:=HG4.out;rw[show G.take z=G from Pz (by rw[HGN.out];exact OW _),←HMW.out]at h9;have HGF:=zH h9;clear h9;go_wp2_with fail
   go_roundw
   case rel=>exact⟨k+1,by go_num,by omega,HR4,HGF,HB4⟩
   case measure=>simp[intOf];omega):P:=h
theorem xZ {w:World} (hU:U8 w) (hEr:Er w) (hMx:Mx w) (L:List Txt) (H:List Bool) (vl vh:Value) (hl:Ss w vl L) (hh:Fs 1 uN w vh H) (hsz:lnT L≤2000000) (hHl:H.length≤2000000):
  Calls Tryz.prog 3 #[vl,vh] w fun e w'=>e= .returned (.bool true)∧Below w.heap.size w w':=by
 have HK:Hid (∀W,Below w.heap.size w W→Calls Tryz.prog 8 #[] W fun e w'=>e= .returned (.bool true)∧Below w.heap.size w w'):=
  zH (fun W hb=>(Aj (hU.below hb) (hEr.below hb) (hMx.below (OW _) hb)).mono fun e w' ⟨e1,e2⟩=>⟨e1,hb.trans (e2.mono hb.size)⟩)
 have HPA:Hid (∀V v,Below w.heap.size w V→Rws V v ((mtQ H 0 L).map dX)→lnT L≤600→L.length≤30→Calls Tryz.prog 10 #[v] V (uS V (dE I9 (((mtQ H 0 L).map dX).map toM)))):=zH (fun V v hb hv h1 h2=>Fa (hU.below hb) (hEr.below hb) hv (Iy H L h1 h2));obtain⟨va,vc,rfl⟩:=hl.len;obtain⟨ha,hc,rfl⟩:=hh.len;have HL:=zH hl;have HH:=zH hh;obtain⟨N,hN⟩: ∃N,L.length=N:=⟨_,rfl⟩;obtain⟨M,hM⟩: ∃N,H.length=N:=⟨_,rfl⟩;have hNl:N≤2000000:=by have:=ry L;omega
 have HN:=zH hN;have HM:=zH hM;have HSZ:=zH hsz;rw[hN,hM];rw[hM]at hHl;clear hU hEr hMx hl hh hN hM hsz;go_enter Tryz.func3,Tryz.ntmps3
 go_wp2_with fail
 go_loopw [5,6] (fun n i wr=> ∃j:Nat,i= .int .i64 (j:Int)∧j≤N∧n= .int .i64 (si (L.take j):Nat)∧w=wr) (fun _ i _=>N-(intOf i).toNat)
 case atStart=>exact⟨0,rfl,by omega,rfl,rfl⟩
 case round=>
  obtain⟨j,rfl,hj,rfl,rfl⟩:=hrel
  by_cases hlt:j<N
  ·obtain⟨t,ht⟩: ∃t,L[j]? =some t:=⟨L[j]'(by rw[HN.out];exact hlt),OU _⟩
   obtain⟨g,off,rfl,c0⟩:=Ss.at HL.out ht;have hj0:(0:Int)≤(j:Int):=by omega
   have hj1:(j:Int)<(N:Int):=by omega
   have hnx:si (L.take (j+1))=si (L.take j)+t.length:=by rw[PD,ht];exact ED _ _
   have hb1:=EC L (j+1);have hb2:=HSZ.out;have HX:=zH hnx;obtain⟨a,hA⟩: ∃a,si (L.take j)=a:=⟨_,rfl⟩;obtain⟨b,hB⟩: ∃a,t.length=a:=⟨_,rfl⟩;have hab:a+b≤2000000:=by omega
   rw[hA,hB]at HX;rw[hA];have HB:=zH hB;clear ht hnx hb1 hb2 hA;go_wp2_with fail
   go_roundw
   case rel=>exact⟨j+1,by go_num,by omega,by rw[HX.out];rw[←HB.out];go_num,by first | trivial | rfl⟩
   case measure=>simp[intOf];omega
  ·obtain rfl:j=N:=by omega
   have hnlt: ¬(j:Int)<(j:Int):=by omega
   have htk:L.take j=L:=Pz (by rw[HN.out];exact OW _);rw[htk];have hS:=rZ L;rw[HN.out]at hS;obtain⟨T,hT⟩: ∃T,si L=T:=⟨_,rfl⟩;rw[hT]at hS ⊢
   by_cases hg:500<T∨30<j
   ·by_cases hg1:500<T
    ·have hg':(500:Int)<(T:Int):=by omega
     clear htk hS hT hg;go_wp2_with fail
     refine(HK.out _ (OX _ _)).mono ?_;rintro e w9 ⟨rfl,b9⟩;go_wp2_with fail
     go_ret;exact⟨rfl,b9⟩
    ·have hg': ¬(500:Int)<(T:Int):=by omega
     have hg2:(30:Int)<(j:Int):=by omega
     clear htk hS hT hg;go_wp2_with fail
     refine(HK.out _ (OX _ _)).mono ?_;rintro e w9 ⟨rfl,b9⟩;go_wp2_with fail
     go_ret;exact⟨rfl,b9⟩
   ·have hg1: ¬(500:Int)<(T:Int):=by omega
    have hg2: ¬(30:Int)<(j:Int):=by omega
    have hTl:lnT L≤600:=by omega
    have hJl:j≤30:=by omega
    have HTL:=zH hTl;clear htk hS hT hg hTl;go_wp2_with fail
    go_loopw [7,8,9] (fun rv gv i wr=> ∃k:Nat,i= .int .i64 (k:Int)∧k≤j∧Hid (bS w.heap.size wr rv ((mtQ H 0 (L.take k)).map dX))∧Hid (aI w.heap.size wr gv (mtW (L.take k)))∧Hid (Below w.heap.size w wr)) (fun _ _ i _=>j-(intOf i).toNat)
    case atStart=>exact⟨0,rfl,by omega,zH (bS.nil _ _),zH (ag.nil _ _),zH (OX _ _)⟩
    case round=>
     obtain⟨k,rfl,hk,HR,HG,HB⟩:=hrel
     by_cases hlt:k<j
     ·obtain⟨t,ht⟩: ∃t,L[k]? =some t:=⟨L[k]'(by rw[HN.out];exact hlt),OU _⟩
      have htm:=P5 ht;have hsn:L.take (k+1)=L.take k++ [t]:=by rw[PD,ht];rfl
      have hkl:(L.take k).length=k:=by rw[Pg,HN.out];omega
      obtain⟨g,off,rfl,c0⟩:=Ss.at (Fs.below HL.out HB.out) ht;have hk0:(0:Int)≤(k:Int):=by omega
      have hk1:(k:Int)<(j:Int):=by omega
      have htl:=yj htm;have htl2:=HTL.out;have HLN:=zH (ER 0 0 t wr (by omega));have hG1:(fO (0,0) (bK 0 (dec t)).1).1=(lgF t).1:=rfl;unfold J4 at HLN;rw[hG1]at HLN;have hgl:=(DX t).1;obtain⟨f2,hf2⟩: ∃f,(fO (0,0) (bK 0 (dec t)).1).2=f:=⟨_,rfl⟩;obtain⟨D2,hD2⟩: ∃f,(bK 0 (dec t)).2=f:=⟨_,rfl⟩;rw[hf2,hD2]at HLN;have hmw:mtW (L.take (k+1))=mtW (L.take k)++ink (lgF t).1:=by rw[hsn];simp[mtW]
      have hq:mtQ H 0 (L.take (k+1))=mtQ H 0 (L.take k)++ [((k:Int),t,hAt H k)]:=by rw[hsn,zY,hkl];simp
      obtain⟨G,hG⟩: ∃G,(lgF t).1=G:=⟨_,rfl⟩;rw[hG]at HLN hgl hmw;have HMW:=zH hmw;have HQ:=zH hq;have HT0:=zH ht;have HTT:=zH (show t.length≤600 by omega);clear ht htm hsn htl htl2 hG1 hf2 hD2 hmw hq hG;go_wp2_with fail
      refine HLN.out.mono ?_;rintro e w1 ⟨x,vd,rfl,x1,d1,b1⟩;obtain⟨xa,xc,rfl⟩:=(ag.sl ah x1).len;obtain⟨da,dc,rfl⟩:=(ag.sl ai d1).len;obtain⟨W2,hW2⟩: ∃W,w1.alloc (.cells #[.int .u8 f2.1,.int .u8 f2.2] 28)=W:=⟨_,rfl⟩;have b2:Below w1.heap.size w1 W2:=by rw[←hW2];exact af w1 _
      have z1:=b1.size;have b12:=b1.trans (b2.mono z1);have z0:=HB.out.size;have z2:=b12.size;have HW2:=zH hW2;obtain⟨g8,off8,e8,c2⟩:=Ss.at (Fs.below HL.out (HB.out.trans (b12.mono z0))) HT0.out;injection e8 with e8
      injection e8 with e5 e6
      subst e5 e6;have hrl:((mtQ H 0 (L.take k)).map dX).length≤500000:=by rw[Qe,xS,hkl];omega
      have R2:=HR.out.keep b12;have G2:aI w.heap.size W2 u8 (mtW (L.take k)):=HG.out.keep b12;obtain⟨x0,hx0⟩: ∃n,wr.heap.size=n:=⟨_,rfl⟩;have X2:aI x0 W2 (.slice xa G.length xc) G:=by rw[←hx0];exact x1.keep b2
      have B2:Below w.heap.size w W2:=HB.out.trans (b12.mono z0);obtain⟨gn,hgn⟩: ∃n,G.length=n:=⟨_,rfl⟩;have HGN:=zH hgn;rw[hgn]at X2 ⊢;obtain⟨dn,hdn⟩: ∃n,D2.length=n:=⟨_,rfl⟩;rw[hdn];obtain⟨ra0,rc0,hru⟩:=R2.sl.len;obtain⟨ga0,gc0,hgu⟩:=(ag.sl ah G2).len;subst hru hgu;have PN:Hid (hAt H k=false→ ∃ra rn rc w3,(uQ #[.slice ra0 ((mtQ H 0 (L.take k)).map dX).length rc0,.slice (some ⟨W2.heap.size,0,none⟩) 1 1]).run Tryz.prog (W2.alloc (.cells #[.int .i64 (k:Int),.string ⟨#[]⟩,.slice none 0 0,.string ⟨t.toArray⟩] 33))= .ok (.value (.slice ra rn rc)) w3∧Hid (bS w.heap.size w3 (.slice ra rn rc) ((mtQ H 0 (L.take (k+1))).map dX))∧Hid (aI w.heap.size w3 (.slice ga0 (mtW (L.take k)).length gc0) (mtW (L.take k)))∧Hid (aI x0 w3 (.slice xa gn xc) G)∧Hid (Below w.heap.size w w3)):=zH (fun hb0=>by
       obtain⟨ra,rc,w3,hr,ho,hk3,hb3,hs3⟩:=zu R2 (by omega) hrl ((k:Int),[],[],t) (none,0,0) (ag.nil _ _);refine⟨ra,_,rc,w3,hr,zH ?_,zH (hk3 G2 (by decide)),zH (hk3 X2 (by decide)),zH (B2.trans hb3)⟩;rw[HQ.out,QI,List.map_singleton];have:dX ((k:Int),t,hAt H k)=((k:Int),[],[],t):=by unfold dX;rw[hb0];rfl
       rw[this];exact ho)
      have PY:Hid (hAt H k=true→ ∃ra rn rc w3,(uQ #[.slice ra0 ((mtQ H 0 (L.take k)).map dX).length rc0,.slice (some ⟨W2.heap.size+1,0,none⟩) 1 1]).run Tryz.prog ((W2.alloc (.cells #[.string ⟨t.toArray⟩] 9)).alloc (.cells #[.int .i64 (k:Int),.string ⟨#[83,72]⟩,.slice (some ⟨W2.heap.size,0,none⟩) 1 1,.string ⟨#[]⟩] 33))= .ok (.value (.slice ra rn rc)) w3∧Hid (bS w.heap.size w3 (.slice ra rn rc) ((mtQ H 0 (L.take (k+1))).map dX))∧Hid (aI w.heap.size w3 (.slice ga0 (mtW (L.take k)).length gc0) (mtW (L.take k)))∧Hid (aI x0 w3 (.slice xa gn xc) G)∧Hid (Below w.heap.size w w3)):=zH (fun hb0=>by
       have bs:=af W2 (.cells #[.string ⟨t.toArray⟩] 9);have zs:(W2.alloc (.cells #[.string ⟨t.toArray⟩] 9)).heap.size=W2.heap.size+1:=Pf _ _;have hS:jr w.heap.size (W2.alloc (.cells #[.string ⟨t.toArray⟩] 9)) (.slice (some ⟨W2.heap.size,0,none⟩) 1 1) [t]:=jL dh W2 (by omega) [t] (show(1:Nat)≤maxLen from by decide);obtain⟨ra,rc,w3,hr,ho,hk3,hb3,hs3⟩:=zu (R2.keep bs) (by omega) hrl ((k:Int),[83,72],[t],[]) (some ⟨W2.heap.size,0,none⟩,1,1) hS;rw[zs]at hr;refine⟨ra,_,rc,w3,hr,zH ?_,zH (hk3 (G2.keep bs) (by decide)),zH (hk3 (X2.keep bs) (by decide)),zH ((B2.trans (bs.mono (by omega))).trans hb3)⟩;rw[HQ.out,QI,List.map_singleton];have:dX ((k:Int),t,hAt H k)=((k:Int),[83,72],[t],[]):=by unfold dX;rw[hb0];rfl
       rw[this];exact ho)
      have HHk:Hid (∀W,Below w.heap.size w W→k<M→ ∃hg ho,ha=some ⟨hg,ho,none⟩∧W.cell? ⟨hg,ho+k,none⟩=some (.bool (hAt H k))):=zH (fun W hb hkM=>by
       obtain⟨a9,c9,e9,h9,r9⟩:=Fs.below HH.out hb;injection e9 with e1 e2 e3
       subst e1;obtain⟨y,hy⟩: ∃y,H[k]? =some y:=⟨H[k]'(by rw[HM.out];exact hkM),OU _⟩;obtain⟨b9,o9,e8,c8⟩:=r9 k y hy;have:=c8 0 _ rfl;simp only[QU,PW]at this;exact⟨b9,o9,e8,by rw[this];unfold hAt;rw[hy];rfl⟩)
      have BW2:=zH B2;have hne0: ∀q,(Value.slice ga0 (mtW (L.take k)).length gc0).ownBlock=some q→q<wr.heap.size:=fun q e=>HG.out.ltb e
      have hxlo: ∀q,(Value.slice xa gn xc).ownBlock=some q→wr.heap.size≤q:=fun q e=>by rw[hx0];exact(X2.ty e).1
      have HNE:Hid (∀q,(Value.slice ga0 (mtW (L.take k)).length gc0).ownBlock=some q→ ¬(Value.slice xa gn xc).ownBlock=some q):=zH (fun q e e2=>by have:=hne0 q e;have:=hxlo q e2;omega);obtain⟨rn0,hrn0⟩: ∃n,((mtQ H 0 (L.take k)).map dX).length=n:=⟨_,rfl⟩;obtain⟨gn0,hgn0⟩: ∃n,(mtW (L.take k)).length=n:=⟨_,rfl⟩;rw[hrn0,hgn0]at PN PY;rw[hgn0]at HNE;rw[hrn0,hgn0];clear x1 d1 b1 b2 z1 b12 z0 z2 hrl R2 G2 X2 B2 hgn hdn HLN hrn0 hgn0 HR HG HB c0 hne0 hxlo hx0;go_upto_region 14 with fail
      clear HW2 hW2
      by_cases hkM:k<M
      ·obtain⟨hg9,ho9,rfl,ch⟩:=HHk.out W2 BW2.out hkM
       have hkM':(k:Int)<(M:Int):=by omega
       cases hb0:hAt H k with
       | true=>
        rw[hb0]at ch;obtain⟨ra,rn,rc,w3,hr,R3,G3,X3,B3⟩:=PY.out hb0;clear PN PY HHk BW2;have HG0:Hid (aI w.heap.size w3 (.slice ga0 gn0 gc0) (mtW (L.take k)++ink (G.take 0))):=zH (by simpa[ink] using G3.out);go_wp2_with fail
        clear hr;go_loopw [8,13] (fun gv i wz=> ∃z:Nat,i= .int .i64 (z:Int)∧z≤gn∧Hid (bS w.heap.size wz (.slice ra rn rc) ((mtQ H 0 (L.take (k+1))).map dX))∧Hid (aI w.heap.size wz gv (mtW (L.take k)++ink (G.take z)))∧Hid (aI x0 wz (.slice xa gn xc) G)∧Hid (Below w.heap.size w wz)∧Hid (∀q,gv.ownBlock=some q→ ¬(Value.slice xa gn xc).ownBlock=some q)) (fun _ i _=>gn-(intOf i).toNat)
        case atStart=>exact⟨0,rfl,by omega,R3,HG0,X3,B3,HNE⟩
        case round=>
         obtain⟨z,rfl,hz,HR4,HG4,HX4,HB4,HN4⟩:=hrel;have hgb:gn≤600:=by have:=HGN.out;have:=HTT.out;omega
         by_cases hz2:z<gn
         ·obtain⟨y,hy⟩: ∃y,G[z]? =some y:=⟨G[z]'(by rw[HGN.out];exact hz2),OU _⟩
          obtain⟨b1,o1,rfl,cy⟩:=Gs.at (ag.sl ah HX4.out) hy;have hz0:(0:Int)≤(z:Int):=by omega
          have hz1:(z:Int)<(gn:Int):=by omega
          have hsn:ink (G.take (z+1))=ink (G.take z)++(if y.1=32 then [] else [y]):=by rw[PD,hy];exact uo _ _
          obtain⟨y1,y2⟩:=y;obtain⟨cy1,cy2,-⟩:=cy;dsimp only at hsn cy1 cy2;have hinkl:(mtW (L.take k)++ink (G.take z)).length≤900000:=by
           have h1:=oO (L.take k);have h2:=jH L k;have h3:=rA (G.take z);have h4:(G.take z).length≤z:=by rw[Pg];omega
           have h5:=HTL.out;have h6:=HGN.out;have h7:=HTT.out;rw[Pb];omega
          by_cases hy32:y1=32
          ·subst hy32
           rw[Pk rfl,Pn]at hsn;have HS9:=zH hsn;clear hsn hy hinkl;go_wp2_with fail
           go_roundw
           case rel=>exact⟨z+1,by go_num,by omega,HR4,by rw[HS9.out];exact HG4,HX4,HB4,HN4⟩
           case measure=>simp[intOf];omega
          ·rw[Pd hy32]at hsn
           have HS9:=zH hsn;have bl:=af wr (.cells #[.int .i32 y1,.int .u8 y2] 35);have hzl:w.heap.size≤wr.heap.size:=HB4.out.size;obtain⟨v5,w5,hr5,ho5,hg5,hor⟩:=cB (HG4.out.keep bl) (bR ah wr 35 [(y1,y2)]) (by simp only[Pf];omega) (by simp only[QG];omega);obtain⟨ga5,gc5,rfl⟩:=(ag.sl ah ho5).len;obtain⟨ga4,gc4,rfl⟩:=(ag.sl ah HG4.out).len;have hX5:aI x0 w5 (.slice (some ⟨b1,o1,none⟩) gn xc) G:=ag.apart (HX4.out.keep bl) hg5 (by
            cases hx:(Value.slice (some ⟨b1,o1,none⟩) gn xc).ownBlock with
            | none=>exact .inl rfl
            | some q=>exact .inr (fun e=>HN4.out q e.symm hx))
           have HX5:=zH hX5;have HR5:Hid (bS w.heap.size w5 (.slice ra rn rc) ((mtQ H 0 (L.take (k+1))).map dX)):=zH (by
            obtain⟨LL,hL,hA⟩:=HR4.out.keep bl;have hg4:=HG4.out.keep bl;exact⟨LL,ag.apart hL hg5 (bE hL hg4 (by decide)),hA.mono fun v a ha=>ag.apart ha hg5 (bE ha hg4 (by decide))⟩)
           have HB5:Hid (Below w.heap.size w w5):=zH ((HG4.out.keep bl).below (HB4.out.trans (bl.mono hzl)) (by simp only[Pf];omega) hg5);have HN5:Hid (∀q,(Value.slice ga5 (mtW (L.take k)++ink (G.take z)++ [(y1,y2)]).length gc5).ownBlock=some q→ ¬(Value.slice (some ⟨b1,o1,none⟩) gn xc).ownBlock=some q):=zH (fun q e e2=>by
            rcases hor with h9 | h9
            ·rw[h9]at e;exact HN4.out q e e2
            ·rw[h9]at e
             have e3:=Ph e;have:=HX4.out.ltb e2;simp only[Pf]at e3;omega)
           have HG5:Hid (aI w.heap.size w5 (.slice ga5 (mtW (L.take k)++ink (G.take z)++ [(y1,y2)]).length gc5) (mtW (L.take k)++ink (G.take (z+1)))):=zH (by rw[HS9.out,←Pw];exact ho5);obtain⟨m4,hm4⟩: ∃m,(mtW (L.take k)++ink (G.take z)).length=m:=⟨_,rfl⟩;obtain⟨m5,hm5⟩: ∃m,(mtW (L.take k)++ink (G.take z)++ [(y1,y2)]).length=m:=⟨_,rfl⟩;rw[hm5]at hr5 HN5 HG5;rw[hm4]at hr5 ⊢;have hr6:(appG #[.slice ga4 m4 gc4,.slice (some ⟨wr.heap.size,0,none⟩) 1 1]).run Tryz.prog (wr.alloc (.cells #[.int .i32 y1,.int .u8 y2] 35))= .ok (.value (.slice ga5 m5 gc5)) w5:=hr5;clear hr5 hsn hy hinkl ho5 hg5 hor hX5 hzl hm4 hm5 bl HG4 HX4 HR4 HB4 HN4 HS9;go_wp2_with fail
           go_roundw
           case rel=>exact⟨z+1,by go_num,by omega,HR5,HG5,HX5,HB5,HN5⟩
           case measure=>simp[intOf];omega
         ·obtain rfl:z=gn:=by omega
          have hznlt: ¬(z:Int)<(z:Int):=by omega
          have h9:=HG4.out;rw[show G.take z=G from Pz (by rw[HGN.out];exact OW _),←HMW.out]at h9;have HGF:=zH h9;clear h9;go_wp2_with fail
          go_roundw
          case rel=>exact⟨k+1,by go_num,by omega,HR4,HGF,HB4⟩
          case measure=>simp[intOf];omega
       | false=>
        rw[hb0]at ch;exact QUj
      ·have hkM': ¬(k:Int)<(M:Int):=by omega
       have hb0:hAt H k=false:=by unfold hAt;rw[Ra (by rw[HM.out];omega)];rfl
       exact QUj
     ·obtain rfl:k=j:=by omega
      have hknlt: ¬(k:Int)<(k:Int):=by omega
      have htk:L.take k=L:=Pz (by rw[HN.out];exact OW _);rw[htk]at HR HG;obtain⟨ra,rc,hru⟩:=HR.out.sl.len;obtain⟨ga,gc,hgu⟩:=(ag.sl ah HG.out).len;subst hru hgu;obtain⟨rn,hrn⟩: ∃n,((mtQ H 0 L).map dX).length=n:=⟨_,rfl⟩;obtain⟨gn,hgn⟩: ∃n,(mtW L).length=n:=⟨_,rfl⟩;rw[hrn]at HR ⊢;rw[hgn]at HG ⊢;obtain⟨s,hs⟩: ∃s,dE I9 (((mtQ H 0 L).map dX).map toM)=s:=⟨_,rfl⟩;have HPC:Hid (Calls Tryz.prog 10 #[.slice ra rn rc] wr fun e w2=> ∃p1 p2 p3 d1 d2 d3,e= .returned (.tuple #[.agg #[.string ⟨s.b.nm.a.toArray⟩,.string ⟨s.b.nm.b.toArray⟩,.string ⟨s.b.nm.c.toArray⟩,.string ⟨s.b.nm.d.toArray⟩,.slice p1 p2 p3],.slice d1 d2 d3])∧
        ∃W2,w2.alloc (.cells #[.string ⟨s.b.nm.a.toArray⟩,.string ⟨s.b.nm.b.toArray⟩,.string ⟨s.b.nm.c.toArray⟩,.string ⟨s.b.nm.d.toArray⟩,.slice p1 p2 p3] 38)=W2∧W2.cell? ⟨w2.heap.size,4,none⟩=some (.slice p1 p2 p3)∧
        Hid (Calls Tryz.prog 12 #[.slice p1 p2 p3] W2 fun e w3=> ∃u1 u2 u3,e= .returned (.slice u1 u2 u3)∧Hid (Calls Tryz.prog 11 #[.slice u1 u2 u3,.slice ga gn gc] w3 fun e w4=>e= .returned (.bool true)∧Hid (Below w.heap.size w w4)))):=zH (by
       have hPB:=Iy H L HTL.out (by rw[HN.out];exact hJl);have hfact:=KQ H L (by rw[HN.out];exact hJl);have heb:=hPB.eb;rw[hs]at hfact heb;have hp:=HPA.out wr _ HB.out HR.out.sl HTL.out (by rw[HN.out];exact hJl);rw[hs]at hp;refine hp.mono ?_;rintro e w2 ⟨⟨p1,p2,p3⟩,d,rfl,q1,q2,q3⟩;obtain⟨d1,d3,rfl⟩:=q2.len;have b2:=af w2 (.cells #[.string ⟨s.b.nm.a.toArray⟩,.string ⟨s.b.nm.b.toArray⟩,.string ⟨s.b.nm.c.toArray⟩,.string ⟨s.b.nm.d.toArray⟩,.slice p1 p2 p3] 38);have kD:Blk (w2.alloc (.cells #[.string ⟨s.b.nm.a.toArray⟩,.string ⟨s.b.nm.b.toArray⟩,.string ⟨s.b.nm.c.toArray⟩,.string ⟨s.b.nm.d.toArray⟩,.slice p1 p2 p3] 38)) w2.heap.size 38 [.string ⟨s.b.nm.a.toArray⟩,.string ⟨s.b.nm.b.toArray⟩,.string ⟨s.b.nm.c.toArray⟩,.string ⟨s.b.nm.d.toArray⟩,.slice p1 p2 p3]:=O9 w2 _;refine⟨p1,p2,p3,d1,_,d3,rfl,_,rfl,kD.cell 4,zH ?_⟩;have zw:=HB.out.size;have z2:=q3.size;have bw2:=(HB.out.trans (q3.mono zw)).trans (b2.mono (by omega));have hnl:nlL (nu s.b)≤100000:=by
        have h1:=EA (lh (bH s.b));have h2:=Ep (bH s.b);have h3:=eP s.b;have h5:nu s.b=qx (lh (bH s.b)):=rfl;have h6:=KR H L;have h7:=Ce H 0 L;have h8:=HTL.out;have h10:=HN.out;rw[hs]at h6;rw[←h5]at h1;have h11:=h6 HTL.out;omega
       refine(zx (fun k=>wr.heap.size≤k∧k<w2.heap.size) _ _ rfl _ _ (q1.keep (fun k q=>b2.block k q.2)) (fun k q=>by have:=b2.size;omega) hnl).mono ?_;rintro e w3 ⟨u,rfl,o3,b3⟩;obtain⟨u1,u3,rfl⟩:=(ag.sl ah o3).len;refine⟨u1,_,u3,rfl,zH ?_⟩;have hz:=b2.size;have bw3:=bw2.trans (b3.mono (by omega));have hwant:=ag.sl ah (HG.out.keep (q3.trans ((b2.trans (b3.mono hz)).mono z2)));have hml:=oO L;have hTL:=HTL.out;have h9:=BK (lvL (nu s.b)) (mtW L) _ _ w3 (ag.sl ah o3) hwant (by rw[hfact];omega) (by omega);refine h9.mono ?_;rintro e w4 ⟨rfl,b4⟩;exact⟨by rw[Qg hfact],zH (bw3.trans (b4.mono bw3.size))⟩)
      clear HR HG HB HPA htk hs hrn hgn;go_wp2_with fail
      refine HPC.out.mono ?_;rintro e w2 ⟨p1,p2,p3,d1,d2,d3,rfl,W2,hW2,c4,HLV⟩;have HW2:=zH hW2;clear hW2 HPC;go_upto_region 23 with fail
      rw[HW2.out];clear HW2;go_wp2_with fail
      refine HLV.out.mono ?_;rintro e w3 ⟨u1,u2,u3,rfl,HSM⟩;clear HLV c4;go_wp2_with fail
      refine HSM.out.mono ?_;rintro e w4 ⟨rfl,B4⟩;clear HSM;go_wp2_with fail
      refine(HK.out w4 B4.out).mono ?_;rintro e w9 ⟨rfl,b9⟩;go_wp2_with fail
      go_ret;exact⟨rfl,b9⟩
end
end Go.Proofs.YtebabjnngdjceaaGreatDoor

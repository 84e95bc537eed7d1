/- man.Number; step. -/
import Derived.Test.YtebabjnngdjceaaGreatDoorVe
import Derived.Test.YtebabjnngdjceaaGreatDoorLD
set_option linter.unusedVariables false
set_option linter.unusedSimpArgs false
set_option maxRecDepth 100000
set_option maxHeartbeats 4000000
namespace Go.Proofs.YtebabjnngdjceaaGreatDoor
open Go.RowKit
def Jy (a:Int)(s:Txt):Int:=s.foldl (fun a c=>10*a+((c.toNat:Int)-48)) a
theorem Jl:∀(l:Txt) (M acc u:Nat),Lib.parseUintM M acc l=.ok u→l.all mdg=true∧Jy acc l=u
 | [],M,acc,u,h=>by
  simp only[Lib.parseUintM]at h;injection h with h
  subst h;exact⟨rfl,rfl⟩
 | c::l,M,acc,u,h=>by
  simp only[Lib.parseUintM]at h
  split at h
  ·rename_i hc
   split at h
   ·cases h
   ·split at h
    ·cases h
    ·obtain⟨h1,h2⟩:=Jl l M _ u h
     refine⟨?_,?_⟩
     ·rw[List.all_cons,h1,Bool.and_true]
      unfold mdg;simp[hc.1,hc.2]
     ·rw[←h2]
      unfold Jy;simp only[RF]
      congr 1
      omega
  ·cases h
theorem uo:∀(l:Txt) (acc:Nat),l.length≤6→acc<10 ^ (6-l.length)→l.all mdg=true→ ∃u,Lib.parseUintM (2 ^ 64-1) acc l=.ok u∧u<1000000
 | [],acc,h,ha,_=>⟨acc,rfl,by simpa using ha⟩
 | c::l,acc,h,ha,hd=>by
  rw[List.all_cons,Q7]at hd;obtain⟨h1,h2⟩:=hd;have hc:48≤c.toNat∧c.toNat≤57:=by
   unfold mdg at h1
   simpa using h1
  simp only[PI]at h ha;have hp:10 ^ (6-l.length)=10*10 ^ (6-(l.length+1)):=by
   rw[show 6-l.length=(6-(l.length+1))+1 by omega,Nat.pow_succ];omega
  have hle:10 ^ (6-(l.length+1))≤10 ^ 5:=Nat.pow_le_pow_right (by decide) (by omega);have ha2:acc<100000:=by omega
  obtain⟨u,h3,h4⟩:=uo l (acc*10+(c.toNat-48)) (by omega) (by rw[hp];omega) h2;refine⟨u,?_,h4⟩;simp only[Lib.parseUintM];rw[PZ hc,PO (by omega),PO (by omega)];exact h3
theorem IW (s:Txt):Lib.trimSuffix s [110]=if s.getLast?=some 110 then s.dropLast else s:=by
 rcases AP s with rfl | ⟨m,c,rfl⟩
 ·rfl
 ·by_cases hc:c=110
  ·subst hc
   rw[Nz];simp
  ·rw[Cm m 110 c hc]
   simp[hc]
theorem NM (s t:Txt)(ht:(if s.getLast?=some 110 then s.dropLast else s)=t)(or:Int):
  (∀u,Lib.parseUintB 64 t=.ok u→t.length≤6→nJ s or=(min (u:Int) 200,true)∧u<1000000)∧(6<t.length→nJ s or=(or,false))∧((∀u,Lib.parseUintB 64 t≠ .ok u)→nJ s or=(or,false)):=by
 unfold nJ;rw[ht];simp only;refine⟨fun u hu hl=>?_,fun hl=>?_,fun hn=>?_⟩
 ·unfold Lib.parseUintB at hu
  by_cases h0:t=[]
  ·rw[PZ h0]at hu;cases hu
  ·rw[PO h0]at hu
   obtain⟨h1,h2⟩:=Jl t _ 0 u hu;rw[PZ ⟨h0,h1,hl⟩];obtain⟨u',h3,h4⟩:=uo t 0 hl (Nat.pow_pos (by decide)) h1;rw[hu]at h3;injection h3 with h3
   subst h3;refine⟨?_,h4⟩;show(min (Jy 0 t) 200,true)=_;rw[←h2];rfl
 ·rw[PO (fun h=>by have:=h.2.2;omega)]
 ·by_cases h:t≠ []∧t.all mdg=true∧t.length≤6
  ·exfalso
   obtain⟨u',h3,h4⟩:=uo t 0 h.2.2 (Nat.pow_pos (by decide)) h.2.1;refine hn u' ?_;unfold Lib.parseUintB;rw[PO h.1];exact h3
  ·rw[PO h]
theorem QUg {P:Prop}(h:P:=by
 clear hN1 hN2 hN3 hu ht hr hs htl hE;go_enter Tryz.func124,Tryz.ntmps124
 go_wp2_with fail
 refine HT.out.mono ?_;rintro e w1 ⟨rfl,rfl⟩;go_wp2_with fail
 refine HP.out.mono ?_;rintro e w2 ⟨rfl,b2⟩;go_wp2_with fail
 go_ret2
 exact⟨rfl,b2⟩):P:=h
theorem AY (s:Txt)(w:World)(hE:Er w)(hs:s.length≤2000):
  Calls Tryz.prog 124 #[.string ⟨s.toArray⟩,.int .i64 7] w fun e w'=>e=.returned (.tuple #[.int .i64 (nJ s 7).1,.bool (nJ s 7).2])∧Below w.heap.size w w':=by
 have HT:=zH (iU s [110] w (by omega));rw[IW]at HT;obtain⟨t,ht⟩:∃t,(if s.getLast?=some 110 then s.dropLast else s)=t:=⟨_,rfl⟩;have hN:=NM s t ht 7;have htl:t.length≤2000:=by
  rw[←ht]
  split
  ·rw[List.length_dropLast];omega
  ·exact hs
 rw[ht]at HT;obtain⟨r,hr⟩:∃r,nJ s 7=r:=⟨_,rfl⟩;rw[hr]at hN⊢;obtain⟨hN1,hN2,hN3⟩:=hN
 by_cases hok:∃u,Lib.parseUintB 64 t=.ok u
 ·obtain⟨u,hu⟩:=hok
  have HP:=zH (Jm t u w (by omega) hu)
  by_cases hl:t.length≤6
  ·obtain⟨hr2,hu2⟩:=hN1 u hu hl
   subst hr2;have hgt:¬(6:Int)<(t.length:Int):=by omega
   exact QUg
  ·have hr2:=hN2 (by omega)
   subst hr2;have hgt:(6:Int)<(t.length:Int):=by omega
   exact QUg
 ·have hno:∀u,Lib.parseUintB 64 t≠ .ok u:=fun u e=>hok ⟨u,e⟩
  have HP:=zH (Gd t w hE (by omega) hno);have hr2:=hN3 hno;subst hr2;clear hN1 hN2 hN3 hno hok ht hr hs htl hE;go_enter Tryz.func124,Tryz.ntmps124
  go_wp2_with fail
  refine HT.out.mono ?_;rintro e w1 ⟨rfl,rfl⟩;go_wp2_with fail
  refine HP.out.mono ?_;rintro e w2 ⟨n,tp,p,rfl,b2⟩;go_wp2_with fail
  go_ret2
  exact⟨rfl,b2⟩
section
variable {BI:BIT}{TB:World→Prop}{w w0:World}{B:Nat}{s:Md}{Y:Nat→Prop}
theorem MM.er {BI:BIT}{w0 w:World}{Y:Nat→Prop}{B:Nat}{s:Md}(h:MM BI w0 Y w B s)(hE:Er w0):Er w:=hE.below h.1
theorem Jw {s:Md}{r:aI}{k:Nat}{a:Txt}(h:r.args[k]? =some a):aL s r k=(if(nJ a 7).2 then(s,(nJ a 7).1) else(aD s 5 r.line,7)):=by
 unfold aL;rw[h]
theorem LY {a:Txt}(h:(nJ a 7).2=false):(nJ a 7).1=7:=by
 unfold nJ at h⊢;simp only at h⊢;generalize (if a.getLast?=some 110 then a.dropLast else a)=t at h⊢
 by_cases c:t≠ []∧t.all mdg=true∧t.length≤6
 ·rw[PZ c]at h;cases h
 ·rw[PO c]
theorem qm (I:eD BI)(h:MM BI w0 Y w B s)(hE:Er w0){x:RV}{r:aI}(hx:iO w x r)(hl:fJ r)(k:Nat)(hk:k≤5)(hD:s.d.length≤500000):
  Calls Tryz.prog 87 #[ak B,.agg (ai x).toArray,.int .i64 (k:Int)] w (dK BI w0 Y w B (.int .i64 (aL s r k).2) (aL s r k).1):=by
 obtain⟨W1,hW1⟩:∃W,w.alloc (.cells (ai x).toArray 33)=W:=⟨_,rfl⟩;have b1:Below w.heap.size w W1:=by rw[←hW1];exact ae _ _
 have kx:Blk W1 w.heap.size 33 (ai x):=by rw[←hW1];exact PK w _
 have hM1:=h.keep I b1;have hx1:=hx.below b1;obtain⟨xl,xm,⟨va,vn,vc⟩,xt⟩:=x;obtain⟨h1,h2,h3,h4⟩:=hx1;simp only[bE]at h1 h2 h3 h4;obtain⟨a',c',e4⟩:=h4.len;injection e4 with e1 e2 e3
 subst e1 e2 e3;have x0:=kx.cell 0;have x2:=kx.cell 2;have HK:Hid (∀V,Below W1.heap.size W1 V→V.cell? ⟨w.heap.size,0,none⟩=some (.int .i64 xl)):=zH (fun V hV=>(kx.below hV).cell 0);have HB1:=zH b1;simp only[ai,bE,PD,PE]at hW1 x0 x2⊢
 by_cases hlt:k<r.args.length
 ·obtain⟨a,ha⟩:∃a,r.args[k]? =some a:=⟨r.args[k],Pz hlt⟩
  obtain⟨g,off,rfl,ca⟩:=Ss.at h4 ha;have HN:=zH (AY a W1 (hM1.er hE) (hl.each a (Qq ha)));have hge:¬(r.args.length:Int)≤(k:Int):=by omega
  have hk0:(0:Int)≤(k:Int):=by omega
  have hk1:(k:Int)<(r.args.length:Int):=by omega
  rw[Jw ha]
  cases hb:(nJ a 7).2 with
  | true=>
   rw[PZ rfl];have HF:Hid (∀V,Below W1.heap.size W1 V→aV BI w0 Y w B s V):=zH (fun V hV=>⟨Y,hM1.keep I hV,Exc.of (b1.trans (hV.mono b1.size)),fun q z=> .inl z⟩);obtain⟨z,hz⟩:∃z,(nJ a 7).1=z:=⟨_,rfl⟩;rw[hz,hb]at HN;rw[hz];clear h hx hl h1 h2 h3 h4 hM1 kx b1 ha hb hz HK hlt;go_enter Tryz.func87,Tryz.ntmps87
   go_wp2_with fail
   refine HN.out.mono ?_;rintro e w2 ⟨rfl,b2⟩;have F2:=zH (HF.out w2 b2);clear b2 HN HF;go_wp2_with fail
   go_ret;exact⟨rfl,F2.out⟩
  | false=>
   rw[PO (by simp)];have HT:Hid (∀V,Below W1.heap.size W1 V→Calls Tryz.prog 28 #[ak B,.int .i64 5,.int .i64 xl] V (dK BI w0 Y V B (.tuple #[]) (aD s 5 r.line))):=zH (fun V hV=>by rw[←h1];exact dH I (hM1.keep I hV) 5 xl hD);have hz:=LY hb;rw[hz,hb]at HN;clear h hx hl h1 h2 h3 h4 hM1 kx b1 ha hb hz hlt;go_enter Tryz.func87,Tryz.ntmps87
   go_wp2_with fail
   refine HN.out.mono ?_;rintro e w2 ⟨rfl,b2⟩;have y0:=HK.out w2 b2;have HT2:=zH (HT.out w2 b2);have B2:=zH b2;clear b2 HN HT HK x0 x2;go_wp2_with fail
   refine HT2.out.mono ?_;rintro e w3 ⟨rfl,m3⟩;have M3:=zH ((m3.pre B2.out).pre HB1.out);clear m3;go_wp2_with fail
   go_ret;exact⟨rfl,M3.out⟩
 ·have hn:r.args[k]? =none:=RZ (by omega)
  have e:aL s r k=(s,7):=by unfold aL;rw[hn]
  rw[e];have hge:(r.args.length:Int)≤(k:Int):=by omega
  have HF:Hid (aV BI w0 Y w B s W1):=zH ⟨Y,hM1,Exc.of b1,fun q z=> .inl z⟩;clear h hx hl h1 h2 h3 h4 hM1 kx b1 hn e HK hlt;go_enter Tryz.func87,Tryz.ntmps87
  go_wp2_with fail
  go_ret;exact⟨rfl,HF.out⟩
end
end Go.Proofs.YtebabjnngdjceaaGreatDoor

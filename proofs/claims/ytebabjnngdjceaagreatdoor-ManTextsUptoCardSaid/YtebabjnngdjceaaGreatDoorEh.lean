/- The document's own: where a bracket closes, a text of runes, a name. The document's own: fonts, names. The document's own: a rune's name. -/
import Derived.Test.YtebabjnngdjceaaGreatDoorJA
import Derived.Test.YtebabjnngdjceaaGreatDoorW9
import Derived.Test.YtebabjnngdjceaaGreatDoorZ0
set_option linter.unusedVariables false
set_option linter.unusedSimpArgs false
set_option maxRecDepth 100000
set_option maxHeartbeats 4000000
namespace Go.Proofs.YtebabjnngdjceaaGreatDoor
open Go.RowKit
section
theorem zB (l:List Int) (v:Value) (q:Nat) (w:World) (hv:Sl .i32 w v l) (hq:q≤l.length) (hl:l.length≤200000):
  Calls Tryz.prog 118 #[v,.int .i64 (q:Int)] w fun e w'=>e= .returned (.int .i64 (ixI q (ix (l.drop q))))∧w=w':=by
 have HV:=zH hv;obtain⟨a,cap,rfl⟩:=hv.len;obtain⟨X,hX⟩: ∃X,ixI q (ix (l.drop q))=X:=⟨_,rfl⟩;rw[hX];clear hv;go_enter Tryz.func118,Tryz.ntmps118
 go_wp2_with fail
 go_loopw [5] (fun i wr=> ∃j:Nat,j≤l.length∧i= .int .i64 j∧wr=w∧ixI j (ix (l.drop j))=X) (fun i _=>l.length-(intOf i).toNat)
 case atStart=>exact⟨q,hq,rfl,rfl,hX⟩
 case round=>
  obtain⟨j,hj,rfl,rfl,hx⟩:=hrel;have HX:=zH hx;clear hx hX
  by_cases hlt:j<l.length
  ·obtain⟨z,hz⟩: ∃z,l[j]? =some z:=⟨l[j],OU hlt⟩
   obtain⟨g,off,rfl,c0⟩:=HV.out.at hz;have hi0:(j:Int)<(l.length:Int):=by omega
   have hi1:(0:Int)≤(j:Int):=by omega
   by_cases he:z=93
   ·subst he
    have hres:=zH (show(j:Int)=X by
     have:=HX.out;rw[IU hz]at this
     simpa[ixI] using this)
    clear hz;go_wp2_with fail
    go_ret;exact⟨il hres.out,rfl⟩
   ·have hres:=zH (show ixI (j+1) (ix (l.drop (j+1)))=X by
     have:=HX.out;rw[D6 hz he,Am]at this;exact this)
    have he':(z==(93:Int))=false:=by simpa using he
    clear hz he;go_wp2_with fail
    go_roundw
    case rel=>exact⟨j+1,by omega,by go_num,by first | trivial | rfl,hres.out⟩
    case measure=>simp[intOf];omega
  ·obtain rfl:j=l.length:=by omega
   have hres:=zH (show(-1:Int)=X by
    have:=HX.out;rw[List.drop_length]at this
    simpa[ixI,ix] using this)
   go_wp2_with fail
   go_ret;exact⟨il hres.out,rfl⟩
theorem BJ (l:List Int) (v:Value) (w:World) (hv:Sl .i32 w v l) (hl:l.length≤2000) (hz: ∀z∈l,-2147483648≤z∧z≤2147483647):
  Calls Tryz.prog 119 #[v] w fun e w'=>e= .returned (.string ⟨(enc l).toArray⟩)∧Below w.heap.size w w':=by
 have HE:=zH (zz l hl hz v w hv);obtain⟨a,cap,rfl⟩:=hv.len;clear hv hz;go_enter Tryz.func119,Tryz.ntmps119
 go_wp2_with fail
 refine HE.out.mono ?_;rintro e w1 ⟨u1,rfl,s1,b1⟩;have k1:=ik s1;have B1:=zH b1;clear HE s1 b1;go_wp2_with fail
 go_ret;exact⟨rfl,B1.out⟩
def J2 (w:World) (q:Nat) (o:Option (List Int×Nat)) (e:Ending) (w':World):Prop:=
 (match o with
  | none=>e= .returned (.tuple #[.string ⟨#[]⟩,.int .i64 (-1)])
  | some (n,k)=>e= .returned (.tuple #[.string ⟨(enc n).toArray⟩,.int .i64 ((q+k:Nat):Int)]))∧Below w.heap.size w w'
theorem jl (L:List Int) (a k:Nat):(L.take (a+k)).drop a=(L.drop a).take k:=by
 rw[List.drop_take,Nat.add_sub_cancel_left]
attribute [local go_sem ↓ high] sj
theorem xE (L:List Int) (v:Value) (q:Nat) (w:World) (hv:Sl .i32 w v L) (hq:q≤L.length) (hl:L.length≤2000) (hz: ∀z∈L,-2147483648≤z∧z≤2147483647):
  Calls Tryz.prog 79 #[v,.int .i64 (q:Int)] w (J2 w q (dD (L.drop q))):=by
 have HV:=zH hv;have HM:=zH (fun a b (h1:a≤b) (h2:b≤L.length)=>Ac hv a b h1 h2);have HTX:=zH (fun(l:List Int) u (h:Sl .i32 w u l) (h1:l.length≤2000) (h2: ∀z∈l,z∈L)=>BJ l u w h h1 (fun z hz'=>hz z (h2 z hz')));have hdl:(L.drop q).length=L.length-q:=by rw[Pi]
 cases hc:L[q]? with
 | none=>
  have:=List.getElem?_eq_none_iff.1 hc;have e:L.drop q=[]:=QM this;rw[e];obtain⟨a,cap,rfl⟩:=hv.len;have hz1:(L.length:Int)≤(q:Int):=by omega
  clear hv hz e hdl hc;go_enter Tryz.func79,Tryz.ntmps79
  go_wp2_with fail
  go_ret2
  exact⟨rfl,OX _ _⟩
 | some c=>
  have hlt:=(OV.1 hc).1;have hdc:=iG hc;have HCL:=zH (zB L v q w hv hq (by omega));obtain⟨a,cap,rfl⟩:=hv.len;obtain⟨g,off,rfl,c0⟩:=hv.at hc;have hz1: ¬(L.length:Int)≤(q:Int):=by omega
  have hz2:(q:Int)<(L.length:Int):=by omega
  have hz3:(0:Int)≤(q:Int):=by omega
  have hz4:L.length≤2000:=by omega
  have hrl:(L.drop (q+1)).length=L.length-(q+1):=by rw[Pi]
  by_cases h91:c=91
  ·subst h91
   cases hi:ix (L.drop (q+1))with
   | none=>
    have e:dD (L.drop q)=none:=by rw[hdc,dP,Pd (by decide),Pk rfl,hi]
    have hx:ixI q (ix (L.drop q))= -1:=by rw[hdc,mO,Pd (by decide),hi];rfl
    rw[hx]at HCL;rw[e];clear hv hz e hdl hc hdc hx hi hrl;go_enter Tryz.func79,Tryz.ntmps79
    go_wp2_with fail
    refine HCL.out.mono ?_;rintro e w1 ⟨rfl,rfl⟩;clear HCL;go_wp2_with fail
    go_ret2
    exact⟨rfl,OX _ _⟩
   | some j=>
    have hjl:=D7 _ _ hi;rw[hrl]at hjl;have e:dD (L.drop q)=some ((L.drop (q+1)).take j,j+2):=by rw[hdc,dP,Pd (by decide),Pk rfl,hi]
    have hx:ixI q (ix (L.drop q))=((q+1+j:Nat):Int):=by
     rw[hdc,mO,Pd (by decide),hi];show((j+1+q:Nat):Int)=_;omega
    rw[hx]at HCL;rw[e];obtain⟨u,k1,s1⟩:=HM.out (q+1) (q+1+j) (by omega) (by omega);rw[jl]at s1;have HT:=zH (HTX.out _ u s1 (by rw[Pg];omega) (fun z hz'=>List.mem_of_mem_drop (Qb hz')));have k1': ∀W:World,(xX (.slice (some ⟨g,off,none⟩) L.length cap) (.int .i64 ((q:Int)+1)) (.int .i64 ((q+1+j:Nat):Int))).run Tryz.prog W= .ok u W:=k1;obtain⟨N,hN⟩: ∃N,q+1+j=N:=⟨_,rfl⟩;rw[hN]at HCL k1';obtain⟨n,hn⟩: ∃n,(L.drop (q+1)).take j=n:=⟨_,rfl⟩;rw[hn]at HT ⊢;have hNb:N≤2000:=by omega
    have hN0: ¬(N:Int)<0:=by omega
    have HE:=zH (show((q+(j+2):Nat):Int)=(N:Int)+1 by omega);clear hv hz e hdl hc hdc hx hi hrl k1 s1 HTX HM hN hn hjl;go_enter Tryz.func79,Tryz.ntmps79
    go_wp2_with fail
    refine HCL.out.mono ?_;rintro e w1 ⟨rfl,rfl⟩;clear HCL;go_wp2_with fail
    refine HT.out.mono ?_;rintro e w1 ⟨rfl,b1⟩;have B1:=zH b1;clear HT b1;go_wp2_with fail
    go_ret2
    exact⟨by simp only;rw[HE.out];rfl,B1.out⟩
  ·have e91:(c==91)=false:=by simpa using h91
   by_cases h40:c=40
   ·subst h40
    by_cases hlen:(L.drop (q+1)).length<2
    ·have e:dD (L.drop q)=none:=by rw[hdc,dP,Pk rfl,Pk hlen]
     rw[e];have hz5:(L.length:Int)<(q:Int)+3:=by omega
     clear hv hz e hdl hc hdc hrl HCL HM HTX hlen h91;go_enter Tryz.func79,Tryz.ntmps79
     go_wp2_with fail
     go_ret2
     exact⟨rfl,OX _ _⟩
    ·have e:dD (L.drop q)=some ((L.drop (q+1)).take 2,3):=by rw[hdc,dP,Pk rfl,Pd hlen]
     rw[e];have hz5: ¬(L.length:Int)<(q:Int)+3:=by omega
     obtain⟨u,k1,s1⟩:=HM.out (q+1) (q+1+2) (by omega) (by omega);rw[jl]at s1;have HT:=zH (HTX.out _ u s1 (by rw[Pg];omega) (fun z hz'=>List.mem_of_mem_drop (Qb hz')));have k1': ∀W:World,(xX (.slice (some ⟨g,off,none⟩) L.length cap) (.int .i64 ((q:Int)+1)) (.int .i64 ((q:Int)+3))).run Tryz.prog W= .ok u W:=k1;obtain⟨n,hn⟩: ∃n,(L.drop (q+1)).take 2=n:=⟨_,rfl⟩;rw[hn]at HT ⊢;clear hv hz e hdl hc hdc hrl HCL HM HTX hlen h91 hn k1 s1;go_enter Tryz.func79,Tryz.ntmps79
     go_wp2_with fail
     refine HT.out.mono ?_;rintro e w1 ⟨rfl,b1⟩;have B1:=zH b1;clear HT b1;go_wp2_with fail
     go_ret2
     exact⟨rfl,B1.out⟩
   ·have e40:(c==40)=false:=by simpa using h40
    have e:dD (L.drop q)=some ((L.drop q).take 1,1):=by rw[hdc,dP,Pd h40,Pd h91];rfl
    rw[e];obtain⟨u,k1,s1⟩:=HM.out q (q+1) (by omega) (by omega);rw[jl]at s1;have HT:=zH (HTX.out _ u s1 (by rw[Pg];omega) (fun z hz'=>List.mem_of_mem_drop (Qb hz')));have k1': ∀W:World,(xX (.slice (some ⟨g,off,none⟩) L.length cap) (.int .i64 (q:Int)) (.int .i64 ((q:Int)+1))).run Tryz.prog W= .ok u W:=k1;obtain⟨n,hn⟩: ∃n,(L.drop q).take 1=n:=⟨_,rfl⟩;rw[hn]at HT ⊢;clear hv hz e hdl hc hdc hrl HCL HM HTX h91 h40 hn k1 s1;go_enter Tryz.func79,Tryz.ntmps79
    go_wp2_with fail
    refine HT.out.mono ?_;rintro e w1 ⟨rfl,b1⟩;have B1:=zH b1;clear HT b1;go_wp2_with fail
    go_ret2
    exact⟨rfl,B1.out⟩
end
def fstr (b:List UInt8):List Value:=[.string ⟨b.toArray⟩]
theorem Aq (b:List UInt8):(fstr b).length=1:=rfl
theorem Fs.str {w:World} {a:Option Addr} {m cap:Nat} {l:List (List UInt8)} (h:Fs 1 fstr w (.slice a m cap) l) {j:Nat} {s:List UInt8} (hj:l[j]? =some s): ∃g off,a=some ⟨g,off,none⟩∧w.cell? ⟨g,off+j,none⟩=some (.string ⟨s.toArray⟩):=by
 obtain⟨a',cap',hv,_,hr⟩:=h;injection hv with h1 h2 h3
 subst h1;obtain⟨g,off,rfl,h0⟩:=hr j s hj;have:=h0 0 _ rfl;rw[QU,PW]at this;exact⟨g,off,rfl,this⟩
def gZ:List (List UInt8×Int):=[([82],0),([66],1),([73],2),([66,73],3),([80],4)]
theorem Od: ∀(j:Nat) (p:List UInt8×Int),gZ[j]? =some p→p.2=j
 | 0,p,h=>by cases h;rfl
 | 1,p,h=>by cases h;rfl
 | 2,p,h=>by cases h;rfl
 | 3,p,h=>by cases h;rfl
 | 4,p,h=>by cases h;rfl
 | j+5,p,h=>by simp[gZ]at h
theorem tT {l:List (List UInt8×Int)} {j:Nat} {p:List UInt8×Int} (h:l[j]? =some p):bg (l.drop j) p.1=some p.2:=by
 obtain⟨hp,rfl⟩:=OV.1 h;rw[PX hp];simp[bg]
theorem qD {l:List (List UInt8×Int)} {j:Nat} {p:List UInt8×Int} {b:List UInt8} (h:l[j]? =some p) (hb: ¬p.1=b):bg (l.drop j) b=bg (l.drop (j+1)) b:=by
 obtain⟨hp,rfl⟩:=OV.1 h;rw[PX hp];simp[bg,hb]
theorem Lt {b:List UInt8} (h:bg gZ b=none):b≠ [82]∧b≠ [66]∧b≠ [73]∧b≠ [66,73]∧b≠ [80]:=by
 refine⟨?_,?_,?_,?_,?_⟩<;>(rintro rfl;exact absurd h (by decide))
theorem I7 {b:List UInt8} {i:Int} (h:bg gZ b=some i):jK b=some i:=by
 simp only[bg,gZ]at h
 split at h
 ·rename_i e;cases e;cases h;decide
 ·split at h
  ·rename_i e;cases e;cases h;decide
  ·split at h
   ·rename_i e;cases e;cases h;decide
   ·split at h
    ·rename_i e;cases e;cases h;decide
    ·split at h
     ·rename_i e;cases e;cases h;decide
     ·cases h
theorem CO {x:UInt8} (h0:49≤x.toNat) (h1:x.toNat≤52):jK [x]=some ((x.toNat:Int)-49):=by
 have:x=49∨x=50∨x=51∨x=52:=by
  have hx:x.toNat=49∨x.toNat=50∨x.toNat=51∨x.toNat=52:=by omega
  rcases hx with h | h | h | h
  ·exact .inl (Qt.1 h)
  ·exact .inr (.inl (Qt.1 h))
  ·exact .inr (.inr (.inl (Qt.1 h)))
  ·exact .inr (.inr (.inr (Qt.1 h)))
 rcases this with rfl | rfl | rfl | rfl<;>decide
theorem F8 {b:List UInt8} (h:bg gZ b=none) (h2: ∀x:UInt8,b=[x]→ ¬(49≤x.toNat∧x.toNat≤52)):jK b=none:=by
 obtain⟨a1,a2,a3,a4,a5⟩:=Lt h;have b1:b≠ [49]:=fun e=>h2 49 e (by decide)
 have b2:b≠ [50]:=fun e=>h2 50 e (by decide)
 have b3:b≠ [51]:=fun e=>h2 51 e (by decide)
 have b4:b≠ [52]:=fun e=>h2 52 e (by decide)
 unfold jK;simp[a1,a2,a3,a4,a5,b1,b2,b3,b4]
theorem sS (b:List UInt8) (w:World) (hb:b.length≤100000):
  Calls Tryz.prog 81 #[.string ⟨b.toArray⟩] w fun e w'=>e= .returned (.int .i64 ((jK b).getD (-1)))∧Below w.heap.size w w':=by
 have hsz:(⟨b.toArray⟩:ByteArray).size=b.length:=by simp[Go.Lib.size_eq]
 have B1:=af w (.cells #[.string ⟨#[82]⟩,.string ⟨#[66]⟩,.string ⟨#[73]⟩,.string ⟨#[66,73]⟩,.string ⟨#[80]⟩] 9);have S1:=zH (bR Aq w 9 (gZ.map (·.1)));obtain⟨W1,hW1⟩: ∃W1,w.alloc (.cells #[.string ⟨#[82]⟩,.string ⟨#[66]⟩,.string ⟨#[73]⟩,.string ⟨#[66,73]⟩,.string ⟨#[80]⟩] 9)=W1:=⟨_,rfl⟩;have S1':Hid (Fs 1 fstr (w.alloc (.cells #[.string ⟨#[82]⟩,.string ⟨#[66]⟩,.string ⟨#[73]⟩,.string ⟨#[66,73]⟩,.string ⟨#[80]⟩] 9)) (.slice (some ⟨w.heap.size,0,none⟩) 5 5) (gZ.map (·.1))):=S1;have HW:=zH hW1;rw[hW1]at B1 S1';have HB1:=zH B1;have HFT:=zH (fun i (h:bg gZ b=some i)=>I7 h);have HFN:=zH (fun(h:bg gZ b=none)=>F8 (b:=b) h);obtain⟨F,hF⟩: ∃F,jK b=F:=⟨_,rfl⟩;rw[hF]at HFT HFN;have HFF:=zH hF;rw[hF];obtain⟨X,hX⟩: ∃X,bg gZ b=X:=⟨_,rfl⟩;have HX:=zH hX;clear hF hW1 B1 S1 hX;go_enter Tryz.func81,Tryz.ntmps81
 go_wp2_with fail
 rw[HW.out];go_loopw [4] (fun i wr=> ∃j:Nat,j≤5∧i= .int .i64 j∧wr=W1∧bg (gZ.drop j) b=X) (fun i _=>5-(intOf i).toNat)
 case atStart=>exact⟨0,by omega,rfl,rfl,by simpa using HX.out⟩
 case round=>
  obtain⟨j,hj,rfl,rfl,hl⟩:=hrel;have HL:=zH hl;clear hl
  by_cases hlt:j<5
  ·obtain⟨p,hp⟩: ∃p,gZ[j]? =some p:=⟨gZ[j]'(by simpa[gZ] using hlt),OU _⟩
   obtain⟨g,off,he,c0⟩:=S1'.out.str (j:=j) (s:=p.1) (by simp[hp])
   cases he
   rw[Qu]at c0;have hpj:=Od j p hp;have hi0:(j:Int)<5:=by omega
   have hi1:(0:Int)≤(j:Int):=by omega
   by_cases he:p.1=b
   ·have hX:X=some (j:Int):=by
     rw[←HL.out,←he,tT hp,hpj]
    have hFj:=HFT.out (j:Int) (by rw[HX.out,hX]);subst hFj;have hbq:(p.1==b)=true:=by simpa using he
    clear hp hpj he hX
    try simp only[Qd]
    go_wp2_with fail
    go_ret;exact⟨rfl,HB1.out⟩
   ·have hnx:=zH (show bg (gZ.drop (j+1)) b=X by rw[←HL.out,qD hp he])
    have hbq:(p.1==b)=false:=by simpa using he
    clear hp hpj he;go_wp2_with fail
    go_roundw
    case rel=>exact⟨j+1,by omega,by go_num,by first | trivial | rfl,hnx.out⟩
    case measure=>simp[intOf];omega
  ·obtain rfl:j=5:=by omega
   have hXn:X=none:=by
    rw[←HL.out];rfl
   have HN:=HFN.out (by rw[HX.out,hXn])
   by_cases h1:b.length=1
   ·obtain⟨x,rfl⟩: ∃x,b=[x]:=by
     match b,h1 with
     | [x],_=>exact⟨x,rfl⟩
    have k0: ∀w,(Instr.index 9 (.string ⟨[x].toArray⟩) (.int .i64 0)).run Tryz.prog w= .ok (.int .u8 (x.toNat:Int)) w:=fe [x] 0 x rfl
    by_cases h2:49≤x.toNat∧x.toNat≤52
    ·have hFj:=HFF.out.symm.trans (CO h2.1 h2.2)
     subst hFj;obtain⟨h3,h4⟩:=h2;have h3':(49:Int)≤(x.toNat:Int):=by omega
     have h4':(x.toNat:Int)≤52:=by omega
     try simp only[Qd]
     clear HN HFF HFN HFT HX HL hXn;go_wp2_with fail
     go_ret;exact⟨rfl,HB1.out⟩
    ·have hFj:=HN (fun y hy=>by cases hy;exact h2)
     subst hFj
     try simp only[PP]
     clear HN HFF HFN HFT HX HL hXn
     by_cases h3:(49:Int)≤(x.toNat:Int)
     ·have h4: ¬(x.toNat:Int)≤52:=fun h=>h2 (by omega)
      clear h2;go_wp2_with fail
      go_ret;exact⟨rfl,HB1.out⟩
     ·clear h2
      go_wp2_with fail
      go_ret;exact⟨rfl,HB1.out⟩
   ·have hFj:=HN (fun y hy=>by rw[hy]at h1;exact absurd rfl h1)
    subst hFj
    try simp only[PP]
    have h1':((b.length:Int)==1)=false:=by simp;omega
    clear HN HFF HFN HFT HX HL hXn;go_wp2_with fail
    go_ret;exact⟨rfl,HB1.out⟩
def nmL:List (List UInt8):=fQ.map (·.1)
def nmR:List Int:=fQ.map (·.2)
theorem MR:fQ.length=30:=by decide
theorem Mg: ∀p∈fQ,0≤p.2∧p.2≤10000:=by decide+kernel
theorem gU.room6 {T:List UInt8} {R:Option Int} {acc:Int} {pos:Nat} (h:gU T R pos acc) (hp:pos≤6):acc<16777216:=by
 have hi:=h.hi;have:(16:Int)^ pos≤16 ^ 6:=by
  have:=Nat.pow_le_pow_right (n:=16) (by omega) hp
  exact_mod_cast this
 have e:(16:Int)^ 6=16777216:=by decide
 omega
theorem I4 {c:Int} (h0:48≤c) (h1:c≤57):gV c=some (c-48):=by unfold gV;rw[Pk ⟨h0,h1⟩]
theorem IZ {c:Int} (h0:65≤c) (h1:c≤70):gV c=some (c-55):=by unfold gV;rw[Pd (by omega),Pk ⟨h0,h1⟩]
theorem Ll {c:Int} (h0: ¬(48≤c∧c≤57)) (h1: ¬(65≤c∧c≤70)):gV c=none:=by unfold gV;rw[Pd h0,Pd h1]
theorem Mc {x:Int} (h0:0≤x) (h1:x≤1114111):(vld x=true∧ctl x=false)↔sf x=x:=by
 constructor
 ·intro h;unfold sf;rw[Pk h]
 ·intro h
  rw[←h];exact⟨MB x,Nv x⟩
theorem J8 {x:Int} (h:1114111<x): ¬(vld x=true∧ctl x=false):=by
 rintro⟨h1,-⟩;simp only[vld,PQ]at h1;omega
def AllEnd (w:World) (e:Ending) (w':World):Prop:= ∃g h,e= .returned (.tuple #[.slice (some ⟨g,0,none⟩) 30 30,.slice (some ⟨h,0,none⟩) 30 30])∧Fs 1 fstr w' (.slice (some ⟨g,0,none⟩) 30 30) nmL∧Sl .i32 w' (.slice (some ⟨h,0,none⟩) 30 30) nmR∧Below w.heap.size w w'
theorem LU (w:World):Calls Tryz.prog 120 #[] w (AllEnd w):=by
 have S1:Hid (Fs 1 fstr (w.alloc (.cells #[.string ⟨#[101,109]⟩,.string ⟨#[101,110]⟩,.string ⟨#[104,121]⟩,.string ⟨#[98,117]⟩,.string ⟨#[108,113]⟩,.string ⟨#[114,113]⟩,.string ⟨#[111,113]⟩,.string ⟨#[99,113]⟩,.string ⟨#[97,113]⟩,.string ⟨#[100,113]⟩,.string ⟨#[99,111]⟩,.string ⟨#[114,103]⟩,.string ⟨#[116,109]⟩,.string ⟨#[114,115]⟩,.string ⟨#[104,97]⟩,.string ⟨#[116,105]⟩,.string ⟨#[109,117]⟩,.string ⟨#[100,105]⟩,.string ⟨#[60,45]⟩,.string ⟨#[45,62]⟩,.string ⟨#[60,61]⟩,.string ⟨#[62,61]⟩,.string ⟨#[33,61]⟩,.string ⟨#[100,101]⟩,.string ⟨#[115,99]⟩,.string ⟨#[69,117]⟩,.string ⟨#[117,58]⟩,.string ⟨#[111,58]⟩,.string ⟨#[97,58]⟩,.string ⟨#[115,115]⟩] 9)) (.slice (some ⟨w.heap.size,0,none⟩) 30 30) nmL):=zH (bR Aq w 9 nmL);have HS2:Hid (∀W:World,Sl .i32 (W.alloc (.cells #[.int .i32 8212,.int .i32 8211,.int .i32 8208,.int .i32 8226,.int .i32 8220,.int .i32 8221,.int .i32 8216,.int .i32 8217,.int .i32 39,.int .i32 34,.int .i32 169,.int .i32 174,.int .i32 8482,.int .i32 92,.int .i32 94,.int .i32 126,.int .i32 215,.int .i32 247,.int .i32 8592,.int .i32 8594,.int .i32 8804,.int .i32 8805,.int .i32 8800,.int .i32 176,.int .i32 167,.int .i32 8364,.int .i32 252,.int .i32 246,.int .i32 228,.int .i32 223] 21)) (.slice (some ⟨W.heap.size,0,none⟩) 30 30) nmR):=zH (fun W=>jm (k:= .i32) W 21 nmR);go_enter Tryz.func120,Tryz.ntmps120
 go_wp2_with fail
 go_ret2
 refine⟨_,_,rfl,S1.out.below (af _ _),?_,((OX _ _).alloc (OW _) _).alloc (by simp) _⟩;have:=HS2.out (w.alloc (.cells #[.string ⟨#[101,109]⟩,.string ⟨#[101,110]⟩,.string ⟨#[104,121]⟩,.string ⟨#[98,117]⟩,.string ⟨#[108,113]⟩,.string ⟨#[114,113]⟩,.string ⟨#[111,113]⟩,.string ⟨#[99,113]⟩,.string ⟨#[97,113]⟩,.string ⟨#[100,113]⟩,.string ⟨#[99,111]⟩,.string ⟨#[114,103]⟩,.string ⟨#[116,109]⟩,.string ⟨#[114,115]⟩,.string ⟨#[104,97]⟩,.string ⟨#[116,105]⟩,.string ⟨#[109,117]⟩,.string ⟨#[100,105]⟩,.string ⟨#[60,45]⟩,.string ⟨#[45,62]⟩,.string ⟨#[60,61]⟩,.string ⟨#[62,61]⟩,.string ⟨#[33,61]⟩,.string ⟨#[100,101]⟩,.string ⟨#[115,99]⟩,.string ⟨#[69,117]⟩,.string ⟨#[117,58]⟩,.string ⟨#[111,58]⟩,.string ⟨#[97,58]⟩,.string ⟨#[115,115]⟩] 9))
 simpa using this
theorem sN (b:List UInt8) (w:World) (hb:b.length≤maxLen):
  Calls Tryz.prog 80 #[.string ⟨b.toArray⟩] w fun e w'=>e= .returned (.int .i64 ((lU b).getD (-1)))∧Below w.heap.size w w':=by
 have hsz:(⟨b.toArray⟩:ByteArray).size=b.length:=by simp[Go.Lib.size_eq]
 have HA:=zH (LU w);obtain⟨F,hF⟩: ∃F,lU b=F:=⟨_,rfl⟩;have HFF:=zH hF;rw[hF];obtain⟨X,hX⟩: ∃X,bg fQ b=X:=⟨_,rfl⟩;have HX:=zH hX;clear hF hX;go_enter Tryz.func80,Tryz.ntmps80
 go_wp2_with fail
 refine HA.out.mono ?_;rintro e w1 ⟨g,h,rfl,s1,s2,b1⟩;have S1:=zH s1;have S2:=zH s2;have B1:=zH b1;clear HA s1 s2 b1;go_wp2_with fail
 go_loopw [5] (fun i wr=> ∃j:Nat,j≤30∧i= .int .i64 j∧wr=w1∧bg (fQ.drop j) b=X) (fun i _=>30-(intOf i).toNat)
 case atStart=>exact⟨0,by omega,rfl,rfl,by simpa using HX.out⟩
 case round=>
  obtain⟨j,hj,rfl,rfl,hl⟩:=hrel;have HL:=zH hl;clear hl
  by_cases hlt:j<30
  ·obtain⟨p,hp⟩: ∃p,fQ[j]? =some p:=⟨fQ[j]'(by rw[MR];exact hlt),OU _⟩
   obtain⟨g',off,he,c0⟩:=S1.out.str (j:=j) (s:=p.1) (by simp[nmL,hp])
   cases he
   obtain⟨g',off,he,c1⟩:=S2.out.at (j:=j) (z:=p.2) (by simp[nmR,hp])
   cases he
   rw[Qu]at c0 c1;have hpb:=Mg p (P5 hp);have hi0:(j:Int)<30:=by omega
   have hi1:(0:Int)≤(j:Int):=by omega
   by_cases he:p.1=b
   ·have hFj:F=some p.2:=by
     have hX:X=some p.2:=by rw[←HL.out,←he,tT hp]
     rw[←HFF.out];unfold lU;rw[HX.out,hX]
    subst hFj;have hbq:(p.1==b)=true:=by simpa using he
    obtain⟨q0,q1⟩:=hpb;clear hp he
    try simp only[Qd]
    go_wp2_with fail
    go_ret;exact⟨rfl,B1.out⟩
   ·have hnx:=zH (show bg (fQ.drop (j+1)) b=X by rw[←HL.out,qD hp he])
    have hbq:(p.1==b)=false:=by simpa using he
    clear hp hpb he c1;go_wp2_with fail
    go_roundw
    case rel=>exact⟨j+1,by omega,by go_num,by first | trivial | rfl,hnx.out⟩
    case measure=>simp[intOf];omega
  ·obtain rfl:j=30:=by omega
   have HFN:Hid (F=numOf b):=zH (by
    have hX:X=none:=by
     rw[←HL.out];rfl
    rw[←HFF.out];unfold lU;rw[HX.out,hX])
   clear HL HX HFF S1 S2;have hi0: ¬(30:Int)<30:=by omega
   by_cases h1:b.length<5
   ·have HF:=HFN.out
    rw[qB h1]at HF;subst HF;have hl:(b.length:Int)<5:=by omega
    clear HFN h1
    try simp only[PP]
    go_wp2_with fail
    go_ret;exact⟨rfl,B1.out⟩
   ·have hl1: ¬(b.length:Int)<5:=by omega
    by_cases h2:7<b.length
    ·have HF:=HFN.out
     rw[tQ h2]at HF;subst HF;have hl:(7:Int)<(b.length:Int):=by omega
     clear HFN h1 h2
     try simp only[PP]
     go_wp2_with fail
     go_ret;exact⟨rfl,B1.out⟩
    ·have hl2: ¬(7:Int)<(b.length:Int):=by omega
     obtain⟨x,hx⟩: ∃x,b[0]? =some x:=⟨b[0],OU (by omega)⟩;have k0: ∀w,(Instr.index 9 (.string ⟨b.toArray⟩) (.int .i64 0)).run Tryz.prog w= .ok (.int .u8 (x.toNat:Int)) w:=fe b 0 x hx;have hhd:b.head? =some x:=by rw[←hx];exact List.head?_eq_getElem?
     by_cases h3:x=117
     ·subst h3
      have hne:((((117:UInt8).toNat:Int)) != 117)=false:=by decide
      have HN:=zH (HFN.out.trans (wh (by omega) (by omega) hhd));rw[show b.tail=b.drop 1 by simp]at HN;have HS:=zH (gU.start (b.drop 1));obtain⟨R,hR⟩: ∃R,vB (b.drop 1) 0=R:=⟨_,rfl⟩;rw[hR]at HN HS;have HK:=zH (fun(i:Nat) y (h:b[i]? =some y)=>fe b i y h);have HLn:=zH (show(b.drop 1).length=b.length-1 by simp);clear hhd hx hR HFN h1 h2;have k0': ∀w,(Instr.index 9 (.string ⟨b.toArray⟩) (.int .i64 0)).run Tryz.prog w= .ok (.int .u8 117) w:=k0;clear k0;go_wp2_with fail
      go_loopw [6,7] (fun n i wr'=> ∃(pos:Nat) (acc:Int),pos+1≤b.length∧i= .int .i64 ((pos+1:Nat):Int)∧wr'=wr∧n= .int .i64 acc∧gU (b.drop 1) R pos acc) (fun _ i _=>b.length-(intOf i).toNat)
      case atStart=>exact⟨0,0,by omega,rfl,rfl,rfl,HS.out⟩
      case round=>
       obtain⟨pos,acc,hpb,rfl,rfl,rfl,hh⟩:=hrel;have HH:=zH hh;have lo:=hh.lo;have ple:=hh.le;have hln:=HLn.out;have hroom:=hh.room6 (by omega);clear hh
       by_cases hlt:pos+1<b.length
       ·obtain⟨y,hy⟩: ∃y,b[pos+1]? =some y:=⟨b[pos+1],OU hlt⟩
        have hy':(b.drop 1)[pos]? =some y:=by rw[Qn,show 1+pos=pos+1 by omega];exact hy
        have ky: ∀w,(Instr.index 9 (.string ⟨b.toArray⟩) (.int .i64 ((pos:Int)+1))).run Tryz.prog w= .ok (.int .u8 (y.toNat:Int)) w:=HK.out (pos+1) y hy;have hi0:(pos:Int)+1<(b.length:Int):=by omega
        have hi1:(0:Int)≤(pos:Int)+1:=by omega
        have HY:=zH (fun d (h:gV (y.toNat:Int)=some d)=>HH.out.next hy' h);have HYN:=zH (fun(h:gV (y.toNat:Int)=none)=>HH.out.none hy' h);have hyb:(y.toNat:Int)≤255:=by have:=y.toNat_lt;omega
        obtain⟨c,hc⟩: ∃c:Int,(y.toNat:Int)=c:=⟨_,rfl⟩;have hc0:0≤c:=by omega
        rw[hc]at ky HY HYN hyb;have hroom5:=HH.out.room (by omega);clear hy hy' hc HH ple hln
        by_cases a:48≤c∧c≤57
        ·have HX:=zH (HY.out _ (I4 a.1 a.2))
         rw[show acc*16+(c-48)=16*acc+c-48 by omega]at HX;obtain⟨a1,a2⟩:=a;clear HY HYN;go_wp2_with fail
         go_roundw
         case rel=>exact⟨pos+1,_,by omega,by go_num,by first | trivial | rfl,rfl,HX.out⟩
         case measure=>simp[intOf];omega
        ·by_cases a':65≤c∧c≤70
         ·have HX:=zH (HY.out _ (IZ a'.1 a'.2))
          rw[show acc*16+(c-55)=16*acc+c-55 by omega]at HX;obtain⟨a1,a2⟩:=a';have a3: ¬c≤57:=by omega
          have a4:48≤c:=by omega
          clear HY HYN a;go_wp2_with fail
          go_roundw
          case rel=>exact⟨pos+1,_,by omega,by go_num,by first | trivial | rfl,rfl,HX.out⟩
          case measure=>simp[intOf];omega
         ·have hR:=HYN.out (Ll a a')
          have HF:=HN.out;rw[hR]at HF;simp only at HF;subst HF;clear HY HYN HN hR HK HLn
          try simp only[PP]
          by_cases a1:48≤c
          ·have a2: ¬c≤57:=fun h=>a ⟨a1,h⟩
           clear a
           by_cases b1:65≤c
           ·have b2: ¬c≤70:=fun h=>a' ⟨b1,h⟩
            clear a';go_wp2_with fail
            go_ret;exact⟨rfl,B1.out⟩
           ·clear a'
            go_wp2_with fail
            go_ret;exact⟨rfl,B1.out⟩
          ·have b1: ¬65≤c:=by omega
           clear a a';go_wp2_with fail
           go_ret;exact⟨rfl,B1.out⟩
       ·have hR:=HH.out.done (by omega)
        have hi0: ¬(pos:Int)+1<(b.length:Int):=by omega
        have HF:=HN.out;rw[hR]at HF;simp only at HF;have HSF:=zH (fun W=>EP acc W);clear hR HH HN HK HLn hln
        by_cases hbig:1114111<acc
        ·rw[Pd (J8 hbig)]at HF
         subst HF
         try simp only[PP]
         go_wp2_with fail
         go_ret;exact⟨rfl,B1.out⟩
        ·by_cases hsf:sf acc=acc
         ·rw[Pk ((Mc lo (by omega)).2 hsf)]at HF
          subst HF;rw[hsf]at HSF;clear hsf
          try simp only[Qd]
          go_wp2_with (go_at_call 121;refine(HSF.out _).mono ?_;rintro e w' ⟨rfl,rfl⟩)
          go_ret;exact⟨rfl,B1.out⟩
         ·rw[Pd (fun h=>hsf ((Mc lo (by omega)).1 h))]at HF
          subst HF;obtain⟨S,hS⟩: ∃S,sf acc=S:=⟨_,rfl⟩;rw[hS]at HSF hsf;have hne2:(S != acc)=true:=by simpa using hsf
          clear hS hsf
          try simp only[PP]
          go_wp2_with (go_at_call 121;refine(HSF.out _).mono ?_;rintro e w' ⟨rfl,rfl⟩)
          go_ret;exact⟨rfl,B1.out⟩
     ·have HF:=HFN.out
      rw[qC (by rw[hhd];intro h;exact h3 (by injection h))]at HF;subst HF;have hne:((x.toNat:Int) != 117)=true:=by
       rw[bne_iff_ne];intro h;exact h3 (Qt.1 (by have:x.toNat=117:=(by omega);exact this))
      clear HFN h1 h2 hhd hx h3
      try simp only[PP]
      go_wp2_with fail
      go_ret;exact⟨rfl,B1.out⟩
end Go.Proofs.YtebabjnngdjceaaGreatDoor

/- The walk of ManTexts. The walk of ManHeads: the document's answer Heads, and the rows that the law makes. The document's answer for layer 10: Heads. The walk of ManHeads. -/
import Derived.Test.YtebabjnngdjceaaGreatDoorYt
import Derived.Test.YtebabjnngdjceaaGreatDoorS3
import Derived.Test.YtebabjnngdjceaaGreatDoorHa
import Derived.Deep.RegionWith
import Derived.Deep.RegionLaw
import Derived.Test.YtebabjnngdjceaaGreatDoorBs
import Derived.Test.YtebabjnngdjceaaGreatDoorH2
import Derived.Test.YtebabjnngdjceaaGreatDoorE1
import Derived.Deep.RegionHeld3
import Derived.IntWalk
import Derived.Deep.DeepCutAuto
import Derived.StillTailTactics
import Derived.Test.YtebabjnngdjceaaGreatDoorH5
import Derived.Test.YtebabjnngdjceaaGreatDoorC5
import Derived.Test.YtebabjnngdjceaaGreatDoorZ0
import Derived.Test.YtebabjnngdjceaaGreatDoorKK
import Derived.Test.YtebabjnngdjceaaGreatDoorH4
set_option linter.unusedVariables false
set_option linter.unusedSimpArgs false
set_option maxRecDepth 100000
set_option maxHeartbeats 16000000
namespace Go.Proofs.YtebabjnngdjceaaGreatDoor
open Go.RowKit
noncomputable def za (args:Array Value):Sem Next:=do pure (.value (←Builtin.append_ #[25,25] 25 args))
theorem tH (cs:Array Bool) (args:Array Value):builtin .append #[25,25] 25 cs args=za args:=rfl
theorem Ez {W W':World} {args:Array Value} {v:Value} (h:(Builtin.append_ #[25,25] 25 args).run Tryz.prog W= .ok v W'):(za args).run Tryz.prog W= .ok (.value v) W':=by
 unfold za;simp[Nu,h]
attribute [irreducible] za
abbrev HV:=Int×Int×(Option Addr×Nat×Nat)
def hcell (r:HV):List Value:=[.int .i64 r.1,.int .i64 r.2.1,aO r.2.2]
theorem gZ (r:HV):(hcell r).length=3:=rfl
theorem D7 (r:HV): ∀u∈hcell r,u.oneCell'=true:=by
 intro u hu;simp[hcell,aO]at hu;rcases hu with rfl | rfl | rfl<;>rfl
theorem KC:(Tryz.prog.info? 51).map (fun i=>(i.zero,i.size,i.bytes))=some (some (.agg #[.int .i64 0,.int .i64 0,.slice none 0 0]),3,40):=by kernel_rfl
def hpl (L:List HV):List (Int×Int):=L.map fun x=>(x.1,x.2.1)
def dV (base:Nat) (W:World) (v:Value) (l:List (Int×Int)):Prop:= ∃L:List HV,ag 51 3 hcell base W v L∧hpl L=l
theorem dV.nil (base:Nat) (W:World):dV base W (.slice none 0 0) []:=⟨[],ag.nil _ _,rfl⟩
theorem nH (L:List HV):(hpl L).length=L.length:=by simp[hpl]
theorem dV.len {base:Nat} {W:World} {v:Value} {l:List (Int×Int)} (h:dV base W v l): ∃a c,v= .slice a l.length c:=by
 obtain⟨L,h,rfl⟩:=h;rw[nH];exact(ag.sl gZ h).len
theorem dV.keep {base:Nat} {W W':World} {v:Value} {l:List (Int×Int)} (h:dV base W v l) (hb:Below W.heap.size W W'):dV base W' v l:=by
 obtain⟨L,h,e⟩:=h;exact⟨L,ag.keep h hb,e⟩
theorem dV.at {base:Nat} {W:World} {v:Value} {l:List (Int×Int)} (h:dV base W v l) {j:Nat} {x:Int×Int} (hx:l[j]? =some x):
  ∃g off c,v= .slice (some ⟨g,off,none⟩) l.length c∧W.cell? ⟨g,off+j*3,none⟩=some (.int .i64 x.1)∧W.cell? ⟨g,off+j*3+1,none⟩=some (.int .i64 x.2):=by
 obtain⟨L,h,rfl⟩:=h;unfold hpl at hx;rw[NA]at hx
 cases hy:L[j]? with
 | none=>rw[hy]at hx;cases hx
 | some y=>
  rw[hy]at hx;obtain rfl:=MH hx;obtain⟨a,cap,e,hcap,hc⟩:=ag.sl gZ h;obtain⟨g,off,rfl,hh⟩:=hc j y hy;refine⟨g,off,cap,by rw[nH];exact e,hh 0 _ rfl,hh 1 _ rfl⟩
noncomputable def nP (args:Array Value):Sem Next:=do pure (.value (←Builtin.append_ #[48,48] 48 args))
theorem tJ (cs:Array Bool) (args:Array Value):builtin .append #[48,48] 48 cs args=nP args:=rfl
theorem uP {base:Nat} {W:World} {x u:Value} {l m:List HV} (h:ag 51 3 hcell base W x l) (hu:Fs 3 hcell W u m) (hb:base≤W.heap.size) (hd:l.length+m.length≤1000000):
  ∃x' w',(nP #[x,u]).run Tryz.prog W= .ok (.value x') w'∧ag 51 3 hcell base w' x' (l++m)∧W.grownBy w' x.ownBlock∧(x'.ownBlock=x.ownBlock∨x'.ownBlock=some W.heap.size):=by
 obtain⟨i0,hi,hz0,hz1,hz2⟩:=Ng KC;obtain⟨x',w',hr,r⟩:=jP gZ D7 (by decide) Tryz.underlying48 hi hz0 hz1 hz2 rfl (by decide) h hu hb hd;refine⟨x',w',?_,r⟩;unfold nP;simp only[Nu,Ny,Nb,hr]
theorem dV.push {base:Nat} {W:World} {x:Value} {l:List (Int×Int)} (h:dV base W x l) (hb:base≤W.heap.size) (hl:l.length≤500000) (k ln:Int) (a:Option Addr) (n c:Nat):
  ∃a' c' w',(nP #[x,.slice (some ⟨W.heap.size,0,none⟩) 1 1]).run Tryz.prog (W.alloc (.cells #[.int .i64 k,.int .i64 ln,.slice a n c] 51))= .ok (.value (.slice a' (l.length+1) c')) w'∧dV base w' (.slice a' (l.length+1) c') (l++ [(k,ln)])∧Below base W w':=by
 obtain⟨L,h,rfl⟩:=h;rw[nH]at hl ⊢;have b1:=af W (.cells #[.int .i64 k,.int .i64 ln,.slice a n c] 51);have hu:Fs 3 hcell (W.alloc (.cells #[.int .i64 k,.int .i64 ln,.slice a n c] 51)) (.slice (some ⟨W.heap.size,0,none⟩) 1 1) [(k,ln,a,n,c)]:=dB gZ W 51 [(k,ln,a,n,c)];obtain⟨x',w',hr,ho,hg,-⟩:=uP (ag.keep h b1) hu (MP hb b1.size) (by simp;omega);obtain⟨a',c',e⟩:=(ag.sl gZ ho).len;have hbel:=(ag.keep h b1).below (b1.mono hb) (MP hb b1.size) hg;have e2:(L++ [(k,ln,a,n,c)]).length=L.length+1:=by simp
 rw[e2]at e;subst e;exact⟨a',c',w',hr,⟨_,ho,by simp[hpl]⟩,hbel⟩
theorem dV.app {base b2:Nat} {W:World} {x u:Value} {l m:List (Int×Int)} (h:dV base W x l) (hu:dV b2 W u m) (hb:base≤W.heap.size) (hl:l.length+m.length≤500000):
  ∃x' w',(nP #[x,u]).run Tryz.prog W= .ok (.value x') w'∧dV base w' x' (l++m)∧Below base W w':=by
 obtain⟨L,h,rfl⟩:=h;obtain⟨M,hm,rfl⟩:=hu;rw[nH,nH]at hl;obtain⟨x',w',hr,ho,hg,-⟩:=uP h (ag.sl gZ hm) hb (by omega);exact⟨x',w',hr,⟨_,ho,by simp[hpl]⟩,h.below (Mr _ _) hb hg⟩
theorem EB {W W':World} {args:Array Value} {v:Value} (h:(nP args).run Tryz.prog W= .ok (.value v) W'):(Builtin.append_ #[48,48] 48 args).run Tryz.prog W= .ok v W':=by
 unfold nP at h;simp only[Nu,Ny]at h
 cases k:(Builtin.append_ #[48,48] 48 args).run Tryz.prog W with
 | ok v' w'=>rw[k]at h;simp only[Nb]at h;injection h with h1 h2;injection h1 with h1;rw[h1,h2]
 | _=>rw[k]at h;simp[Result.andThen]at h
attribute [irreducible] nP
mutual
theorem Jl: ∀x:Nd,(Ay x).length≤nlN x
 | .mk h ks=>by
  have h4:=pO ks;have e:hdl h=3+h.text.length+h.grid.cols.length+(h.rows.length+lens h.rows)+bV h.grid.rows:=rfl;simp only[Ay,nlN,MF]
  split<;>simp<;>omega
theorem pO: ∀l:List Nd,(dE l).length≤nlL l
 | []=>by simp[dE,nlL]
 | x::l=>by
  have h1:=Jl x;have h2:=pO l;simp only[dE,nlL,MF];omega
end
theorem Gj {l:List Nd} {p:Nat} {y:Nd} (hy:l[p]? =some y):dE (l.take (p+1))=dE (l.take p)++(if y.hd.kind=1∨y.hd.kind=2 then [(y.hd.kind,y.hd.line)] else [])++dE y.kids:=by
 rw[Nl,hy,jh];obtain⟨h,ks⟩:=y;simp only[Option.toList_some,dE,Ay,MQ,←Ni];rfl
def HdQ (base:Nat) (l:List (Int×Int)) (w:World) (e:Ending) (w':World):Prop:= ∃u,e= .returned u∧dV base w' u l∧Below base w w'
def hdQ:Nat→List Bool→List (Int×Bool)
 | _,[]=>[]
 | i,b::l=>((2+2*i:Nat),b)::hdQ (i+1) l
theorem pQ: ∀(i:Nat) (l:List Bool),(hdQ i l).length=l.length
 | i,[]=>rfl
 | i,b::l=>by simp[hdQ,pQ (i+1) l]
theorem AA: ∀(i:Nat) (l:List Bool) (j:Nat),(hdQ i l)[j]? =(l[j]?).map fun b=>(((2+2*(i+j):Nat):Int),b)
 | i,[],j=>by simp[hdQ]
 | i,b::l,0=>by simp[hdQ]
 | i,b::l,j+1=>by
  have:=AA (i+1) l j;simp only[hdQ,Mk,this];rw[show i+1+j=i+(j+1) by omega]
theorem yz: ∀(i:Nat) (l:List Bool) (b:Bool),hdQ i (l++ [b])=hdQ i l++ [(((2+2*(i+l.length):Nat):Int),b)]
 | i,[],b=>by simp[hdQ]
 | i,a::l,b=>by
  have:=yz (i+1) l b;simp only[Nn,hdQ,this,MB];rw[show i+1+l.length=i+(l.length+1) by omega]
theorem Jp (i:Nat) (l:List Bool) (q:Int×Bool) (h:q∈hdQ i l):0≤q.1∧q.1≤2+2*((i:Int)+l.length):=by
 obtain⟨j,hj⟩:=NH.1 h;rw[AA]at hj
 cases hb:l[j]? with
 | none=>rw[hb]at hj;cases hj
 | some b=>
  rw[hb]at hj;obtain rfl:=MH hj;have:=(Mm.1 hb).1;simp only;omega
def Fu (q:Int×Bool):List Row:=[(q.1,if q.2 then [83,83] else [83,72],[[97]],[]),(q.1+1,[],[],[98])]
def JQ:Row:=(1,[84,72],[[120]],[])
def hdR (l:List Bool):List Row:=JQ::(hdQ 0 l).flatMap Fu
theorem JS (l:List Bool):(hdR l).map toM=⟨1,mTH,[[120]],[]⟩::(hdQ 0 l).flatMap ow:=by
 unfold hdR;rw[Nh,List.map_flatMap];refine congr (MI _ (by rfl)) ?_;refine MI (fun f=>List.flatMap f (hdQ 0 l)) (funext fun q=>?_);obtain⟨a,b⟩:=q
 cases b<;>rfl
theorem ww (l:List Bool):(hdR l).length=1+2*l.length:=by
 unfold hdR;rw[MB,List.length_flatMap];have:((hdQ 0 l).map fun q=>(Fu q).length)=List.replicate l.length 2:=by
  rw[List.eq_replicate_iff];refine⟨by rw[ND,pQ],fun b hb=>?_⟩;obtain⟨q,-,rfl⟩:=List.mem_map.1 hb;rfl
 rw[this];simp;omega
theorem yx (l:List Bool) (b:Bool):hdR (l++ [b])=hdR l++ [(((2+2*l.length:Nat):Int),if b then [83,83] else [83,72],[[97]],[]),(((2+2*l.length:Nat):Int)+1,[],[],[98])]:=by
 unfold hdR;rw[yz,List.flatMap_append,N9];simp[Fu]
theorem Ch {l:List Bool} {r:aW} (h:r∈(hdR l).map toM):r=⟨1,mTH,[[120]],[]⟩∨ ∃ln:Int,r=⟨ln,mSS,[[97]],[]⟩∨r=⟨ln,mSH,[[97]],[]⟩∨r=⟨ln,[],[],[98]⟩:=by
 rw[JS,Nr]at h;rcases h with rfl | h
 ·exact .inl rfl
 ·right
  obtain⟨q,-,hr⟩:=List.mem_flatMap.1 h;obtain⟨a,b⟩:=q;simp only[ow,Nr,Nj,Ob]at hr;rcases hr with rfl | rfl
  ·cases b
   ·exact⟨a,.inr (.inl rfl)⟩
   ·exact⟨a,.inl rfl⟩
  ·exact⟨a+1,.inr (.inr rfl)⟩
theorem Gm (l:List Bool) (h:l.length≤30):iM ((hdR l).map toM)≤2100:=by
 have h0: ∀r∈(hdR l).map toM,rwt r≤34:=fun r hr=>by
  rcases Ch hr with rfl | ⟨ln,rfl | rfl | rfl⟩<;>(unfold rwt;simp[lnT])
 have h1: ∀m:List aW,(∀r∈m,rwt r≤34)→iM m≤34*m.length:=by
  intro m
  induction m with
  | nil=>intro _;simp[iM]
  | cons r m ih=>
   intro hm;have h2:=hm r (by simp);have h3:=ih (fun q hq=>hm q (by simp[hq]));have h4:iM (r::m)=rwt r+iM m:=by simp[iM]
   rw[h4,MB];omega
 have h2:=h1 _ h0;rw[ND,ww]at h2;omega
theorem rE {l:List Bool} {r:aW} (h:r∈(hdR l).map toM):fe r∧r.mac≠ [84,83]∧r.mac.length≤100000:=by
 rcases Ch h with rfl | ⟨ln,rfl | rfl | rfl⟩
 ·exact⟨⟨by decide,by decide,by decide⟩,by decide,by decide⟩
 ·exact⟨⟨by simp,by simp[lnT],by simp⟩,by simp[mSS],by simp[mSS]⟩
 ·exact⟨⟨by simp,by simp[lnT],by simp⟩,by simp[mSH],by simp[mSH]⟩
 ·exact⟨⟨by simp,by simp[lnT],by simp⟩,by simp,by simp⟩
theorem Gn (l:List Bool) (h:l.length≤30):PB ((hdR l).map toM):=
 BN (fun r hr=>(rE hr).1) (fun r hr=>(rE hr).2.1) (fun r hr=>(rE hr).2.2) (by have:=Gm l h;omega)
theorem Jo (l:List Bool) (h:l.length≤30):btl (bX I9 ((hdR l).map toM)).b≤2120:=by
 have h1:=yV (rs:=(hdR l).map toM) (fun r hr=>(rE hr).1) (fun r hr=>(rE hr).2.1);have h2:=Gm l h;omega
def lead:List Bool→Nat
 | true::l=>lead l+1
 | _=>0
theorem BV: ∀l:List Bool,lead l≤l.length
 | []=>by simp[lead]
 | true::l=>by have:=BV l;simp[lead];omega
 | false::l=>by simp[lead]
theorem BX: ∀(l:List Bool) (j:Nat),j<lead l→l[j]? =some true
 | true::l,0,_=>rfl
 | true::l,j+1,h=>by rw[Mk];exact BX l j (by simp[lead]at h;omega)
 | false::l,j,h=>by simp[lead]at h
 | [],j,h=>by simp[lead]at h
theorem ym: ∀(l:List Bool),lead l<l.length→l[lead l]? =some false
 | true::l,h=>by
  have e:lead (true::l)=lead l+1:=rfl;rw[e,Mk];rw[e,MB]at h;exact ym l (by omega)
 | false::l,h=>rfl
 | [],h=>by simp at h
def hdP (q:Int×Bool):Int×Int:=(if q.2 then 2 else 1,q.1)
theorem Gl: ∀l:List (Int×Bool),hdW l true=l.map hdP
 | []=>rfl
 | q::l=>by
  obtain⟨a,b⟩:=q;have ih:=Gl l
  cases b<;>simp[hdW,hdP,ih]
theorem Cg: ∀(i:Nat) (l:List Bool),hdW (hdQ i l) false=((hdQ i l).drop (lead l)).map hdP
 | i,[]=>rfl
 | i,true::l=>by
  have ih:=Cg (i+1) l;simp[hdQ,hdW,lead,ih]
 | i,false::l=>by
  have h:=Gl (hdQ (i+1) l);simp[hdQ,hdW,lead,hdP,h]
theorem Jn (l:List Bool) (h:l.length≤30):(bX I9 ((hdR l).map toM)).d=[]∧dE (mD (bX I9 ((hdR l).map toM)).b)=((hdQ 0 l).drop (lead l)).map hdP:=by
 rw[JS,←Cg];exact vU KV LP 1 [120] (hdQ 0 l) (by rw[pQ];omega) (fun q hq=>by have:=Jp 0 l q hq;omega)
theorem Lr (l:List Bool) (i:Nat) (h:i<l.length-lead l): ∃b,l[lead l+i]? =some b∧(((hdQ 0 l).drop (lead l)).map hdP)[i]? =some (if b then 2 else 1,((2+2*(lead l+i):Nat):Int)):=by
 have hl:lead l+i<l.length:=by omega
 refine⟨l[lead l+i],Mq hl,?_⟩;rw[NA,NI,AA,Mq hl];simp[hdP]
theorem qB {base:Nat} {W:World} {rv:Value} {l:List Row} (h:bZ base W rv l) (hb:base≤W.heap.size) (hl:l.length≤500000) (y z:Row) (a b:Option Addr×Nat×Nat) (hA:gK base W (aO a) y.2.2.1) (hB:gK base W (aO b) z.2.2.1) (C:Array Value) (hC:C=(ah (y.1,y.2.1,a,y.2.2.2)++ah (z.1,z.2.1,b,z.2.2.2)).toArray):
  ∃a' c' w3,(za #[rv,.slice (some ⟨W.heap.size,0,none⟩) 2 2]).run Tryz.prog (W.alloc (.cells C 33))= .ok (.value (.slice a' (l.length+2) c')) w3∧bZ base w3 (.slice a' (l.length+2) c') (l++ [y,z])∧Below base W w3:=by
 obtain⟨L,hL,hI⟩:=h;obtain⟨i0,hi,hz0,hz1,hz2⟩:=Ng Gg;have b1:=af W (.cells C 33);have h1:=hL.keep b1;have hu:Fs 4 ah (W.alloc (.cells C 33)) (.slice (some ⟨W.heap.size,0,none⟩) 2 2) [(y.1,y.2.1,a,y.2.2.2),(z.1,z.2.1,b,z.2.2.2)]:=by
  have:=dB fq W 33 [(y.1,y.2.1,a,y.2.2.2),(z.1,z.2.1,b,z.2.2.2)];rw[dI,dw,←hC]at this;exact this
 obtain⟨v',w2,hrun,ho,hg,hq⟩:=jP fq uj (by decide) Tryz.underlying25 hi hz0 hz1 hz2 rfl (by decide) h1 hu (by simp;omega) (by rw[hI.1];simp;omega);have hrow: ∀r,rv.ownBlock=some r→base≤r∧ ∃cur,(W.alloc (.cells C 33)).heap[r]? =some (.cells cur 33 (0,0)):=fun r hr=>h1.ty hr
 have hs:aG 9 base (W.alloc (.cells C 33)) w2:=aG.grown hg (fun r hr=>by
  obtain⟨-,cur,e⟩:=hrow r hr;exact⟨cur,_,e,by decide⟩)
 have hR:bZ base w2 v' (l++ [y,z]):=by
  refine⟨_,ho,?_⟩;have h3:=((hI.mono fun v a ha=>(ha.keep b1).held hs).snoc (x:=(y.1,y.2.1,a,y.2.2.2)) (y:=y) ⟨rfl,rfl,rfl,(hA.keep b1).held hs⟩).snoc (x:=(z.1,z.2.1,b,z.2.2.2)) (y:=z) ⟨rfl,rfl,rfl,(hB.keep b1).held hs⟩
  simpa[Ni] using h3
 obtain⟨a',c',e⟩:=hR.len;have e2:(l++ [y,z]).length=l.length+2:=by simp
 rw[e2]at e;subst e;exact⟨a',c',w2,Ez hrun,hR,h1.below (b1.mono hb) (by simp only[MG];omega) hg⟩
theorem Fq {base:Nat} {W:World} (hb:base≤W.heap.size) (y:Row) (a:Option Addr×Nat×Nat) (hA:gK base W (aO a) y.2.2.1) (C:Array Value) (hC:C=(ah (y.1,y.2.1,a,y.2.2.2)).toArray):
  bZ base (W.alloc (.cells C 33)) (.slice (some ⟨W.heap.size,0,none⟩) 1 1) [y]:=by
 have b1:=af W (.cells C 33);refine⟨[(y.1,y.2.1,a,y.2.2.2)],?_,?_⟩
 ·have:=fF (e:=33) fq W hb [(y.1,y.2.1,a,y.2.2.2)] (show(1:Nat)≤maxLen from by decide)
  rw[dw,←hC]at this;exact this
 ·exact(jN.nil _).snoc ⟨rfl,rfl,rfl,hA.keep b1⟩
section
attribute [local go_sem ↓ high] tJ
theorem QUj {P:Prop}(h:P:=by
 go_wp2_with fail
 go_region_law ((refine bO rfl (.tmp 25) (.tmp 42) 48 48 rfl _ _ rfl rfl r5 ?_))
 all_goals
  go_wp2_with fail
  refine HE5.out.mono ?_;rintro e w6 ⟨u,rfl,x',w7,r7,o7,b7⟩;clear HE5;go_wp2_with fail
  go_roundw
  case rel=>exact⟨p+1,by omega,by go_num,o7,b7⟩
  case measure=>(simp[intOf];try omega)):P:=h
theorem zL (S:Nat→Prop): ∀(n:Nat) (l:List Nd),aD l=n→ ∀(v:Value) (w:World),NsS S w v l→(∀b,S b→b<w.heap.size)→nlL l≤100000→
  Calls Tryz.prog 14 #[v] w (HdQ w.heap.size (dE l) w):=by
 intro n
 induction n using Nat.strongRecOn with
 | _ n IH=>
  intro l hn v w hv hS hl;subst hn;have HV:=zH hv;have HS:=zH hS;obtain⟨aa,ca,rfl⟩:=hv.len;have HI:Hid (∀(m:List Nd),aD m<aD l→ ∀(v:Value) (w:World),NsS S w v m→(∀b,S b→b<w.heap.size)→nlL m≤100000→Calls Tryz.prog 14 #[v] w (HdQ w.heap.size (dE m) w)):=zH (fun m hm=>IH (aD m) hm m rfl);have hll:=lM l;have hcl:=lL l;clear hv hS IH;go_enter Tryz.func14,Tryz.ntmps14
  go_wp2_with fail
  go_loopw [3,4] (fun s i wr=> ∃p:Nat,p≤l.length∧i= .int .i64 (p:Int)∧Hid (dV w.heap.size wr s (dE (l.take p)))∧Hid (Below w.heap.size w wr)) (fun _ i _=>l.length-(intOf i).toNat)
  case atStart=>exact⟨0,by omega,rfl,zH (dV.nil _ _),zH (Mr _ _)⟩
  case round=>
   obtain⟨p,hp,rfl,HO,BW⟩:=hrel
   by_cases hlt:p<l.length
   ·obtain⟨y,hy⟩: ∃y,l[p]? =some y:=⟨l[p],Mq hlt⟩
    have HN:=zH (Gj hy);have hle:=rX hy;have hnl:=ut hy;have hv1:=pO (l.take p);have hkl:=pO y.kids;have hlt':(p:Int)<(l.length:Int):=by omega
    have hp0:(0:Int)≤(p:Int):=by omega
    have hp9:l.length≤100000:=by omega
    obtain⟨g,off,⟨t1,t2,t3⟩,⟨k1,k2,k3⟩,⟨r1,r2,r3⟩,⟨q1,q2,q3⟩,rfl,hA⟩:=HV.out.at hy;have HA:Hid (∀W,Below w.heap.size w W→NAt S W g (off+p*10) y (t1,t2,t3) (k1,k2,k3) (r1,r2,r3) (q1,q2,q3)):=zH (fun W hb=>hA.keep (Kp.below hb HS.out));obtain⟨kn,hkn⟩: ∃n,y.kids.length=n:=⟨_,rfl⟩;have HKN:=zH hkn;obtain⟨tn,htn⟩: ∃n,y.hd.text.length=n:=⟨_,rfl⟩;obtain⟨kd,hkd⟩: ∃n,y.hd.kind=n:=⟨_,rfl⟩;obtain⟨ln,hln⟩: ∃n,y.hd.line=n:=⟨_,rfl⟩;have N:=HA.out wr BW.out;have u0:wr.cell? ⟨g,off+p*10,none⟩=some (.int .i64 kd):=by rw[←hkd];exact N.c0
    have u1:wr.cell? ⟨g,off+p*10+1,none⟩=some (.int .i64 ln):=by rw[←hln];exact N.c1
    have u3:wr.cell? ⟨g,off+p*10+3,none⟩=some (.slice t1 tn t3):=by rw[←htn];exact N.c3
    have u4:wr.cell? ⟨g,off+p*10+4,none⟩=some (.slice k1 kn k3):=by rw[←HKN.out];exact N.c4
    rw[hkd,hln]at HN;obtain⟨H0,hH0⟩: ∃m,dE (l.take p)=m:=⟨_,rfl⟩;rw[hH0]at HO hv1 HN;have HEND:Hid (∀v W,dV w.heap.size W v (H0++(if kd=1∨kd=2 then [(kd,ln)] else []))→Below w.heap.size w W→Calls Tryz.prog 14 #[.slice k1 kn k3] W fun e w2=> ∃u,e= .returned u∧ ∃x' w',(nP #[v,u]).run Tryz.prog w2= .ok (.value x') w'∧Hid (dV w.heap.size w' x' (dE (l.take (p+1))))∧Hid (Below w.heap.size w w')):=zH (fun v W ho hb=>by
     have hr:=HI.out y.kids (by omega) (.slice k1 y.kids.length k3) W (HA.out W hb).kids (fun b q=>Ms (HS.out b q) hb.size) (by omega);rw[HKN.out]at hr;refine hr.mono ?_;rintro e w2 ⟨u,rfl,o2,b2⟩;have hsz:(H0++(if kd=1∨kd=2 then [(kd,ln)] else [])).length≤200000:=by
      rw[MF]
      split<;>simp<;>omega
     obtain⟨x',w',k1,k2,k3⟩:=(ho.keep b2).app o2 (MP hb.size b2.size) (by omega);exact⟨u,rfl,x',w',k1,zH (by rw[HN.out];exact k2),zH ((hb.trans (b2.mono hb.size)).trans k3)⟩)
    by_cases hh:kd=1∨kd=2
    ·have hbd:Below wr.heap.size wr wr.drew:=(Mr _ wr).drew
     have HPU:=dV.push (W:=wr.drew) (HO.out.keep hbd) BW.out.size (by omega) kd ln t1 tn t3;obtain⟨sa,sc,hs⟩:=HO.out.len;obtain⟨sn,hsn⟩: ∃n,H0.length=n:=⟨_,rfl⟩;rw[hsn]at hs HPU;subst hs;obtain⟨a5,c5,w5,r5',o5,b5⟩:=HPU;have r5:=EB r5';rw[MO hh]at HEND;have HB5:=zH ((BW.out.trans (hbd.mono BW.out.size)).trans b5);have HE5:=zH (HEND.out _ _ o5 HB5.out);have v4:w5.cell? ⟨g,off+p*10+4,none⟩=some (.slice k1 kn k3):=by rw[←HKN.out];exact(HA.out w5 HB5.out).c4
     clear hA hkn htn hkd hln hv1 hH0 N HEND o5 b5 HB5 hy hle hnl hkl hll hcl hsn HO HN r5' hbd;rcases hh with rfl | rfl
     ·exact QUj
     ·exact QUj
    ·have hk1:(kd==1)=false:=by simp;omega
     have hk2:(kd==2)=false:=by simp;omega
     have HE5:=zH (HEND.out _ wr (by rw[ME hh,MQ];exact HO.out) BW.out);clear hA hkn htn hkd hln hv1 hH0 N HEND hy hle hnl hkl hll hcl HO HN hh;go_wp2_with fail
     refine HE5.out.mono ?_;rintro e w6 ⟨u,rfl,x',w7,r7,o7,b7⟩;clear HE5;go_wp2_with fail
     go_roundw
     case rel=>exact⟨p+1,by omega,by go_num,o7,b7⟩
     case measure=>(simp[intOf];try omega)
   ·obtain rfl:p=l.length:=by omega
    have hlt': ¬(l.length:Int)<(l.length:Int):=by omega
    rw[Na]at HO;go_wp2_with fail
    go_ret;exact⟨_,rfl,HO.out,BW.out⟩
end
section
attribute [local go_sem ↓ high] tH
theorem QUk {P:Prop}(h:P:=by
 obtain⟨z,rfl,hz,HBz⟩:=hrel
 by_cases hzl:z<kj
 ·obtain⟨b,hb1,hb2⟩:=HAT.out z hzl
  obtain⟨m,hm⟩: ∃m,j+z=m:=⟨_,rfl⟩;have hmi:(j:Int)+(z:Int)=(m:Int):=by omega
  rw[hm]at hb1;rw[hmi]at hb2;obtain⟨g5,o5,c5,e5,x0,x1⟩:=(HD3.out.keep HBz.out).at hb2;injection e5 with e6 e7 e8
  subst e6;obtain⟨g6,o6,e9,ch6⟩:=HHk.out wr (HB3.out.trans (HBz.out.mono HB3.out.size)) m b hb1
  cases e9
  have hz0:(0:Int)≤(z:Int):=by omega
  have hz1:(z:Int)<(kj:Int):=by omega
  have hm0:(0:Int)≤(m:Int):=by omega
  have hm1:(m:Int)<(k:Int):=by omega
  have hwm:IntKind.i64.wrap ((j:Int)+(z:Int))=(m:Int):=by rw[hmi];exact eG (by omega) (by omega)
  have hw1:IntKind.i64.wrap (2*(m:Int))=2*(m:Int):=eG (by omega) (by omega);have hw2:IntKind.i64.wrap (2+2*(m:Int))=2+2*(m:Int):=eG (by omega) (by omega);have hnn:((2+2*(m:Int)) != (2+2*(m:Int)))=false:=by simp
  have HBy:Hid (∀W,Below wr.heap.size wr W→Below w3.heap.size w3 W):=zH (fun W hb=>HBz.out.trans (hb.mono HBz.out.size));clear hb1 hb2 hm hmi e7 e8
  cases b
  ·simp only[MX,NU]at x0
   go_wp2_with fail
   go_quiet (fail)
   go_wp2
   go_roundw
   case rel=>exact⟨z+1,by go_num,by omega,zH (HBy.out _ (below_drewN (Mr _ _) _))⟩
   case measure=>simp[intOf];omega
  ·simp only[if_true]at x0
   go_wp2_with fail
   go_quiet (fail)
   go_wp2
   go_roundw
   case rel=>exact⟨z+1,by go_num,by omega,zH (HBy.out _ (below_drewN (Mr _ _) _))⟩
   case measure=>simp[intOf];omega
 ·obtain rfl:z=kj:=by omega
  have hzn: ¬(z:Int)<(z:Int):=by omega
  have HB9:=zH (HB3.out.trans (HBz.out.mono HB3.out.size));go_wp2_with fail
  refine(HK.out _ HB9.out).mono ?_;rintro e w9 ⟨rfl,b9⟩;have B9:=zH b9;clear b9;go_wp2_with fail
  go_ret;exact⟨rfl,B9.out⟩):P:=h
theorem QUl {P:Prop}(h:P:=by
 rw[zs]at hr;have HR3:Hid (bZ w.heap.size w3 (.slice ra ((hdR (H.take k)).length+2) rc) (hdR (H.take (k+1)))):=zH (by
  rw[HSN.out,yx,HKL.out,show(((2+2*k:Nat):Int))=2+2*(k:Int) by omega,show(2+2*(k:Int))+1=3+2*(k:Int) by omega];exact ho)
 have HB3:Hid (Below w.heap.size w w3):=zH (HB.out.trans ((bs.mono HB.out.size).trans hb3));obtain⟨ra0,rc0,hru⟩:=HR.out.len;subst hru;obtain⟨rn0,hrn0⟩: ∃n,(hdR (H.take k)).length=n:=⟨_,rfl⟩;rw[hrn0]at hr HR3 ⊢;clear hS bs zs ho hb3 hrn0 HR HB;go_wp2_with fail
 go_roundw
 case rel=>exact⟨k+1,by go_num,by omega,HR3,HB3⟩
 case measure=>simp[intOf];omega):P:=h
theorem vV {w:World} (hU:U8 w) (hEr:Er w) (hMx:Mx w) (H:List Bool) (vh:Value) (hh:Fs 1 sF w vh H) (hHl:H.length≤2000000):
  Calls Tryz.prog 5 #[vh] w fun e w'=>e= .returned (.bool true)∧Below w.heap.size w w':=by
 have HK:Hid (∀W,Below w.heap.size w W→Calls Tryz.prog 8 #[] W fun e w'=>e= .returned (.bool true)∧Below w.heap.size w w'):=
  zH (fun W hb=>(yt (hU.below hb) (hEr.below hb) (hMx.below (Mo _) hb)).mono fun e w' ⟨e1,e2⟩=>⟨e1,hb.trans (e2.mono hb.size)⟩)
 have HPA:Hid (∀V v,Below w.heap.size w V→Rws V v (hdR H)→H.length≤30→Calls Tryz.prog 10 #[v] V (sK V (bX I9 ((hdR H).map toM)))):=zH (fun V v hb hv h1=>Db (hU.below hb) (hEr.below hb) hv (Gn H h1));obtain⟨ha,hc,rfl⟩:=hh.len;have HH:=zH hh;obtain⟨M,hM⟩: ∃N,H.length=N:=⟨_,rfl⟩;have HM:=zH hM;have HHk:Hid (∀W,Below w.heap.size w W→ ∀(k:Nat) (y:Bool),H[k]? =some y→ ∃hg ho,ha=some ⟨hg,ho,none⟩∧W.cell? ⟨hg,ho+k,none⟩=some (.bool y)):=zH (fun W hb k y hy=>by
  obtain⟨a9,c9,e9,h9,r9⟩:=Fs.below HH.out hb;injection e9 with e1 e2 e3
  subst e1;obtain⟨b9,o9,e8,c8⟩:=r9 k y hy;have:=c8 0 _ rfl;simp only[Oz,Nq]at this;exact⟨b9,o9,e8,this⟩)
 rw[hM]at hHl ⊢;clear hU hEr hMx hh hM
 by_cases hg:30<M
 ·have hg':(30:Int)<(M:Int):=by omega
  go_enter Tryz.func5,Tryz.ntmps5
  go_wp2_with fail
  refine(HK.out _ (Mr _ _)).mono ?_;rintro e w9 ⟨rfl,b9⟩;go_wp2_with fail
  go_ret;exact⟨rfl,b9⟩
 ·have hg': ¬(30:Int)<(M:Int):=by omega
  have bs0:=af w (.cells #[.string ⟨#[120]⟩] 9);have zs0:(w.alloc (.cells #[.string ⟨#[120]⟩] 9)).heap.size=w.heap.size+1:=MG _ _;have hS0:gK w.heap.size (w.alloc (.cells #[.string ⟨#[120]⟩] 9)) (.slice (some ⟨w.heap.size,0,none⟩) 1 1) [[120]]:=fF bP w (Mo _) [[120]] (show(1:Nat)≤maxLen from by decide);have hR0:=Fq (base:=w.heap.size) (W:=w.alloc (.cells #[.string ⟨#[120]⟩] 9)) (by omega) JQ (some ⟨w.heap.size,0,none⟩,1,1) hS0 #[.int .i64 1,.string ⟨#[84,72]⟩,.slice (some ⟨w.heap.size,0,none⟩) 1 1,.string ⟨#[]⟩] rfl;have hb0:=bs0.trans ((af (w.alloc (.cells #[.string ⟨#[120]⟩] 9)) (.cells #[.int .i64 1,.string ⟨#[84,72]⟩,.slice (some ⟨w.heap.size,0,none⟩) 1 1,.string ⟨#[]⟩] 33)).mono bs0.size);rw[zs0]at hR0;have HR0:=zH (show bZ _ _ _ (hdR (H.take 0)) from hR0);have HB0:=zH hb0;clear hR0 hS0 zs0 bs0 hb0 hg;go_enter Tryz.func5,Tryz.ntmps5
  go_wp2_with fail
  go_loopw [3,4] (fun rv i wr=> ∃k:Nat,i= .int .i64 (k:Int)∧k≤M∧Hid (bZ w.heap.size wr rv (hdR (H.take k)))∧Hid (Below w.heap.size w wr)) (fun _ i _=>M-(intOf i).toNat)
  case atStart=>exact⟨0,rfl,by omega,HR0,HB0⟩
  case round=>
   clear HR0 HB0;obtain⟨k,rfl,hk,HR,HB⟩:=hrel
   by_cases hlt:k<M
   ·obtain⟨b,hbk⟩: ∃b,H[k]? =some b:=⟨H[k]'(by rw[HM.out];exact hlt),Mq _⟩
    have HSN:Hid (H.take (k+1)=H.take k++ [b]):=zH (by rw[Nl,hbk];rfl);have HKL:Hid ((H.take k).length=k):=zH (by rw[ML,HM.out];omega);obtain⟨hg1,ho1,rfl,ch⟩:=HHk.out wr HB.out k b hbk;have hk0:(0:Int)≤(k:Int):=by omega
    have hk1:(k:Int)<(M:Int):=by omega
    have hw1:IntKind.i64.wrap (2*(k:Int))=2*(k:Int):=eG (by omega) (by omega);have hw2:IntKind.i64.wrap (2+2*(k:Int))=2+2*(k:Int):=eG (by omega) (by omega);have hw3:IntKind.i64.wrap (3+2*(k:Int))=3+2*(k:Int):=eG (by omega) (by omega);clear hbk
    cases b
    ·have hS:gK w.heap.size (wr.alloc (.cells #[.string ⟨#[97]⟩] 9)) (.slice (some ⟨wr.heap.size,0,none⟩) 1 1) [[97]]:=fF bP wr HB.out.size [[97]] (show(1:Nat)≤maxLen from by decide)
     have bs:=af wr (.cells #[.string ⟨#[97]⟩] 9);have zs:(wr.alloc (.cells #[.string ⟨#[97]⟩] 9)).heap.size=wr.heap.size+1:=MG _ _;obtain⟨ra,rc,w3,hr,ho,hb3⟩:=qB (HR.out.keep bs) (by have:=HB.out.size;omega) (by rw[ww,ML];omega) (2+2*(k:Int),[83,72],[[97]],[]) (3+2*(k:Int),[],[],[98]) (some ⟨wr.heap.size,0,none⟩,1,1) (none,0,0) hS (ag.nil _ _) #[.int .i64 (2+2*(k:Int)),.string ⟨#[83,72]⟩,.slice (some ⟨wr.heap.size,0,none⟩) 1 1,.string ⟨#[]⟩,.int .i64 (3+2*(k:Int)),.string ⟨#[]⟩,.slice none 0 0,.string ⟨#[98]⟩] rfl;exact QUl
    ·have hS:gK w.heap.size (wr.alloc (.cells #[.string ⟨#[97]⟩] 9)) (.slice (some ⟨wr.heap.size,0,none⟩) 1 1) [[97]]:=fF bP wr HB.out.size [[97]] (show(1:Nat)≤maxLen from by decide)
     have bs:=af wr (.cells #[.string ⟨#[97]⟩] 9);have zs:(wr.alloc (.cells #[.string ⟨#[97]⟩] 9)).heap.size=wr.heap.size+1:=MG _ _;obtain⟨ra,rc,w3,hr,ho,hb3⟩:=qB (HR.out.keep bs) (by have:=HB.out.size;omega) (by rw[ww,ML];omega) (2+2*(k:Int),[83,83],[[97]],[]) (3+2*(k:Int),[],[],[98]) (some ⟨wr.heap.size,0,none⟩,1,1) (none,0,0) hS (ag.nil _ _) #[.int .i64 (2+2*(k:Int)),.string ⟨#[83,83]⟩,.slice (some ⟨wr.heap.size,0,none⟩) 1 1,.string ⟨#[]⟩,.int .i64 (3+2*(k:Int)),.string ⟨#[]⟩,.slice none 0 0,.string ⟨#[98]⟩] rfl;exact QUl
   ·obtain rfl:k=M:=by omega
    have hknlt: ¬(k:Int)<(k:Int):=by omega
    have htk:H.take k=H:=NJ (by rw[HM.out];exact Mo _);rw[htk]at HR;obtain⟨ra,rc,hru⟩:=HR.out.len;subst hru;obtain⟨rn,hrn⟩: ∃n,(hdR H).length=n:=⟨_,rfl⟩;rw[hrn]at HR ⊢;obtain⟨s,hs⟩: ∃s,bX I9 ((hdR H).map toM)=s:=⟨_,rfl⟩;have HL9:=zH (BV H);obtain⟨ld,hld⟩: ∃n,lead H=n:=⟨_,rfl⟩;have HLD:=zH hld;obtain⟨HX,hHX⟩: ∃m,((hdQ 0 H).drop (lead H)).map hdP=m:=⟨_,rfl⟩;have hXL:HX.length=k-ld:=by rw[←hHX,ND,MJ,pQ,HM.out,hld]
    have HAT:Hid (∀i,i<k-ld→ ∃b:Bool,H[ld+i]? =some b∧HX[i]? =some (if b then 2 else 1,2+2*((ld:Int)+(i:Int)))):=zH (fun i hi=>by
     obtain⟨b,h1,h2⟩:=Lr H i (by rw[HM.out,hld];exact hi);rw[hHX]at h2;rw[hld]at h1 h2;exact⟨b,h1,by rw[h2,show(((2+2*(ld+i):Nat):Int))=2+2*((ld:Int)+(i:Int)) by omega]⟩)
    have hldk:ld≤k:=by have:=HL9.out;rw[hld,HM.out]at this;exact this
    have HPC:Hid (Calls Tryz.prog 10 #[.slice ra rn rc] wr fun e w2=> ∃p1 p2 p3 d1 d3,e= .returned (.tuple #[.agg #[.string ⟨s.b.nm.a.toArray⟩,.string ⟨s.b.nm.b.toArray⟩,.string ⟨s.b.nm.c.toArray⟩,.string ⟨s.b.nm.d.toArray⟩,.slice p1 p2 p3],.slice d1 0 d3])∧
      ∃W2,w2.alloc (.cells #[.string ⟨s.b.nm.a.toArray⟩,.string ⟨s.b.nm.b.toArray⟩,.string ⟨s.b.nm.c.toArray⟩,.string ⟨s.b.nm.d.toArray⟩,.slice p1 p2 p3] 38)=W2∧W2.cell? ⟨w2.heap.size,4,none⟩=some (.slice p1 p2 p3)∧
      Hid (Calls Tryz.prog 14 #[.slice p1 p2 p3] W2 fun e w3=> ∃u1 u3,e= .returned (.slice u1 (k-ld) u3)∧Hid (dV W2.heap.size w3 (.slice u1 (k-ld) u3) HX)∧Hid (Below w.heap.size w w3))):=zH (by
     have hPB:=Gn H (by rw[HM.out];omega);have hfact:=Jn H (by rw[HM.out];omega);have hbt:=Jo H (by rw[HM.out];omega);rw[hs]at hfact hbt;rw[hHX]at hfact;have hp:=HPA.out wr _ HB.out (by obtain⟨L,hL,hA⟩:=HR.out;exact⟨L,ag.sl fq hL,hA.mono fun v a ha=>ag.sl bP ha⟩) (by rw[HM.out];omega);rw[hs]at hp;refine hp.mono ?_;rintro e w2 ⟨⟨p1,p2,p3⟩,d,rfl,q1,q2,q3⟩;rw[hfact.1]at q2;obtain⟨d1,d3,rfl⟩:=q2.len;have b2:=af w2 (.cells #[.string ⟨s.b.nm.a.toArray⟩,.string ⟨s.b.nm.b.toArray⟩,.string ⟨s.b.nm.c.toArray⟩,.string ⟨s.b.nm.d.toArray⟩,.slice p1 p2 p3] 38);have kD:Blk (w2.alloc (.cells #[.string ⟨s.b.nm.a.toArray⟩,.string ⟨s.b.nm.b.toArray⟩,.string ⟨s.b.nm.c.toArray⟩,.string ⟨s.b.nm.d.toArray⟩,.slice p1 p2 p3] 38)) w2.heap.size 38 [.string ⟨s.b.nm.a.toArray⟩,.string ⟨s.b.nm.b.toArray⟩,.string ⟨s.b.nm.c.toArray⟩,.string ⟨s.b.nm.d.toArray⟩,.slice p1 p2 p3]:=Mw w2 _;refine⟨p1,p2,p3,d1,d3,rfl,_,rfl,kD.cell 4,zH ?_⟩;have zw:=HB.out.size;have z2:=q3.size;have bw2:=(HB.out.trans (q3.mono zw)).trans (b2.mono (by omega));have hnl:nlL (mD s.b)≤100000:=by
      have h1:=CG (dO (aZ s.b));have h2:=Cu (aZ s.b);have h3:=eD s.b;have h5:mD s.b=qo (dO (aZ s.b)):=rfl;rw[←h5]at h1;omega
     refine(zL (fun k=>wr.heap.size≤k∧k<w2.heap.size) _ _ rfl _ _ (q1.keep (fun k q=>b2.block k q.2)) (fun k q=>by have:=b2.size;omega) hnl).mono ?_;rintro e w3 ⟨u,rfl,o3,b3⟩;rw[hfact.2]at o3;obtain⟨u1,u3,rfl⟩:=o3.len;rw[hXL]at o3 ⊢;exact⟨u1,u3,rfl,zH o3,zH (bw2.trans (b3.mono (by have:=bw2.size;omega)))⟩)
    clear HR HB HPA htk hs hrn hHX hXL HL9 hld;go_wp2_with fail
    refine HPC.out.mono ?_;rintro e w2 ⟨p1,p2,p3,d1,d3,rfl,W2,hW2,c4,HLV⟩;have HW2:=zH hW2;clear hW2 HPC;go_upto_region 12 with fail
    rw[HW2.out];clear HW2;go_wp2_with fail
    refine HLV.out.mono ?_;rintro e w3 ⟨u1,u3,rfl,HD3,HB3⟩;clear HLV c4;go_wp2_with fail
    go_loopw [9] (fun i wr=> ∃j:Nat,i= .int .i64 (j:Int)∧j≤ld∧wr=w3) (fun i _=>ld-(intOf i).toNat)
    case atStart=>exact⟨0,rfl,by omega,rfl⟩
    case round=>
     obtain⟨j,rfl,hj,hwr⟩:=hrel;obtain rfl:=hwr.symm;have hj0:(0:Int)≤(j:Int):=by omega
     by_cases hjl:j<ld
     ·have hx:=BX H j (by rw[HLD.out];exact hjl)
      obtain⟨hg2,ho2,rfl,ch⟩:=HHk.out w3 HB3.out j true hx;have hjk:(j:Int)<(k:Int):=by omega
      clear hx;go_wp2_with fail
      go_roundw
      case rel=>exact⟨j+1,by go_num,by omega,by first | trivial | rfl⟩
      case measure=>simp[intOf];omega
     ·obtain rfl:j=ld:=by omega
      have HGO:Hid (∀Φ:Prop,Φ→Φ):=zH (fun _ h=>h);have hne:(((k-j:Nat):Int) != (k:Int)-(j:Int))=false:=by simp;omega
      have hwk:IntKind.i64.wrap ((k:Int)-(j:Int))=(k:Int)-(j:Int):=eG (by omega) (by omega);obtain⟨kj,hkj⟩: ∃n,k-j=n:=⟨_,rfl⟩;rw[hkj]at hne HD3 HAT ⊢
      by_cases hjk2:j<k
      ·have hx:=ym H (by rw[HLD.out,HM.out];exact hjk2)
       rw[HLD.out]at hx;obtain⟨hg2,ho2,rfl,ch⟩:=HHk.out w3 HB3.out j false hx;have hjk:(j:Int)<(k:Int):=by omega
       clear hx;go_wp2_with fail
       clear ch;go_loopw [10] (fun i wx=> ∃z:Nat,i= .int .i64 (z:Int)∧z≤kj∧Hid (Below w3.heap.size w3 wx)) (fun i _=>kj-(intOf i).toNat)
       case atStart=>exact⟨0,rfl,by omega,zH (Mr _ _)⟩
       case round=>
        exact QUk
      ·have hjk: ¬(j:Int)<(k:Int):=by omega
       go_wp2_with fail
       go_loopw [10] (fun i wx=> ∃z:Nat,i= .int .i64 (z:Int)∧z≤kj∧Hid (Below w3.heap.size w3 wx)) (fun i _=>kj-(intOf i).toNat)
       case atStart=>exact⟨0,rfl,by omega,zH (Mr _ _)⟩
       case round=>
        exact QUk
end
end Go.Proofs.YtebabjnngdjceaaGreatDoor

/- slices.Clone of texts: the shelf's contract, laid at this dump. (The numbers of the lays are this seat's own: tools/shelf5b.py.) A range over a function whose iterator keeps its state in a cell of its own, and a body that goes on in every round. strings.SplitSeq at a line feed: the iterator, and wha -/
import Derived.Shelf.Slices.Clone
import Derived.Test.YtebabjnngdjceaaGreatDoorKH
import Derived.Test.YtebabjnngdjceaaGreatDoorZ0
import Derived.RangeFuncNested
import Derived.RangeFuncBound
import Derived.RangeFuncCalls
import Derived.RangeFuncLeaves
import Derived.Shelf.RegionOpen
import Derived.OwnWalkIn
import Derived.TacticsInMore
import Derived.LoopNIn
import Derived.LoopIn
set_option linter.unusedVariables false
set_option linter.unusedSimpArgs false
set_option maxRecDepth 100000
set_option maxHeartbeats 4000000
namespace Go.Proofs.YtebabjnngdjceaaGreatDoor
open Go.RowKit
section
open Go.Shelf Go.RowKit Go.Lib
def yt:Go.Shelf.Ren:=⟨fun | 16=>151 | n=>n,fun | 24=>22 | 9=>9 | 4=>4 | n=>n,fun | n=>n⟩
theorem FR:Go.Proofs.Lays2.n16 Tryz.prog yt:={
 mixed:=by kernel_rfl
 f16:=Tryz.func151.trans (Pj some (by kernel_rfl))
 t4:=Tryz.underlying4
 a4:=Tryz.isAgg4
 z4:=Tryz.sizeOf4
 v4:=Tryz.zeroValue4
 t9:=Tryz.underlying9
 a9:=Tryz.isAgg9
 z9:=Tryz.sizeOf9
 v9:=Tryz.zeroValue9
 t24:=Tryz.underlying22
 a24:=Tryz.isAgg22
 z24:=Tryz.sizeOf22
 v24:=Tryz.zeroValue22
 i9:=by kernel_rfl}
theorem Gq {v:Value} {l:List (List UInt8)} (w:World) (h:Ss w v l) (h1:0<l.length) (hl:l.length≤100000):
  Calls Tryz.prog 151 #[v] w fun e w'=> ∃v',e= .returned v'∧jr w.heap.size w' v' l∧Below w.heap.size w w':=by
 obtain⟨a,cap,rfl,hc,hr⟩:=h;obtain⟨x,hx⟩: ∃x,l[0]? =some x:=⟨l[0],OU h1⟩;obtain⟨b,off,rfl,-⟩:=hr 0 x hx;have hz:(l.map fun b:List UInt8=>(⟨b.toArray⟩:ByteArray)).length=l.length:=by simp
 refine(Any.slices_Clone_string FR b off l.length cap (l.map fun b:List UInt8=>(⟨b.toArray⟩:ByteArray)) w (by rw[hz];exact OW _) (by omega) (fun j hj=>?_)).mono ?_
 ·rw[hz]at hj
  obtain⟨b',off',e,h0⟩:=hr j l[j] (OU hj)
  cases e
  have:=h0 0 _ rfl;rw[QU,PW]at this;rw[this];simp[List.getD,hj]
 ·rintro e w' ⟨v',rfl,ho,-,hb⟩
  refine⟨v',rfl,?_,hb⟩;have e2:((l.map fun b:List UInt8=>(⟨b.toArray⟩:ByteArray)).take l.length).map Value.string=aA oq l:=by
   rw[Pz (by rw[hz];exact OW _),List.map_map];clear ho hr hx hz h1 hl hc
   induction l with
   | nil=>rfl
   | cons c t ih=>
    rw[dZ,PL,ih];rfl
  rw[e2]at ho;exact ho
end
def Oo {α:Type} (F:Fence) (n:Nat) (P:Program) (g:Nat) (lb:Array Value) (encs:α→Array Value) (Kp:World→World→Prop) (S Sp:List α→Prop) (C:Nat) (W:World):Prop:=
 ∀(l:Nat) (J:List α→World→Prop) (W1:World),Kp W W1→(∀s A A' row,J s A→A.grownBy A' row→(∀r,row=some r→r=C)→J s A')→
  (∀pre x W2,J pre W2→Sp (pre++ [x])→YieldAt F (n-1) P l (encs x) W2 fun e W'=>e= .returned (.bool true)∧J (pre++ [x]) W'∧Kp W2 W')→
  J [] W1→CallsIn F n P g (#[.func (.yield l) #[] #[]]++lb) W1 fun e W'=>(∃v,e= .returned v)∧ ∃xs,S xs∧J xs W'
section
variable {F:Fence} {n:Nat} {P:Program}
theorem EW {α:Type} {g:Operand} {ps:Array Tmp} {assign body:Code} {Q:Exit→Act→World→Prop} {a:Act} {w:World}
  (hro:F.round=none) (h1:1≤n) {gf:Nat} {lb:Array Value} (hg:a.eval g= .func (.func gf) #[] lb) (hFg:F.fn gf) (eg: ∀args w,(callFunc gf args).run P w= .ok (.enter gf args) w)
  {encs:α→Array Value} {Kp:World→World→Prop} {S Sp:List α→Prop} {C:Nat} (hseq:Oo F (n-1) P gf lb encs Kp S Sp C w) (hC:C<w.heap.size)
  (hKt: ∀{A B D:World},Kp A B→Kp B D→Kp A D) (hKr: ∀A,Kp A A) (hKb: ∀(W:World) (l:Nat) (o':Obj),w.heap.size≤l→Kp W (W.putObj l o')) (hKa: ∀(W:World) (o:Obj),w.heap.size≤W.heap.size→Kp W (W.alloc o))
  (hps: ∀x,(encs x).size=ps.size)
  (I:List α→World→Prop) (hI: ∀s A B row,I s A→A.grownBy B row→(∀r,row=some r→r=C∨(w.heap.size≤r∧ ∃o:Obj,A.heap[r]? =some o∧o.isCells=false))→I s B) (h0:I [] w) (a₁:α→Act)
  (hassign: ∀(l:Nat) (x:α) (W:World) (K:Act→World→Prop),K (a₁ x) W→assign.wpIn (F.inRound l) (n-1-1) P (Exit.then K (fun _ _ _=>False)) {tmps:=(ps.zip (encs x)).foldl (fun t (p,v)=>t.setIfInBounds p v) a.tmps,defers:=[] } W)
  (hbody: ∀(l:Nat) (pre:List α) (x:α) (W:World),I pre W→Sp (pre++ [x])→body.wpIn (F.inRound l) (n-1-1) P (ownPostK Kp I (fun _ _ _=>False) (pre++ [x]) W) (a₁ x) W)
  (hdone: ∀(D:Nat) (xs:List α) (W:World),w.heap.size≤D→S xs→I xs W→W.heap[D]? =some (.deferred (some []))→Q .normal {a with defers:={target:= .collected D,args:= #[] }::a.defers} W):
  (Code.rangeFunc g ps assign body).wpIn F n P Q a w:=by
 refine wpIn_rangeFunc ?_;intro fn hfn;rw[hro];obtain⟨rec,hrec⟩: ∃rec:LoopState→Option Code→Loop,rec=fun st pe=>{state:=st,pending:=pe,fn,tmps:=a.tmps,params:=ps,assign,body,defers:=w.heap.size}:=⟨_,rfl⟩
 have hgrA: ∀(W:World) (o:Obj),W.grownBy (W.alloc o) none:=fun W o=>⟨rfl,rfl,rfl,by simp,fun k hk _=>QR W o k hk⟩
 obtain⟨W1,hW1⟩: ∃W1,(w.alloc (.deferred (some []))).alloc (.loop (rec .ready none))=W1:=⟨_,rfl⟩;have hL1:W1.heap[w.heap.size+1]? =some (.loop (rec .ready none)):=by
  rw[←hW1];have:=World.alloc_heap_new (w.alloc (.deferred (some []))) (.loop (rec .ready none));rwa [Pf]at this
 have hD1:W1.heap[w.heap.size]? =some (.deferred (some [])):=by
  rw[←hW1];exact(QR _ _ _ (by simp)).trans (World.alloc_heap_new w _)
 have hI1:I [] W1:=by
  rw[←hW1];exact hI _ _ _ none (hI _ _ _ none h0 (hgrA _ _) (fun r e=>by cases e)) (hgrA _ _) (fun r e=>by cases e)
 have hK1:Kp w W1:=by rw[←hW1];exact hKt (hKa w _ (OW _)) (hKa _ _ (by simp))
 have putI: ∀s (W:World) (l:Nat) (o o':Obj),I s W→w.heap.size≤l→W.heap[l]? =some o→o.isCells=false→I s (W.putObj l o'):=fun s W l o o' hi hl ho hc=>
  hI _ _ _ (some l) hi (grownBy_putObj' W l o') (fun r e=>by cases e;exact .inr ⟨hl,o,ho,hc⟩)
 refine⟨w.heap.size+1,[{target:= .collected w.heap.size,args:= #[] }],W1,{target:= .fn (.func gf) lb,args:= #[.func (.yield (w.heap.size+1)) #[] #[]] },W1,gf,
  #[.func (.yield (w.heap.size+1)) #[] #[]]++lb,W1,?_,?_,?_,?_,fun _=>h1,?_⟩
 ·rw[←hW1,hrec];exact run_enterLoop_outer _ _ _ _ _
 ·simp only[resolve,hg]
  simp[go_sem]
 ·intro f' hf';simp[Target.leads]at hf';subst hf';exact hFg
 ·simp[invoke,go_sem,eg]
 ·refine(hseq (w.heap.size+1) (fun pre W=>I pre W∧W.heap[w.heap.size+1]? =some (.loop (rec .ready none))∧W.heap[w.heap.size]? =some (.deferred (some []))) W1 hK1
   (fun s A B row hs hg' hr=>⟨hI s A B row hs.1 hg' (fun r e=> .inl (hr r e)),(hg'.block _ (O5.1 hs.2.1).1 (fun e=>by have:=hr _ e.symm;omega)).trans hs.2.1,
    (hg'.block _ (O5.1 hs.2.2).1 (fun e=>by have:=hr _ e.symm;omega)).trans hs.2.2⟩) ?_ ⟨hI1,hL1,hD1⟩).mono ?_
  ·rintro pre x W ⟨hi,hl,hk⟩ hlen
   have hlt:w.heap.size+1<W.heap.size:=(O5.1 hl).1;have hy:=run_yield (P:=P) (args:=encs x) hl (by rw[hrec];exact hps x);rw[hrec]at hy;refine⟨fn,_,assign,body,hy,roundIn_of_wpIn hfn (hassign _ x W _ ?_)⟩;refine⟨_,run_beginRound hl (by rw[hrec]),?_⟩;have hl2:(W.putObj (w.heap.size+1) (.loop {rec .ready none with state:= .busy})).heap[w.heap.size+1]? =some (.loop {rec .ready none with state:= .busy}):=World.putObj_heap_same hlt;have hk2:(W.putObj (w.heap.size+1) (.loop {rec .ready none with state:= .busy})).heap[w.heap.size]? =some (.deferred (some [])):=(World.putObj_heap_other (by omega)).trans hk;refine wpIn_mono (hbody _ pre x _ (putI _ _ _ _ _ hi (by omega) hl rfl) hlen) ?_;rintro e a3 W3 hp
   cases e with
   | normal=>
    obtain⟨hk3,hkp3,hi3⟩:=hp;have hl3:=hk3.same _ _ hl2 rfl;have hk4:=hk3.same _ _ hk2 rfl;have hlt3:w.heap.size+1<W3.heap.size:=(O5.1 hl3).1;have hr:=run_endRound (P:=P) none hl3;rw[hrec]at hr;refine⟨_,_,hr,rfl,⟨putI _ _ _ _ _ hi3 (by omega) hl3 rfl,?_,(World.putObj_heap_other (by omega)).trans hk4⟩,hKt (hKt (hKb _ _ _ (by omega)) hkp3) (hKb _ _ _ (by omega))⟩;rw[World.putObj_heap_same hlt3,hrec];rfl
   | ret=>exact hp.2.elim
   | exit id=>exact hp.2.elim
   | goto t=>exact hp.2.elim
   | panic ch=>exact hp.elim
   | outgrown=>exact hp.elim
  ·rintro e W2 ⟨⟨v,rfl⟩,xs,hS,hi,hl,hk⟩
   have he:=run_endLoop (P:=P) hl (by rw[hrec];simp);rw[hrec]at he;exact⟨none,_,he,hdone _ xs _ (OW _) hS (putI _ _ _ _ _ hi (by omega) hl rfl) ((World.putObj_heap_other (by omega)).trans hk)⟩
end
section
attribute [local go_sem] Oper.semAt_some
def pcs:List UInt8→List (List UInt8)
 | []=>[[]]
 | c::t=>if c=10 then []::pcs t else(c::(pcs t).headD [])::(pcs t).tail
theorem MO: ∀l:List UInt8,pcs l≠ []
 | []=>by simp[pcs]
 | c::t=>by unfold pcs;split<;>simp
theorem zM: ∀l:List UInt8,Lib.indexByte l 10= -1→pcs l=[l]
 | [],_=>rfl
 | c::t,h=>by
  have hge:=Lib.indexByte_ge t 10;unfold Lib.indexByte at h
  by_cases hc:c=10
  ·subst hc;simp at h
  ·have h1:(c==10)=false:=by simpa using hc
   rw[h1]at h;simp only[PO,QO]at h
   by_cases hm:Lib.indexByte t 10= -1
   ·unfold pcs
    rw[Pd hc,zM t hm];rfl
   ·have h2:(Lib.indexByte t 10== -1)=false:=by simpa using hm
    rw[h2]at h;simp only[PO,QO]at h;omega
theorem zL: ∀(l:List UInt8) (i:Nat),Lib.indexByte l 10=(i:Int)→i<l.length∧pcs l=l.take i::pcs (l.drop (i+1))
 | [],i,h=>absurd h (by show¬((-1:Int)=(i:Int));omega)
 | c::t,i,h=>by
  have hge:=Lib.indexByte_ge t 10;unfold Lib.indexByte at h
  by_cases hc:c=10
  ·subst hc
   simp at h;obtain rfl:i=0:=by omega
   refine⟨by simp,?_⟩
   conv=>lhs;unfold pcs
   simp
  ·have h1:(c==10)=false:=by simpa using hc
   rw[h1]at h;simp only[PO,QO]at h
   by_cases hm:Lib.indexByte t 10= -1
   ·rw[hm]at h;first | (simp at h;done)| (simp at h;omega)
   ·have h2:(Lib.indexByte t 10== -1)=false:=by simpa using hm
    rw[h2]at h;simp only[PO,QO]at h;obtain⟨k,rfl⟩: ∃k,i=k+1:=⟨i-1,by omega⟩;obtain⟨h3,h4⟩:=zL t k (by omega);refine⟨by simp;omega,?_⟩
    conv=>lhs;unfold pcs
    rw[Pd hc,h4];simp
theorem DI: ∀l:List UInt8,(pcs l).flatten.length+(pcs l).length=l.length+1
 | []=>rfl
 | c::t=>by
  have ih:=DI t;unfold pcs
  split
  ·simp only[List.flatten_cons,Pb,Pm,Pe];omega
  ·cases h:pcs t with
   | nil=>exact absurd h (MO t)
   | cons a r=>
    rw[h]at ih;simp only[List.headD_cons,List.tail_cons,List.flatten_cons,Pb,Pe]at ih ⊢;omega
def KpB (base B:Nat) (A A':World):Prop:= ∀k,k<base→k≠B→A'.heap[k]? =A.heap[k]?
def yH (C:Nat) (W:World):Nat:=match W.cell? ⟨C,0,none⟩with
 | some v=>fV v
 | none=>0
theorem uK {C:Nat} {W:World} {b:List UInt8} {t:TypeId} (h:Blk W C t [.string ⟨b.toArray⟩]):yH C W=b.length:=by
 unfold yH;rw[h.cell 0];exact dM b
theorem xA (s:List UInt8) (w:World):Calls Tryz.prog 73 #[.string ⟨s.toArray⟩,.string ⟨#[10]⟩] w fun e w'=>
  e= .returned (.func (.func 138) #[] #[.pointer (some ⟨w.heap.size+1,0,none⟩),.pointer (some ⟨w.heap.size,0,none⟩),.pointer (some ⟨w.heap.size+2,0,none⟩)])∧
  ((w.alloc (.cells #[.string ⟨s.toArray⟩] 9)).alloc (.cells #[.string ⟨#[10]⟩] 9)).alloc (.cells #[.int .i64 0] 3)=w':=by
 have hmf: ∀(fn:Fn) (first cap:Array Value) (w:World),(Instr.makeFunc fn first cap).run Tryz.prog w= .ok (.func fn first cap) w:=fun _ _ _ _=>rfl
 go_enter Tryz.func73,Tryz.ntmps73
 go_wp2
 go_ret;exact⟨rfl,rfl⟩
theorem FN (m base B C:Nat) (s:List UInt8) (w:World) (hs:s.length≤100000) (hB:B<C) (hC:C+2<base)
  (b0:Blk w C 9 [.string ⟨s.toArray⟩]) (b1:Blk w (C+1) 9 [.string ⟨#[10]⟩]) (b2:Blk w (C+2) 3 [.int .i64 0]):
  Oo Fence.wide m Tryz.prog 138 #[.pointer (some ⟨C+1,0,none⟩),.pointer (some ⟨C,0,none⟩),.pointer (some ⟨C+2,0,none⟩)] Og (KpB base B) (fun xs=>xs=pcs s) (fun q=>q<+:pcs s) C w:=by
 intro l J W1 hK hJ hY h0;have c0:Blk W1 C 9 [.string ⟨s.toArray⟩]:=(hK C (by omega) (by omega)).trans b0;have c1:Blk W1 (C+1) 9 [.string ⟨#[10]⟩]:=(hK (C+1) (by omega) (by omega)).trans b1;have c2:Blk W1 (C+2) 3 [.int .i64 0]:=(hK (C+2) (by omega) (by omega)).trans b2;have q1:W1.cell? ⟨C+1,0,none⟩=some (.string ⟨#[10]⟩):=c1.cell 0;have H0:=zH h0;have HC0:=zH c0;have HC1:=zH c1;have HC2:=zH c2;have HJ:=zH hJ;have HY:=zH hY;clear b0 b1 b2 hK h0 c0 c1 c2 hJ hY;refine callsIn_of_wp Tryz.func138 rfl trivial ?_ rfl;simp only[Tryz.ntmps138,List.size_toArray,Pe,Pm,Nat.reduceAdd,Nat.reduceSub,Array.replicate_succ,Array.replicate_zero,List.push_toArray,List.append_toArray,Qa,PR]
 gi_wp2_with fail
 gi_loopw [7,8] (fun i f wr=> ∃(pre:List (List UInt8)) (rest:List UInt8),Blk wr C 9 [.string ⟨rest.toArray⟩]∧Blk wr (C+1) 9 [.string ⟨#[10]⟩]∧Blk wr (C+2) 3 [.int .i64 0]∧J pre wr∧pre++pcs rest=pcs s∧rest.length≤s.length) (fun _ _ wr=>yH C wr)
 case atStart=>exact⟨[],s,HC0.out,HC1.out,HC2.out,H0.out,rfl,OW _⟩
 case round=>
  obtain⟨pre,rest,d0,d1,d2,hj,hp,hr⟩:=hrel;have q0:wr.cell? ⟨C,0,none⟩=some (.string ⟨rest.toArray⟩):=d0.cell 0;have q1:wr.cell? ⟨C+1,0,none⟩=some (.string ⟨#[10]⟩):=d1.cell 0;have q2:wr.cell? ⟨C+2,0,none⟩=some (.int .i64 0):=d2.cell 0;have hsz:=aO rest;have D:=zH (And.intro d0 (And.intro d1 d2));have HP:=zH hp;have HJR:=zH hj;clear d0 d1 d2 hp hj HC0 HC1 HC2 H0
  by_cases hm:Lib.indexByte rest 10= -1
  ·have hps:=zM rest hm
   obtain⟨fn,tmps,assign,body,hy,hR⟩:=HY.out pre rest wr HJR.out (by rw[←HP.out,hps];exact⟨[],by simp⟩);have hy':(Instr.yield l #[.string ⟨rest.toArray⟩]).run Tryz.prog wr= .ok (.round l fn tmps assign body) wr:=hy;have I1:Hid (∀W,CallsIn Fence.wide (m-1) Tryz.prog 140 #[.string ⟨rest.toArray⟩,.string ⟨#[10]⟩] W fun e w'=>e= .returned (.int .i64 (-1))∧W=w'):=zH fun W=>by
    have h:=index_one rest 10 W;rw[hm]at h;exact Rb.2 (h.mono fun e w' ⟨a,b⟩=>⟨a,b.symm⟩)
   have HPS:=zH hps;have HRR:=zH hR;clear hy hR hm hps
   gi_wp2_with (refine⟨trivial,fun h=>(by cases h),?_⟩;gi_at_call 140;refine(I1.out _).mono ?_;rintro e w' ⟨rfl,rfl⟩)
   refine⟨fun h=>(by cases h),?_⟩;refine HRR.out.mono ?_;rintro e W3 ⟨rfl,hj3,hk3⟩;have HF:=zH hj3;clear hj3 hk3 HRR HY HJ
   gi_wp2_with fail
   go_end0;refine⟨⟨_,rfl⟩,_,?_,HF.out⟩;rw[←HP.out,HPS.out]
  ·obtain⟨i,hi⟩: ∃i:Nat,Lib.indexByte rest 10=(i:Int):=by
    have:=Lib.indexByte_ge rest 10;exact⟨(Lib.indexByte rest 10).toNat,by omega⟩
   obtain⟨hil,hps⟩:=zL rest i hi;obtain⟨fn,tmps,assign,body,hy,hR⟩:=HY.out pre (rest.take i) wr HJR.out (by rw[←HP.out,hps];exact⟨pcs (rest.drop (i+1)),by simp⟩);have hy':(Instr.yield l #[.string ⟨(rest.take i).toArray⟩]).run Tryz.prog wr= .ok (.round l fn tmps assign body) wr:=hy;have I1:Hid (∀W,CallsIn Fence.wide (m-1) Tryz.prog 140 #[.string ⟨rest.toArray⟩,.string ⟨#[10]⟩] W fun e w'=>e= .returned (.int .i64 (i:Int))∧W=w'):=zH fun W=>by
    have h:=index_one rest 10 W;rw[hi]at h;exact Rb.2 (h.mono fun e w' ⟨a,b⟩=>⟨a,b.symm⟩)
   have k1:=lK rest i (by omega);have k2:=eU rest (i+1) (by omega);have c1:((i+1:Nat):Int)=(i:Int)+1:=by omega
   rw[c1]at k2;have hdl:(rest.drop (i+1)).length<rest.length:=by rw[Pi];omega
   have HPS:=zH hps;have HRR:=zH hR;clear hy hR hm hps c1 hi
   gi_wp2_with (refine⟨trivial,fun h=>(by cases h),?_⟩;gi_at_call 140;refine(I1.out _).mono ?_;rintro e w' ⟨rfl,rfl⟩)
   refine⟨fun h=>(by cases h),?_⟩;refine HRR.out.mono ?_;rintro e W3 ⟨rfl,hj3,hk3⟩;have e0:Blk W3 C 9 [.string ⟨rest.toArray⟩]:=(hk3 C (by omega) (by omega)).trans D.out.1;have e1:Blk W3 (C+1) 9 [.string ⟨#[10]⟩]:=(hk3 (C+1) (by omega) (by omega)).trans D.out.2.1;have e2:Blk W3 (C+2) 3 [.int .i64 0]:=(hk3 (C+2) (by omega) (by omega)).trans D.out.2.2;have r0:W3.cell? ⟨C,0,none⟩=some (.string ⟨rest.toArray⟩):=e0.cell 0;have r1:W3.cell? ⟨C+1,0,none⟩=some (.string ⟨#[10]⟩):=e1.cell 0;have f0:W3.frozen? ⟨C,0,none⟩=false:=e0.frozen (by simp);obtain⟨dr,hdr⟩: ∃dr,rest.drop (i+1)=dr:=⟨_,rfl⟩;have E:Hid (Blk (W3.setCell ⟨C,0,none⟩ (.string ⟨dr.toArray⟩)) C 9 [.string ⟨dr.toArray⟩]∧Blk (W3.setCell ⟨C,0,none⟩ (.string ⟨dr.toArray⟩)) (C+1) 9 [.string ⟨#[10]⟩]∧Blk (W3.setCell ⟨C,0,none⟩ (.string ⟨dr.toArray⟩)) (C+2) 3 [.int .i64 0]∧J (pre++ [rest.take i]) (W3.setCell ⟨C,0,none⟩ (.string ⟨dr.toArray⟩))):=
    zH ⟨e0.set 0 _,(O8 _ _ _ _ (by simp only;omega)).trans e1,(O8 _ _ _ _ (by simp only;omega)).trans e2,HJ.out _ _ _ _ hj3 (grownBy_setCell' W3 C _) (fun r e=>by cases e;rfl)⟩
   rw[hdr]at k2 hdl HPS;have HD:=zH hdr;clear hj3 hk3 HRR HY HJ e0 e1 e2 hdr
   gi_wp2_with fail
   go_roundw
   case rel=>
    refine⟨_,dr,E.out.1,E.out.2.1,E.out.2.2.1,E.out.2.2.2,?_,by omega⟩;rw[←HP.out,HPS.out];simp
   case measure=>
    rw[uK E.out.1,uK D.out.1];exact hdl
end
end Go.Proofs.YtebabjnngdjceaaGreatDoor

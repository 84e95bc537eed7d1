/- strings.IndexAny, ContainsAny, at any text, where what is sought is ASCII: the loop over runes. A range over a function whose iterator keeps its state in a cell of its own, and a body that goes on in every round. strings.SplitSeq at a line feed: the iterator, and what it hands over. -/
import Derived.Test.YtebabjnngdjceaaGreatDoorKK
import Derived.Lib.OthersKept
import Derived.Test.YtebabjnngdjceaaGreatDoorZ0
import Derived.RangeFuncNested
import Derived.RangeFuncBound
import Derived.RangeFuncCalls
import Derived.RangeFuncLeaves
import Derived.Shelf.RegionOpen
import Derived.OwnWalkIn
import Derived.TacticsInMore
import Derived.LoopNIn
import Derived.LoopIn
set_option linter.unusedVariables false
set_option linter.unusedSimpArgs false
set_option maxRecDepth 1000000
set_option maxHeartbeats 4000000
namespace Go.Proofs.YtebabjnngdjceaaGreatDoor
open Go.RowKit
section
open Go.RowKit Go.Lib
theorem zC {s:List UInt8} {pos:Nat} {x:UInt8} (hx:s[pos]? =some x) (h:128≤x.toNat):
  (128≤(Utf8.decode ⟨s.toArray⟩ pos).1∧(Utf8.decode ⟨s.toArray⟩ pos).1≤1114111)∧1≤(Utf8.decode ⟨s.toArray⟩ pos).2∧pos+(Utf8.decode ⟨s.toArray⟩ pos).2≤s.length∧ ∀j y,pos≤j→j<pos+(Utf8.decode ⟨s.toArray⟩ pos).2→s[j]? =some y→128≤y.toNat:=by
 obtain⟨hp,hx'⟩:=List.getElem?_eq_some_iff.1 hx;have e:=decodeL_drop ⟨s.toArray⟩ pos;have ed:(⟨s.toArray⟩:ByteArray).data.toList=s:=rfl;rw[ed]at e;rw[←e];have hne:s.drop pos≠ []:=by
  intro h0;have:=congrArg List.length h0;rw[List.length_drop,List.length_nil]at this;omega
 have hle:=decodeL_le _ hne;rw[List.length_drop]at hle;have hr:=decodeL_rune (s.drop pos);have hw:=decodeL_width (s.drop pos);have g0:(s.drop pos).getD 0 0=x:=by rw[List.getD,List.getElem?_drop,Nat.add_zero,hx];rfl
 have gi: ∀i y,s[pos+i]? =some y→(s.drop pos).getD i 0=y:=fun i y hy=>by rw[List.getD,List.getElem?_drop,hy];rfl
 have hs:=decodeN_shape (s.drop pos).length ((s.drop pos).getD 0 0).toNat ((s.drop pos).getD 1 0).toNat ((s.drop pos).getD 2 0).toNat ((s.drop pos).getD 3 0).toNat;rw[←decodeL_N,g0]at hs;have h256:=UInt8.toNat_lt x;refine⟨⟨?_,hr⟩,hw,by omega,fun j y h1 h2 hy=>?_⟩
 ·rcases hs with⟨a,-⟩| ⟨a,b,c,d,f⟩| ⟨a,b,c,d,f,g,f'⟩| ⟨a,b,c,d,f,g,i,f'⟩| f
  ·omega
  ·rw[f];simp only;omega
  ·rw[f'];simp only;omega
  ·rw[f'];simp only;omega
  ·rw[f];simp
 ·obtain⟨i,rfl⟩: ∃i,j=pos+i:=⟨j-pos,by omega⟩
  have hg:=gi i y hy;have h2':i<(decodeL (s.drop pos)).2:=by omega
  by_cases hi0:i=0
  ·subst hi0
   rw[Nat.add_zero,hx]at hy
   cases hy
   exact h
  ·rcases hs with⟨a,-⟩| ⟨a,b,c,d,f⟩| ⟨a,b,c,d,f,g,f'⟩| ⟨a,b,c,d,f,g,i',f'⟩| f
   ·omega
   ·rw[f]at h2'
    simp only at h2';obtain rfl:i=1:=by omega
    rw[hg]at c;omega
   ·rw[f']at h2'
    simp only at h2';rcases(by omega:i=1∨i=2)with rfl | rfl
    ·rw[hg]at c;omega
    ·rw[hg]at d;omega
   ·rw[f']at h2'
    simp only at h2';rcases(by omega:i=1∨i=2∨i=3)with rfl | rfl | rfl
    ·rw[hg]at c;omega
    ·rw[hg]at d;omega
    ·rw[hg]at f;omega
   ·rw[f]at h2'
    simp only at h2';omega
theorem yN {s cs:List UInt8} {pos k:Nat} (h:NoAny s cs pos) (ha: ∀(j:Nat) b,cs[j]? =some b→b.toNat<128) (hb: ∀j y,pos≤j→j<pos+k→s[j]? =some y→128≤y.toNat):NoAny s cs (pos+k):=fun j b hj hjb=>by
 by_cases hlt:j<pos
 ·exact h j b hlt hjb
 ·have h1:=hb j b (by omega) hj hjb
  cases hc:cs.contains b
  ·rfl
  ·exfalso
   have hm:b∈cs:=by simpa using hc
   obtain⟨i,hi⟩:=List.mem_iff_getElem?.1 hm;have:=ha i b hi;omega
attribute [local go_sem ↓ high] nZ
theorem ve (s cs:List UInt8) (w:World) (h2:2≤cs.length) (hcs:cs.length≤1000) (hs:s.length≤1000000) (ha: ∀(j:Nat) b,cs[j]? =some b→b.toNat<128):
  Calls Tryz.prog 149 #[.string ⟨s.toArray⟩,.string ⟨cs.toArray⟩] w fun e w'=>e= .returned (.int .i64 (Lib.indexAny s cs))∧Below w.heap.size w w':=by
 by_cases h8:8<s.length
 ·exact rZ s cs w h2 h8 (by omega) (by omega) ha
 ·have hsz:=aJ s
  have hcz:=aJ cs;have HA:=zH ha;have hemp:cs.isEmpty=false:=by
   cases cs with
   | nil=>simp at h2
   | cons _ _=>rfl
  have hn1:((cs.length:Int)==1)=false:=beq_eq_false_iff_ne.2 (by omega);have U1:Hid (∀W,Calls Tryz.prog 187 #[.int .i64 (s.length:Int)] W fun e w'=>e= .returned (.bool false)∧W=w'):=zH fun W=>by
   have h:=xZ (s.length:Int) W;rw[decide_eq_false (by omega)]at h;exact h.mono fun e w' ⟨a,b⟩=>⟨a,b.symm⟩
  have HN:=zH (fun(h:NoAny s cs s.length)=>indexAny_none h);have HH:=zH (fun i x (h:NoAny s cs i) hx hc=>indexAny_hit (s:=s) (chars:=cs) (i:=i) (x:=x) h hx hc);obtain⟨R,hR⟩: ∃R,Lib.indexAny s cs=R:=⟨_,rfl⟩;rw[hR]at HN HH ⊢;clear hR ha;go_enter Tryz.func149,Tryz.ntmps149
  go_wp2_with (go_at_call 187;refine(U1.out _).mono ?_;rintro e w' ⟨rfl,rfl⟩)
  go_loopw [9,10] (fun i c wr=> ∃pos:Nat,wr.heap[w.heap.size]? =some (.stringIter ⟨s.toArray⟩ pos)∧Below w.heap.size w wr∧pos≤s.length∧NoAny s cs pos) (fun _ _ wr=>s.length-wr.iterPos w.heap.size)
  case atStart=>exact⟨0,World.iter_heap _ _ _,(Below.refl _ _).alloc (Nat.le_refl _) _,by omega,NoAny.zero _ _⟩
  case round=>
   obtain⟨pos,hit,hbw,hp,hno⟩:=hrel;have HO:=zH hno;have HBW:=zH hbw;have hsw:=hbw.size;have HIT:=zH hit;clear hno
   by_cases hlt:pos<s.length
   ·have hps:pos<(⟨s.toArray⟩:ByteArray).size:=by rw[hsz];exact hlt
    obtain⟨x,hx⟩: ∃x,s[pos]? =some x:=⟨s[pos],List.getElem?_eq_getElem hlt⟩;have hxx:(⟨s.toArray⟩:ByteArray)[pos]'hps=x:=by
     have:=(List.getElem?_eq_some_iff.1 hx).2;show s.toArray[pos]'_=x
     simpa using this
    by_cases h128:x.toNat<128
    ·have hnx:=fun ty=>run_next_ascii_at (P:=Tryz.prog) wr w.heap.size ⟨s.toArray⟩ pos ty hit hps (by rw[hxx];exact h128)
     rw[hxx]at hnx;have I1:Hid (∀W,Calls Tryz.prog 186 #[.string ⟨cs.toArray⟩,.int .i32 (x.toNat:Int)] W fun e w'=>e= .returned (.int .i64 (Lib.indexByte cs x))∧W=w'):=zH fun W=>by
      have h:=oJ cs (x.toNat:Int) W (by omega) (by omega);have e:((x.toNat:Int)).toNat.toUInt8=x:=by simp
      rw[e]at h;exact h.mono fun e w' ⟨a,b⟩=>⟨a,b.symm⟩
     have hcon:=contains_iff_indexByte cs x;have hit2:=Lib.iterAt_heap wr w.heap.size ⟨s.toArray⟩ pos (pos+1) hit;have hb2:=Lib.below_iterAt hbw (k:=w.heap.size) (Nat.le_refl _) ⟨s.toArray⟩ (pos+1);have HX:=zH hx
     cases hin:cs.contains x
     ·rw[hin]at hcon
      have hlt0: ¬((0:Int)≤Lib.indexByte cs x):=of_decide_eq_false hcon.symm;have HY:=zH (HO.out.succ hx hin);have H2:=zH (And.intro hit2 hb2);generalize Lib.indexByte cs x=ib at I1 hlt0;clear hcon hin hx hxx hit hbw hit2 hb2 HO HN HH;go_wp2_with (go_at_call 186;refine(I1.out _).mono ?_;rintro e w' ⟨rfl,rfl⟩)
      go_roundw
      case rel=>exact⟨pos+1,H2.out.1,H2.out.2,by omega,HY.out⟩
      case measure=>simp only[World.iterPos,H2.out.1,HIT.out];omega
     ·rw[hin]at hcon
      have hge0:(0:Int)≤Lib.indexByte cs x:=of_decide_eq_true hcon.symm;have e:=HH.out pos x HO.out hx hin;subst e;have H2:=zH hb2;generalize Lib.indexByte cs x=ib at I1 hge0;clear hcon hin hx hxx hit hbw hit2 hb2 HO HN HH;go_wp2_with (go_at_call 186;refine(I1.out _).mono ?_;rintro e w' ⟨rfl,rfl⟩)
      go_ret;exact⟨rfl,H2.out⟩
    ·have hnx:=fun ty=>run_next_any_at (P:=Tryz.prog) wr w.heap.size ⟨s.toArray⟩ pos ty hit hps
     obtain⟨⟨c0,c1⟩,k1,k2,kb⟩:=zC hx (by omega);have HY:=zH (yN HO.out HA.out kb);have hit2:=Lib.iterAt_heap wr w.heap.size ⟨s.toArray⟩ pos (pos+(Utf8.decode ⟨s.toArray⟩ pos).2) hit;have hb2:=Lib.below_iterAt hbw (k:=w.heap.size) (Nat.le_refl _) ⟨s.toArray⟩ (pos+(Utf8.decode ⟨s.toArray⟩ pos).2);generalize Utf8.decode ⟨s.toArray⟩ pos=dk at*;obtain⟨dc,dn⟩:=dk;simp only at hnx c0 c1 k1 k2 HY hit2 hb2;have I1:Hid (∀W,Calls Tryz.prog 186 #[.string ⟨cs.toArray⟩,.int .i32 (dc:Int)] W fun e w'=>e= .returned (.int .i64 (-1))∧Below W.heap.size W w'):=zH fun W=>by
      by_cases ho:(dc:Int)=65533
      ·rw[ho];exact rX cs HA.out W
      ·exact qJ cs HA.out dc (by omega) (by omega) ho W
     have H2:=zH (And.intro hit2 hb2);obtain⟨W2,hW2⟩: ∃W2,wr.iterAt w.heap.size ⟨s.toArray⟩ (pos+dn)=W2:=⟨_,rfl⟩;rw[hW2]at hnx H2;clear hx hxx hit hbw hit2 hb2 HO HN HH kb hW2;go_wp2_with fail
     refine(I1.out _).mono ?_;rintro e w1 ⟨rfl,b1⟩;have hlt2:w.heap.size<W2.heap.size:=(Array.getElem?_eq_some_iff.1 H2.out.1).1;have H3:Hid (w1.heap[w.heap.size]? =some (.stringIter ⟨s.toArray⟩ (pos+dn))∧Below w.heap.size w w1):=
      zH ⟨(b1.block _ hlt2).trans H2.out.1,H2.out.2.trans (b1.mono (by omega))⟩
     clear b1 hnx;go_wp2_with fail
     go_roundw
     case rel=>exact⟨pos+dn,H3.out.1,H3.out.2,by omega,HY.out⟩
     case measure=>simp only[World.iterPos,H3.out.1,HIT.out];omega
   ·obtain rfl:pos=s.length:=by omega
    have hnx:=fun ty=>run_next_end_at (P:=Tryz.prog) wr w.heap.size ⟨s.toArray⟩ s.length ty hit (by rw[hsz];omega)
    have e:=HN.out HO.out;subst e;clear hit hbw HO HN HH;go_wp2_with fail
    go_ret;exact⟨rfl,HBW.out⟩
end
def KE {α:Type} (F:Fence) (n:Nat) (P:Program) (g:Nat) (lb:Array Value) (encs:α→Array Value) (Kp:World→World→Prop) (S Sp:List α→Prop) (C:Nat) (W:World):Prop:=
 ∀(l:Nat) (J:List α→World→Prop) (W1:World),Kp W W1→(∀s A A' row,J s A→A.grownBy A' row→(∀r,row=some r→r=C)→J s A')→
  (∀pre x W2,J pre W2→Sp (pre++ [x])→YieldAt F (n-1) P l (encs x) W2 fun e W'=>e= .returned (.bool true)∧J (pre++ [x]) W'∧Kp W2 W')→
  J [] W1→CallsIn F n P g (#[.func (.yield l) #[] #[]]++lb) W1 fun e W'=>(∃v,e= .returned v)∧ ∃xs,S xs∧J xs W'
section
variable {F:Fence} {n:Nat} {P:Program}
theorem BV {α:Type} {g:Operand} {ps:Array Tmp} {assign body:Code} {Q:Exit→Act→World→Prop} {a:Act} {w:World}
  (hro:F.round=none) (h1:1≤n) {gf:Nat} {lb:Array Value} (hg:a.eval g= .func (.func gf) #[] lb) (hFg:F.fn gf) (eg: ∀args w,(callFunc gf args).run P w= .ok (.enter gf args) w)
  {encs:α→Array Value} {Kp:World→World→Prop} {S Sp:List α→Prop} {C:Nat} (hseq:KE F (n-1) P gf lb encs Kp S Sp C w) (hC:C<w.heap.size)
  (hKt: ∀{A B D:World},Kp A B→Kp B D→Kp A D) (hKr: ∀A,Kp A A) (hKb: ∀(W:World) (l:Nat) (o':Obj),w.heap.size≤l→Kp W (W.putObj l o')) (hKa: ∀(W:World) (o:Obj),w.heap.size≤W.heap.size→Kp W (W.alloc o))
  (hps: ∀x,(encs x).size=ps.size)
  (I:List α→World→Prop) (hI: ∀s A B row,I s A→A.grownBy B row→(∀r,row=some r→r=C∨(w.heap.size≤r∧ ∃o:Obj,A.heap[r]? =some o∧o.isCells=false))→I s B) (h0:I [] w) (a₁:α→Act)
  (hassign: ∀(l:Nat) (x:α) (W:World) (K:Act→World→Prop),K (a₁ x) W→assign.wpIn (F.inRound l) (n-1-1) P (Exit.then K (fun _ _ _=>False)) {tmps:=(ps.zip (encs x)).foldl (fun t (p,v)=>t.setIfInBounds p v) a.tmps,defers:=[] } W)
  (hbody: ∀(l:Nat) (pre:List α) (x:α) (W:World),I pre W→Sp (pre++ [x])→body.wpIn (F.inRound l) (n-1-1) P (ownPostK Kp I (fun _ _ _=>False) (pre++ [x]) W) (a₁ x) W)
  (hdone: ∀(D:Nat) (xs:List α) (W:World),w.heap.size≤D→S xs→I xs W→W.heap[D]? =some (.deferred (some []))→Q .normal {a with defers:={target:= .collected D,args:= #[] }::a.defers} W):
  (Code.rangeFunc g ps assign body).wpIn F n P Q a w:=by
 refine wpIn_rangeFunc ?_;intro fn hfn;rw[hro];obtain⟨rec,hrec⟩: ∃rec:LoopState→Option Code→Loop,rec=fun st pe=>{state:=st,pending:=pe,fn,tmps:=a.tmps,params:=ps,assign,body,defers:=w.heap.size}:=⟨_,rfl⟩
 have hgrA: ∀(W:World) (o:Obj),W.grownBy (W.alloc o) none:=fun W o=>⟨rfl,rfl,rfl,by simp,fun k hk _=>Below.heap_alloc W o k hk⟩
 obtain⟨W1,hW1⟩: ∃W1,(w.alloc (.deferred (some []))).alloc (.loop (rec .ready none))=W1:=⟨_,rfl⟩;have hL1:W1.heap[w.heap.size+1]? =some (.loop (rec .ready none)):=by
  rw[←hW1];have:=World.alloc_heap_new (w.alloc (.deferred (some []))) (.loop (rec .ready none));rwa [World.size_alloc]at this
 have hD1:W1.heap[w.heap.size]? =some (.deferred (some [])):=by
  rw[←hW1];exact(Below.heap_alloc _ _ _ (by simp)).trans (World.alloc_heap_new w _)
 have hI1:I [] W1:=by
  rw[←hW1];exact hI _ _ _ none (hI _ _ _ none h0 (hgrA _ _) (fun r e=>by cases e)) (hgrA _ _) (fun r e=>by cases e)
 have hK1:Kp w W1:=by rw[←hW1];exact hKt (hKa w _ (Nat.le_refl _)) (hKa _ _ (by simp))
 have putI: ∀s (W:World) (l:Nat) (o o':Obj),I s W→w.heap.size≤l→W.heap[l]? =some o→o.isCells=false→I s (W.putObj l o'):=fun s W l o o' hi hl ho hc=>
  hI _ _ _ (some l) hi (grownBy_putObj' W l o') (fun r e=>by cases e;exact .inr ⟨hl,o,ho,hc⟩)
 refine⟨w.heap.size+1,[{target:= .collected w.heap.size,args:= #[] }],W1,{target:= .fn (.func gf) lb,args:= #[.func (.yield (w.heap.size+1)) #[] #[]] },W1,gf,
  #[.func (.yield (w.heap.size+1)) #[] #[]]++lb,W1,?_,?_,?_,?_,fun _=>h1,?_⟩
 ·rw[←hW1,hrec];exact run_enterLoop_outer _ _ _ _ _
 ·simp only[resolve,hg]
  simp[go_sem]
 ·intro f' hf';simp[Target.leads]at hf';subst hf';exact hFg
 ·simp[invoke,go_sem,eg]
 ·refine(hseq (w.heap.size+1) (fun pre W=>I pre W∧W.heap[w.heap.size+1]? =some (.loop (rec .ready none))∧W.heap[w.heap.size]? =some (.deferred (some []))) W1 hK1
   (fun s A B row hs hg' hr=>⟨hI s A B row hs.1 hg' (fun r e=> .inl (hr r e)),(hg'.block _ (Array.getElem?_eq_some_iff.1 hs.2.1).1 (fun e=>by have:=hr _ e.symm;omega)).trans hs.2.1,
    (hg'.block _ (Array.getElem?_eq_some_iff.1 hs.2.2).1 (fun e=>by have:=hr _ e.symm;omega)).trans hs.2.2⟩) ?_ ⟨hI1,hL1,hD1⟩).mono ?_
  ·rintro pre x W ⟨hi,hl,hk⟩ hlen
   have hlt:w.heap.size+1<W.heap.size:=(Array.getElem?_eq_some_iff.1 hl).1;have hy:=run_yield (P:=P) (args:=encs x) hl (by rw[hrec];exact hps x);rw[hrec]at hy;refine⟨fn,_,assign,body,hy,roundIn_of_wpIn hfn (hassign _ x W _ ?_)⟩;refine⟨_,run_beginRound hl (by rw[hrec]),?_⟩;have hl2:(W.putObj (w.heap.size+1) (.loop {rec .ready none with state:= .busy})).heap[w.heap.size+1]? =some (.loop {rec .ready none with state:= .busy}):=World.putObj_heap_same hlt;have hk2:(W.putObj (w.heap.size+1) (.loop {rec .ready none with state:= .busy})).heap[w.heap.size]? =some (.deferred (some [])):=(World.putObj_heap_other (by omega)).trans hk;refine wpIn_mono (hbody _ pre x _ (putI _ _ _ _ _ hi (by omega) hl rfl) hlen) ?_;rintro e a3 W3 hp
   cases e with
   | normal=>
    obtain⟨hk3,hkp3,hi3⟩:=hp;have hl3:=hk3.same _ _ hl2 rfl;have hk4:=hk3.same _ _ hk2 rfl;have hlt3:w.heap.size+1<W3.heap.size:=(Array.getElem?_eq_some_iff.1 hl3).1;have hr:=run_endRound (P:=P) none hl3;rw[hrec]at hr;refine⟨_,_,hr,rfl,⟨putI _ _ _ _ _ hi3 (by omega) hl3 rfl,?_,(World.putObj_heap_other (by omega)).trans hk4⟩,hKt (hKt (hKb _ _ _ (by omega)) hkp3) (hKb _ _ _ (by omega))⟩;rw[World.putObj_heap_same hlt3,hrec];rfl
   | ret=>exact hp.2.elim
   | exit id=>exact hp.2.elim
   | goto t=>exact hp.2.elim
   | panic ch=>exact hp.elim
   | outgrown=>exact hp.elim
  ·rintro e W2 ⟨⟨v,rfl⟩,xs,hS,hi,hl,hk⟩
   have he:=run_endLoop (P:=P) hl (by rw[hrec];simp);rw[hrec]at he;exact⟨none,_,he,hdone _ xs _ (Nat.le_refl _) hS (putI _ _ _ _ _ hi (by omega) hl rfl) ((World.putObj_heap_other (by omega)).trans hk)⟩
end
section
attribute [local go_sem] Oper.semAt_some
def pcs:List UInt8→List (List UInt8)
 | []=>[[]]
 | c::t=>if c=10 then []::pcs t else(c::(pcs t).headD [])::(pcs t).tail
theorem Jt: ∀l:List UInt8,pcs l≠ []
 | []=>by simp[pcs]
 | c::t=>by unfold pcs;split<;>simp
theorem wI: ∀l:List UInt8,Lib.indexByte l 10= -1→pcs l=[l]
 | [],_=>rfl
 | c::t,h=>by
  have hge:=Lib.indexByte_ge t 10;unfold Lib.indexByte at h
  by_cases hc:c=10
  ·subst hc;simp at h
  ·have h1:(c==10)=false:=by simpa using hc
   rw[h1]at h;simp only[Bool.false_eq_true,if_false]at h
   by_cases hm:Lib.indexByte t 10= -1
   ·unfold pcs
    rw[if_neg hc,wI t hm];rfl
   ·have h2:(Lib.indexByte t 10== -1)=false:=by simpa using hm
    rw[h2]at h;simp only[Bool.false_eq_true,if_false]at h;omega
theorem wH: ∀(l:List UInt8) (i:Nat),Lib.indexByte l 10=(i:Int)→i<l.length∧pcs l=l.take i::pcs (l.drop (i+1))
 | [],i,h=>absurd h (by show¬((-1:Int)=(i:Int));omega)
 | c::t,i,h=>by
  have hge:=Lib.indexByte_ge t 10;unfold Lib.indexByte at h
  by_cases hc:c=10
  ·subst hc
   simp at h;obtain rfl:i=0:=by omega
   refine⟨by simp,?_⟩
   conv=>lhs;unfold pcs
   simp
  ·have h1:(c==10)=false:=by simpa using hc
   rw[h1]at h;simp only[Bool.false_eq_true,if_false]at h
   by_cases hm:Lib.indexByte t 10= -1
   ·rw[hm]at h;first | (simp at h;done)| (simp at h;omega)
   ·have h2:(Lib.indexByte t 10== -1)=false:=by simpa using hm
    rw[h2]at h;simp only[Bool.false_eq_true,if_false]at h;obtain⟨k,rfl⟩: ∃k,i=k+1:=⟨i-1,by omega⟩;obtain⟨h3,h4⟩:=wH t k (by omega);refine⟨by simp;omega,?_⟩
    conv=>lhs;unfold pcs
    rw[if_neg hc,h4];simp
theorem AB: ∀l:List UInt8,(pcs l).flatten.length+(pcs l).length=l.length+1
 | []=>rfl
 | c::t=>by
  have ih:=AB t;unfold pcs
  split
  ·simp only[List.flatten_cons,List.length_append,List.length_nil,List.length_cons];omega
  ·cases h:pcs t with
   | nil=>exact absurd h (Jt t)
   | cons a r=>
    rw[h]at ih;simp only[List.headD_cons,List.tail_cons,List.flatten_cons,List.length_append,List.length_cons]at ih ⊢;omega
def KpB (base B:Nat) (A A':World):Prop:= ∀k,k<base→k≠B→A'.heap[k]? =A.heap[k]?
def vG (C:Nat) (W:World):Nat:=match W.cell? ⟨C,0,none⟩with
 | some v=>eY v
 | none=>0
theorem rz {C:Nat} {W:World} {b:List UInt8} {t:TypeId} (h:Blk W C t [.string ⟨b.toArray⟩]):vG C W=b.length:=by
 unfold vG;rw[h.cell 0];exact dz b
theorem uE (s:List UInt8) (w:World):Calls Tryz.prog 73 #[.string ⟨s.toArray⟩,.string ⟨#[10]⟩] w fun e w'=>
  e= .returned (.func (.func 138) #[] #[.pointer (some ⟨w.heap.size+1,0,none⟩),.pointer (some ⟨w.heap.size,0,none⟩),.pointer (some ⟨w.heap.size+2,0,none⟩)])∧
  ((w.alloc (.cells #[.string ⟨s.toArray⟩] 9)).alloc (.cells #[.string ⟨#[10]⟩] 9)).alloc (.cells #[.int .i64 0] 3)=w':=by
 have hmf: ∀(fn:Fn) (first cap:Array Value) (w:World),(Instr.makeFunc fn first cap).run Tryz.prog w= .ok (.func fn first cap) w:=fun _ _ _ _=>rfl
 go_enter Tryz.func73,Tryz.ntmps73
 go_wp2
 go_ret;exact⟨rfl,rfl⟩
theorem CK (m base B C:Nat) (s:List UInt8) (w:World) (hs:s.length≤100000) (hB:B<C) (hC:C+2<base)
  (b0:Blk w C 9 [.string ⟨s.toArray⟩]) (b1:Blk w (C+1) 9 [.string ⟨#[10]⟩]) (b2:Blk w (C+2) 3 [.int .i64 0]):
  KE Fence.wide m Tryz.prog 138 #[.pointer (some ⟨C+1,0,none⟩),.pointer (some ⟨C,0,none⟩),.pointer (some ⟨C+2,0,none⟩)] Kw (KpB base B) (fun xs=>xs=pcs s) (fun q=>q<+:pcs s) C w:=by
 intro l J W1 hK hJ hY h0;have c0:Blk W1 C 9 [.string ⟨s.toArray⟩]:=(hK C (by omega) (by omega)).trans b0;have c1:Blk W1 (C+1) 9 [.string ⟨#[10]⟩]:=(hK (C+1) (by omega) (by omega)).trans b1;have c2:Blk W1 (C+2) 3 [.int .i64 0]:=(hK (C+2) (by omega) (by omega)).trans b2;have q1:W1.cell? ⟨C+1,0,none⟩=some (.string ⟨#[10]⟩):=c1.cell 0;have H0:=zH h0;have HC0:=zH c0;have HC1:=zH c1;have HC2:=zH c2;have HJ:=zH hJ;have HY:=zH hY;clear b0 b1 b2 hK h0 c0 c1 c2 hJ hY;refine callsIn_of_wp Tryz.func138 rfl trivial ?_ rfl;simp only[Tryz.ntmps138,List.size_toArray,List.length_cons,List.length_nil,Nat.reduceAdd,Nat.reduceSub,Array.replicate_succ,Array.replicate_zero,List.push_toArray,List.append_toArray,List.nil_append,List.cons_append]
 gi_wp2_with fail
 gi_loopw [7,8] (fun i f wr=> ∃(pre:List (List UInt8)) (rest:List UInt8),Blk wr C 9 [.string ⟨rest.toArray⟩]∧Blk wr (C+1) 9 [.string ⟨#[10]⟩]∧Blk wr (C+2) 3 [.int .i64 0]∧J pre wr∧pre++pcs rest=pcs s∧rest.length≤s.length) (fun _ _ wr=>vG C wr)
 case atStart=>exact⟨[],s,HC0.out,HC1.out,HC2.out,H0.out,rfl,Nat.le_refl _⟩
 case round=>
  obtain⟨pre,rest,d0,d1,d2,hj,hp,hr⟩:=hrel;have q0:wr.cell? ⟨C,0,none⟩=some (.string ⟨rest.toArray⟩):=d0.cell 0;have q1:wr.cell? ⟨C+1,0,none⟩=some (.string ⟨#[10]⟩):=d1.cell 0;have q2:wr.cell? ⟨C+2,0,none⟩=some (.int .i64 0):=d2.cell 0;have hsz:=aJ rest;have D:=zH (And.intro d0 (And.intro d1 d2));have HP:=zH hp;have HJR:=zH hj;clear d0 d1 d2 hp hj HC0 HC1 HC2 H0
  by_cases hm:Lib.indexByte rest 10= -1
  ·have hps:=wI rest hm
   obtain⟨fn,tmps,assign,body,hy,hR⟩:=HY.out pre rest wr HJR.out (by rw[←HP.out,hps];exact⟨[],by simp⟩);have hy':(Instr.yield l #[.string ⟨rest.toArray⟩]).run Tryz.prog wr= .ok (.round l fn tmps assign body) wr:=hy;have I1:Hid (∀W,CallsIn Fence.wide (m-1) Tryz.prog 140 #[.string ⟨rest.toArray⟩,.string ⟨#[10]⟩] W fun e w'=>e= .returned (.int .i64 (-1))∧W=w'):=zH fun W=>by
    have h:=index_one rest 10 W;rw[hm]at h;exact callsIn_wide.2 (h.mono fun e w' ⟨a,b⟩=>⟨a,b.symm⟩)
   have HPS:=zH hps;have HRR:=zH hR;clear hy hR hm hps
   gi_wp2_with (refine⟨trivial,fun h=>(by cases h),?_⟩;gi_at_call 140;refine(I1.out _).mono ?_;rintro e w' ⟨rfl,rfl⟩)
   refine⟨fun h=>(by cases h),?_⟩;refine HRR.out.mono ?_;rintro e W3 ⟨rfl,hj3,hk3⟩;have HF:=zH hj3;clear hj3 hk3 HRR HY HJ
   gi_wp2_with fail
   go_end0;refine⟨⟨_,rfl⟩,_,?_,HF.out⟩;rw[←HP.out,HPS.out]
  ·obtain⟨i,hi⟩: ∃i:Nat,Lib.indexByte rest 10=(i:Int):=by
    have:=Lib.indexByte_ge rest 10;exact⟨(Lib.indexByte rest 10).toNat,by omega⟩
   obtain⟨hil,hps⟩:=wH rest i hi;obtain⟨fn,tmps,assign,body,hy,hR⟩:=HY.out pre (rest.take i) wr HJR.out (by rw[←HP.out,hps];exact⟨pcs (rest.drop (i+1)),by simp⟩);have hy':(Instr.yield l #[.string ⟨(rest.take i).toArray⟩]).run Tryz.prog wr= .ok (.round l fn tmps assign body) wr:=hy;have I1:Hid (∀W,CallsIn Fence.wide (m-1) Tryz.prog 140 #[.string ⟨rest.toArray⟩,.string ⟨#[10]⟩] W fun e w'=>e= .returned (.int .i64 (i:Int))∧W=w'):=zH fun W=>by
    have h:=index_one rest 10 W;rw[hi]at h;exact callsIn_wide.2 (h.mono fun e w' ⟨a,b⟩=>⟨a,b.symm⟩)
   have k1:=jI rest i (by omega);have k2:=dX rest (i+1) (by omega);have c1:((i+1:Nat):Int)=(i:Int)+1:=by omega
   rw[c1]at k2;have hdl:(rest.drop (i+1)).length<rest.length:=by rw[List.length_drop];omega
   have HPS:=zH hps;have HRR:=zH hR;clear hy hR hm hps c1 hi
   gi_wp2_with (refine⟨trivial,fun h=>(by cases h),?_⟩;gi_at_call 140;refine(I1.out _).mono ?_;rintro e w' ⟨rfl,rfl⟩)
   refine⟨fun h=>(by cases h),?_⟩;refine HRR.out.mono ?_;rintro e W3 ⟨rfl,hj3,hk3⟩;have e0:Blk W3 C 9 [.string ⟨rest.toArray⟩]:=(hk3 C (by omega) (by omega)).trans D.out.1;have e1:Blk W3 (C+1) 9 [.string ⟨#[10]⟩]:=(hk3 (C+1) (by omega) (by omega)).trans D.out.2.1;have e2:Blk W3 (C+2) 3 [.int .i64 0]:=(hk3 (C+2) (by omega) (by omega)).trans D.out.2.2;have r0:W3.cell? ⟨C,0,none⟩=some (.string ⟨rest.toArray⟩):=e0.cell 0;have r1:W3.cell? ⟨C+1,0,none⟩=some (.string ⟨#[10]⟩):=e1.cell 0;have f0:W3.frozen? ⟨C,0,none⟩=false:=e0.frozen (by simp);obtain⟨dr,hdr⟩: ∃dr,rest.drop (i+1)=dr:=⟨_,rfl⟩;have E:Hid (Blk (W3.setCell ⟨C,0,none⟩ (.string ⟨dr.toArray⟩)) C 9 [.string ⟨dr.toArray⟩]∧Blk (W3.setCell ⟨C,0,none⟩ (.string ⟨dr.toArray⟩)) (C+1) 9 [.string ⟨#[10]⟩]∧Blk (W3.setCell ⟨C,0,none⟩ (.string ⟨dr.toArray⟩)) (C+2) 3 [.int .i64 0]∧J (pre++ [rest.take i]) (W3.setCell ⟨C,0,none⟩ (.string ⟨dr.toArray⟩))):=
    zH ⟨e0.set 0 _,(Below.heap_setCell _ _ _ _ (by simp only;omega)).trans e1,(Below.heap_setCell _ _ _ _ (by simp only;omega)).trans e2,HJ.out _ _ _ _ hj3 (grownBy_setCell' W3 C _) (fun r e=>by cases e;rfl)⟩
   rw[hdr]at k2 hdl HPS;have HD:=zH hdr;clear hj3 hk3 HRR HY HJ e0 e1 e2 hdr
   gi_wp2_with fail
   go_roundw
   case rel=>
    refine⟨_,dr,E.out.1,E.out.2.1,E.out.2.2.1,E.out.2.2.2,?_,by omega⟩;rw[←HP.out,HPS.out];simp
   case measure=>
    rw[rz E.out.1,rz D.out.1];exact hdl
end
end Go.Proofs.YtebabjnngdjceaaGreatDoor

/- Slices of structs of one -/
import Derived.Test.YtebabjnngdjceaaGreatDoorProg
import Derived.WalkSpells
import Derived.WalkLawsBesides
import Derived.Lib.Hide
import Derived.Test.YtebabjnngdjceaaGreatDoorZ0
set_option linter.unusedVariables false
set_option linter.unusedSimpArgs false
namespace Go.Proofs.YtebabjnngdjceaaGreatDoor
open Go.RowKit
section
open Go.RowKit
section
variable {α:Type}{n:Nat}{f:α→List Value}
def aA (f:α→List Value)(l:List α):List Value:=(l.map f).flatten
theorem dA (f:α→List Value)(a b:List α):aA f (a++b)=aA f a++aA f b:=by simp[aA]
theorem eO (f:α→List Value)(x:α)(l:List α):aA f (x::l)=f x++aA f l:=by simp[aA]
theorem dU (f:α→List Value)(x:α):aA f [x]=f x:=by simp[aA]
theorem bQ (hf:∀x,(f x).length=n):∀l:List α,(aA f l).length=l.length*n
 | []=>by simp[aA]
 | x::l=>by
  rw[eO,PL,hf x,bQ hf l,PI,Nat.add_mul];omega
theorem pK (hf:∀x,(f x).length=n):∀(l:List α) (j i:Nat) (x:α) (c:Value),l[j]? =some x→(f x)[i]? =some c→(aA f l)[j*n+i]? =some c
 | [],j,i,x,c,h,_=>by simp at h
 | y::l,0,i,x,c,h,hc=>by
  simp at h;subst h;rw[eO,Nat.zero_mul,Ra,P7 (Pw.1 hc).1];exact hc
 | y::l,j+1,i,x,c,h,hc=>by
  have ih:=pK hf l j i x c (by simpa using h) hc;have e:(j+1)*n+i=n+(j*n+i):=by rw[Nat.add_mul];omega
  rw[eO,e,P5 (by rw[hf y];omega),hf y];rw[show n+(j*n+i)-n=j*n+i by omega];exact ih
theorem jU (hf:∀x,(f x).length=n):∀(l:List α) (q:Nat) (c:Value),(aA f l)[q]? =some c→ ∃(j i:Nat) (x:α),q=j*n+i∧l[j]? =some x∧(f x)[i]? =some c
 | [],q,c,h=>by simp[aA]at h
 | y::l,q,c,h=>by
  rw[eO]at h
  by_cases hq:q<n
  ·rw[P7 (by rw[hf y];exact hq)]at h
   exact⟨0,q,y,by simp,by simp,h⟩
  ·rw[P5 (by rw[hf y];omega),hf y]at h
   obtain⟨j,i,x,he,hj,hc⟩:=jU hf l (q-n) c h;exact⟨j+1,i,x,by rw[Nat.add_mul];omega,by simpa using hj,hc⟩
def Fs (n:Nat)(f:α→List Value)(w:World)(v:Value)(l:List α):Prop:=
 ∃a cap,v=.slice a l.length cap∧l.length≤cap∧ ∀j x,l[j]? =some x→ ∃b off,a=some ⟨b,off,none⟩∧ ∀i c,(f x)[i]? =some c→w.cell? ⟨b,off+(j*n+i),none⟩=some c
theorem Fs.below {w w':World}{v:Value}{l:List α}(h:Fs n f w v l)(hb:Below w.heap.size w w'):Fs n f w' v l:=by
 obtain⟨a,cap,rfl,hc,hr⟩:=h;refine⟨a,cap,rfl,hc,fun j x hj=>?_⟩;obtain⟨b,off,rfl,h0⟩:=hr j x hj;refine⟨b,off,rfl,fun i c hi=>?_⟩;have h1:=h0 i c hi;have hlt:=PX w _ h1;exact(hb.cell hlt).trans h1
theorem Fs.nil (w:World):Fs n f w (.slice none 0 0) []:=⟨none,0,rfl,Px _,fun j x hj=>by simp at hj⟩
theorem Fs.len {w:World}{v:Value}{l:List α}(h:Fs n f w v l):∃a cap,v=.slice a l.length cap:=by
 obtain⟨a,cap,rfl,_⟩:=h;exact⟨a,cap,rfl⟩
def ag (e n:Nat)(f:α→List Value)(base:Nat)(W:World)(x:Value)(l:List α):Prop:=W.ownsRow base e n x l.length (aA f l)
variable {e:Nat}
theorem ag.nil (base:Nat)(W:World):ag e n f base W (.slice none 0 0) []:=World.ownsRow_nil _ _ _ _
theorem ag.sl (hf:∀x,(f x).length=n){base:Nat}{W:World}{x:Value}{l:List α}(h:ag e n f base W x l):Fs n f W x l:=by
 rcases h.2 with⟨rfl,h0⟩| ⟨g,cap,cur,rfl,hb,hh,hn,_⟩
 ·have:l=[]:=Qj h0
  subst this;exact Fs.nil W
 ·refine⟨_,_,rfl,hn,fun j x hj=>⟨g,0,rfl,fun i c hi=>?_⟩⟩
  have:=World.ownsRow.cells (g:=g) h rfl (j*n+i) c (pK hf l j i x c hj hi);rw[QV]at this;exact this
theorem ag.below {base:Nat}{w0 W w':World}{x:Value}{l:List α}(h:ag e n f base W x l)(hb:Below base w0 W)(hs:base≤W.heap.size)(hg:W.grownBy w' x.ownBlock):Below base w0 w':=
 hb.grown hg hs (fun j e=>(World.ownsRow.lt h j e).1)
theorem ag.mono {base base':Nat}{W:World}{x:Value}{l:List α}(h:ag e n f base W x l)(hb:base'≤base):ag e n f base' W x l:=by
 refine⟨h.1,?_⟩;rcases h.2 with h0 | ⟨g,cap,cur,e1,hg,r⟩
 ·exact .inl h0
 ·exact .inr ⟨g,cap,cur,e1,by omega,r⟩
theorem ag.keep {base:Nat}{W w':World}{x:Value}{l:List α}(h:ag e n f base W x l)(hb:Below W.heap.size W w'):ag e n f base w' x l:=by
 refine⟨h.1,?_⟩;rcases h.2 with h0 | ⟨g,cap,cur,e1,hg,hh,r⟩
 ·exact .inl h0
 ·exact .inr ⟨g,cap,cur,e1,hg,(hb.block g (Py.1 hh).1).trans hh,r⟩
theorem ag.apart {base:Nat}{W w':World}{x:Value}{l:List α}{row:Option Nat}(h:ag e n f base W x l)(hg:W.grownBy w' row)(hne:x.ownBlock=none∨x.ownBlock≠row):ag e n f base w' x l:=
 World.ownsRow.kept h hg hne
theorem Oe {w:World}(hf:∀x,(f x).length=n)(C:Array Value)(t:TypeId)(fr:Nat×Nat)(l:List α)(cap:Nat)(hc:l.length≤cap)(h:∀(q:Nat) (c:Value),(aA f l)[q]? =some c→C[q]? =some c):
  Fs n f (w.alloc (.cells C t fr)) (.slice (some ⟨w.heap.size,0,none⟩) l.length cap) l:=by
 refine⟨_,_,rfl,hc,fun j x hj=>⟨_,_,rfl,fun i c hi=>?_⟩⟩;rw[Ra,World.cell?_alloc_mark];exact h _ _ (pK hf l j i x c hj hi)
theorem dM (hf:∀x,(f x).length=n)(w:World)(t:TypeId)(l:List α):
  Fs n f (w.alloc (.cells (aA f l).toArray t)) (.slice (some ⟨w.heap.size,0,none⟩) l.length l.length) l:=
 Oe hf _ t (0,0) l l.length (Px _) (fun q c hq=>by simpa using hq)
theorem mq (hf:∀x,(f x).length=n){base:Nat}(w:World)(hb:base≤w.heap.size)(l:List α)(hl:l.length≤maxLen):
  ag e n f base (w.alloc (.cells (aA f l).toArray e)) (.slice (some ⟨w.heap.size,0,none⟩) l.length l.length) l:=
 ⟨bQ hf l,.inr ⟨w.heap.size,l.length,_,rfl,hb,PK w _,Px _,hl,by simp[bQ hf l],QN (by simp[bQ hf l])⟩⟩
theorem lM {P:Program}{W:World}{base t bytes:Nat}{i0:TypeInfo}{z:Value}(hf:∀x,(f x).length=n)(h1:∀x,∀u∈f x,u.oneCell'=true)(hn:0<n)
  (ht:P.underlying t=some (.slice e)) (hi:P.info? e=some i0) (hz0:i0.zero=some z) (hz1:i0.size=n) (hz2:i0.bytes=bytes) (hzs:z.cells.size=n) (hbt:bytes≤1000)
  {x u:Value} {l m:List α} (h:ag e n f base W x l) (hu:Fs n f W u m) (hb:base≤W.heap.size) (hd:l.length+m.length≤1000000):
  ∃x' w',(Builtin.append_ #[t,t] t #[x,u]).run P W=.ok x' w'∧ag e n f base w' x' (l++m)∧W.grownBy w' x.ownBlock∧(x'.ownBlock=x.ownBlock∨x'.ownBlock=some W.heap.size):=by
 obtain⟨a,cap,rfl,hcap,hc⟩:=hu;rcases a with _ | a
 ·obtain rfl:m=[]:=by
   rcases m with _ | ⟨y,es⟩
   ·rfl
   ·obtain⟨g,off,hg,_⟩:=hc 0 y rfl
    cases hg
  refine⟨x,W,?_,by simpa using h,⟨rfl,rfl,rfl,Px _,fun _ _ _=>rfl⟩,.inl rfl⟩;have hz:∀(b:Option Addr) (k c:Nat),k≤c→(Builtin.append_ #[t,t] t #[.slice b k c,.slice none 0 cap]).run P W=.ok (.slice b k c) W:=by
   intro b k c hnc;rcases b with _ | b
   ·simp[Builtin.append_,QB ht,sizeOf,typeInfo,hi,Builtin.lenOf,Builtin.firstCells,hnc,Result.andThen]
   ·simp[Builtin.append_,QB ht,sizeOf,typeInfo,hi,Builtin.lenOf,Builtin.firstCells,hnc,Result.andThen,storeCells]
  rcases h.2 with⟨rfl,h0⟩| ⟨g,cap',cur,rfl,hh⟩
  ·exact hz none 0 0 (Px _)
  ·exact hz _ _ _ hh.2.2.1
 ·have hcells:∀j v,(aA f m)[j]? =some v→W.cell? (a.add j)=some v:=by
   intro j v hj;obtain⟨q,i,y,rfl,hq,hi⟩:=jU hf m j v hj;obtain⟨g,off,hg,h0⟩:=hc q y hq;obtain rfl:=PT hg;rw[QV];exact h0 i v hi
  obtain⟨x',w',hr,ho,hg,_,hq⟩:=run_append_own_at (P:=P) W base t t e i0 z n bytes ht hi hz0 hz1 hz2 hzs hn x l.length (aA f l) h a m.length cap (aA f m) (bQ hf m) hcells (fun u hu=>by
   simp only[aA,List.mem_flatten,Rm]at hu;obtain⟨ys,⟨y,_,rfl⟩,hy⟩:=hu;exact h1 y u hy) (by unfold maxLen;omega) (by
    have:(l.length+m.length)*bytes≤1000000*1000:=Nat.mul_le_mul hd hbt;omega) hb
  exact⟨x',w',hr,by unfold ag;rw[dA,PL];exact ho,hg,hq⟩
theorem Fs.front {P:Program}{w:World}{v:Value}{l:List α}{t:TypeId}{i0:TypeInfo}(ht:P.underlying t=some (.slice e))(hi:P.info? e=some i0)(h:Fs n f w v l)(k:Nat)(hk:k≤l.length):
  ∃u,(∀W:World,(Instr.slice t v none (some (.int .i64 (k:Int))) none).run P W=.ok u W)∧Fs n f w u (l.take k)∧(∀a m cap,v=.slice a m cap→u=.slice a k cap):=by
 obtain⟨a,cap,rfl,hc,hr⟩:=h;refine⟨.slice a k cap,fun W=>?_,?_,?_⟩
 ·have h1:k≤cap:=by omega
  simp[Instr.slice,Instr.sliceBounds,Instr.sliceBound,asIntOf,QB ht,h1,sizeOf,typeInfo,hi];intro _
  cases a with
  | none=>rfl
  | some a=>rfl
 ·have hl:(l.take k).length=k:=by rw[PW];omega
  refine⟨a,cap,by rw[hl],by rw[hl];omega,fun j x hj=>?_⟩;have hj1:j<k:=by
   have:=(Pw.1 hj).1;omega
  rw[RN hj1]at hj;exact hr j x hj
 ·rintro _ _ _ ⟨⟩
  rfl
theorem Fs.back {P:Program}{w:World}{v:Value}{l:List α}{t:TypeId}{i0:TypeInfo}(ht:P.underlying t=some (.slice e))(hi:P.info? e=some i0)(hz1:i0.size=n)(h:Fs n f w v l)(k:Nat)(hk:k≤l.length):
  ∃u,(∀W:World,(Instr.slice t v (some (.int .i64 (k:Int))) none none).run P W=.ok u W)∧Fs n f w u (l.drop k):=by
 obtain⟨a,cap,rfl,hc,hr⟩:=h;refine⟨.slice (if cap=k then a else a.map (·.add (k*n))) (l.length-k) (cap-k),fun W=>?_,?_⟩
 ·have h1:k≤cap:=by omega
  simp[Instr.slice,Instr.sliceBounds,Instr.sliceBound,asIntOf,QB ht,h1,hk,sizeOf,typeInfo,hi,hz1]
 ·have hl:(l.drop k).length=l.length-k:=by rw[PU]
  refine⟨_,_,by rw[hl],by rw[hl];omega,fun j x hj=>?_⟩;have hj1:j<l.length-k:=by
   have:=(Pw.1 hj).1;omega
  rw[QE]at hj;obtain⟨g,off,rfl,h0⟩:=hr (k+j) x hj;rw[PO (by omega)];refine⟨g,off+k*n,?_,fun i c hi=>?_⟩
  ·simp only[Re,QC]
   rw[QV]
  ·have:=h0 i c hi
   rw[show off+k*n+(j*n+i)=off+((k+j)*n+i) by rw[Nat.add_mul];omega];exact this
end
end
section
def Blk (W:World)(g:Nat)(e:TypeId)(L:List Value):Prop:=W.heap[g]? =some (.cells L.toArray e (0,0))
theorem Blk.cell {W:World}{g:Nat}{e:TypeId}{L:List Value}(h:Blk W g e L)(j:Nat):W.cell? ⟨g,j,none⟩=L[j]? :=by
 have h':W.heap[g]? =some (.cells L.toArray e (0,0)):=h;simp only[World.cell?,h'];simp
theorem Blk.frozen {W:World}{g:Nat}{e:TypeId}{L:List Value}(h:Blk W g e L){j:Nat}(hj:j<L.length):W.frozen? ⟨g,j,none⟩=false:=by
 have h':W.heap[g]? =some (.cells L.toArray e (0,0)):=h;simp only[World.frozen?,h'];simp
theorem Blk.set {W:World}{g:Nat}{e:TypeId}{L:List Value}(h:Blk W g e L)(j:Nat)(v:Value):Blk (W.setCell ⟨g,j,none⟩ v) g e (L.set j v):=by
 have h':W.heap[g]? =some (.cells L.toArray e (0,0)):=h;unfold Blk;rw[setCell_eq_setRow W g j L.toArray e (0,0) v h',setRow_heap W g _ _ e (0,0) h'];simp
theorem Blk.below {W W':World}{g:Nat}{e:TypeId}{L:List Value}(h:Blk W g e L)(hb:Below W.heap.size W W'):Blk W' g e L:=(hb.block g (Py.1 h).1).trans h
section
variable {α:Type}{n:Nat}{f:α→List Value}
theorem Blk.fown {W:World}{g e base:Nat}{l:List α}(hf:∀x,(f x).length=n)(h:Blk W g e (aA f l))(hb:base≤g)(hl:l.length≤maxLen):
  ag e n f base W (.slice (some ⟨g,0,none⟩) l.length l.length) l:=
 ⟨bQ hf l,.inr ⟨g,l.length,_,rfl,hb,h,Px _,hl,by simp[bQ hf l],QN (by simp[bQ hf l])⟩⟩
end
theorem ag.ty {α:Type}{e n:Nat}{f:α→List Value}{base:Nat}{W:World}{x:Value}{l:List α}(h:ag e n f base W x l){g:Nat}(hg:x.ownBlock=some g):base≤g∧ ∃cur,W.heap[g]? =some (.cells cur e (0,0)):=by
 rcases h.2 with⟨rfl,_⟩| ⟨g',cap,cur,rfl,hb,hh,_⟩
 ·cases hg
 ·simp only[Value.ownBlock,QC]at hg
  subst hg;exact⟨hb,cur,hh⟩
theorem dO {α β:Type}{e n e' n':Nat}{f:α→List Value}{f':β→List Value}{base base':Nat}{W:World}{x y:Value}{l:List α}{m:List β}(h1:ag e n f base W x l)(h2:ag e' n' f' base' W y m)(he:e≠e'):
  x.ownBlock=none∨x.ownBlock≠y.ownBlock:=by
 cases hx:x.ownBlock with
 | none=>exact .inl rfl
 | some g=>
  refine .inr fun h=>?_
  obtain⟨-,c1,e1⟩:=h1.ty hx;obtain⟨-,c2,e2⟩:=h2.ty h.symm;rw[e1]at e2;injection e2 with e2
  injection e2 with _ e3 _
  exact he e3
theorem bI {P:Program}{ops:Array Oper}{o:Oper}{a:Act}{w:World}{K:Act→World→Prop}{Q:Exit→Act→World→Prop}{E:Prop}
  (hgd:o.guard=none) (d s:Operand) (t t':TypeId) (hop:o.op=Op.call {callee:=Callee.builtin Builtin.append,args:= #[d,s],argTypes:= #[t,t'] })
  (vd vs:Value) (hd:a.eval d=vd) (hs:a.eval s=vs) {v':Value} {w':World} (hrun:(Builtin.append_ #[t,t'] o.type #[vd,vs]).run P w=.ok v' w') (hK:K (a.put o.dst v') w'):
  if Region.wanted o (yielded ops a.tmps)=true then Oper.wp P o a w K Q else E:=by
 have hw:Region.wanted o (yielded ops a.tmps)=true:=by simp[Region.wanted,hgd]
 rw[PZ hw];unfold Oper.wp;have hb:builtin .append #[t,t'] o.type=fun _ args=>(do pure (.value (←Builtin.append_ #[t,t'] o.type args)):Sem Next):=rfl
 simp[execOp,hop,resolve,invoke,hb,hd,hs,hrun,Result.andThen];exact hK
theorem take_same {α:Type}{a b:List α}{j:Nat}{x:α}(h:a.take j=b.take j)(ha:a[j]? =some x)(hb:b[j]? =some x):a.take (j+1)=b.take (j+1):=by
 rw[Qw,Qw,h,ha,hb]
theorem uE {α:Type}{a b:List α}{j:Nat}{x y:α}(ha:a[j]? =some x)(hb:b[j]? =some y)(h:x≠y):a≠b:=by
 rintro rfl;rw[ha]at hb;exact h (PT hb)
end
end Go.Proofs.YtebabjnngdjceaaGreatDoor

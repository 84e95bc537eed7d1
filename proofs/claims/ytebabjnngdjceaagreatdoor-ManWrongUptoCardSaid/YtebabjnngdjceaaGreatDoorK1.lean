/- Plain maths of layer 5:  -/
import Derived.WalkKit
import Derived.Lib.Hide
import Derived.Lib.Replace
import Derived.Lib.TrimByte
import Derived.Test.YtebabjnngdjceaaGreatDoorZ0
set_option linter.unusedVariables false
set_option linter.unusedSimpArgs false
namespace Go.Proofs.YtebabjnngdjceaaGreatDoor
open Go.RowKit
theorem LD {α:Type}{p:List α→Prop}(h0:p [])(h1:∀l c,p l→p (l++ [c]))(l:List α):p l:=by
 rw[←l.reverse_reverse]
 induction l.reverse with
 | nil=>simpa using h0
 | cons c t ih=>rw[List.reverse_cons];exact h1 _ _ ih
def blk (c:UInt8):Bool:=c==32 || c==9
def sl (l:List UInt8):Bool:=l.foldl (fun p c=>c==92&& !p) false
theorem LF (l:List UInt8)(c:UInt8):sl (l++ [c])=(c==92&& !sl l):=by simp[sl,Rv]
theorem Cn (l:List UInt8)(c:UInt8):Lib.trimRightB (l++ [c]) 92=if c=92 then Lib.trimRightB l 92 else l++ [c]:=by
 unfold Lib.trimRightB;rw[List.reverse_append,List.reverse_cons,List.reverse_nil,Qt,RY,List.dropWhile_cons]
 by_cases h:c=92
 ·simp[h]
 ·simp[h]
theorem zQ (l:List UInt8):(Lib.trimRightB l 92).length≤l.length:=by
 unfold Lib.trimRightB;rw[List.length_reverse];have:=(List.dropWhile_sublist (· ==(92:UInt8)) (l:=l.reverse)).length_le
 rwa [List.length_reverse]at this
theorem IV (l:List UInt8):(l.length-(Lib.trimRightB l 92).length) % 2=if sl l then 1 else 0:=by
 refine LD (p:=fun l=>(l.length-(Lib.trimRightB l 92).length) % 2=if sl l then 1 else 0) (by simp[Lib.trimRightB,sl]) (fun l c ih=>?_) l;rw[Cn,LF,PL,QF];have:=zQ l
 by_cases h:c=92
 ·subst h
  simp only[if_true,beq_self_eq_true,Bool.true_and]
  cases hs:sl l
  ·rw[hs]at ih;simp at ih⊢;omega
  ·rw[hs]at ih;simp at ih⊢;omega
 ·simp[h]
def isC (l:List UInt8)(i:Nat):Bool:=l[i]? ==some 34&&sl (l.take i)
def cmt (l:List UInt8):Option Nat:=(List.range l.length).find? (isC l)
def unc (l:List UInt8):List UInt8×Bool:=match cmt l with
 | some i=>(l.take (i-1),true)
 | none=>(l,false)
theorem Kt {l:List UInt8}(h:∀i,i<l.length→isC l i=false):cmt l=none:=by
 unfold cmt;rw[List.find?_range_eq_none];intro i hi;rw[h i hi];rfl
theorem Kr {l:List UInt8}{i:Nat}(hi:i<l.length)(h:isC l i=true)(hb:∀j,j<i→isC l j=false):cmt l=some i:=by
 unfold cmt;rw[List.find?_range_eq_some];refine⟨h,by simpa using hi,fun j hj=>?_⟩;rw[hb j hj];rfl
theorem IL {l:List UInt8}(h:∀i,i<l.length→isC l i=false):unc l=(l,false):=by unfold unc;rw[Kt h]
theorem IK {l:List UInt8}{i:Nat}(hi:i<l.length)(h:isC l i=true)(hb:∀j,j<i→isC l j=false):unc l=(l.take (i-1),true):=by unfold unc;rw[Kr hi h hb]
theorem Mw {l:List UInt8}{i:Nat}(h:isC l i=true):1≤i:=by
 rcases i with _ | i
 ·simp[isC,sl]at h
 ·omega
def isB (l:List UInt8)(i:Nat):Bool:=(match l[i]? with | some c=>blk c | none=>false)&& !sl (l.take i)
def ubl (l:List UInt8):Nat:=((List.range l.length).find? (isB l)).getD l.length
theorem IQ {l:List UInt8}(h:∀i,i<l.length→isB l i=false):ubl l=l.length:=by
 unfold ubl;have:(List.range l.length).find? (isB l)=none:=by
  rw[List.find?_range_eq_none];intro i hi;rw[h i hi];rfl
 rw[this];rfl
theorem IP {l:List UInt8}{i:Nat}(hi:i<l.length)(h:isB l i=true)(hb:∀j,j<i→isB l j=false):ubl l=i:=by
 unfold ubl;have:(List.range l.length).find? (isB l)=some i:=by
  rw[List.find?_range_eq_some];refine⟨h,by simpa using hi,fun j hj=>?_⟩;rw[hb j hj];rfl
 rw[this];rfl
theorem xX (l:List UInt8):ubl l≤l.length:=by
 unfold ubl
 cases h:(List.range l.length).find? (isB l)with
 | none=>simp
 | some i=>
  have:=List.mem_of_find?_eq_some h;simp at this⊢;omega
theorem mP {c:UInt8}{t:List UInt8}(h:blk c=false):1≤ubl (c::t):=by
 unfold ubl
 cases h1:(List.range (c::t).length).find? (isB (c::t))with
 | none=>simp
 | some i=>
  have:=List.find?_some h1;rcases i with _ | i
  ·simp[isB,h]at this
  ·simp
def dbl (b:List UInt8):List UInt8:=b.flatMap fun c=>if c=34 then [34,34] else [c]
theorem pO:dbl []=[]:=rfl
theorem eQ (c:UInt8)(l:List UInt8):dbl (c::l)=(if c=34 then [34,34] else [c])++dbl l:=by simp[dbl]
theorem sD (a b:List UInt8):dbl (a++b)=dbl a++dbl b:=by simp[dbl]
theorem zm (b:List UInt8):b.length≤(dbl b).length∧(dbl b).length≤2*b.length:=by
 induction b with
 | nil=>simp[dbl]
 | cons c l ih=>
  rw[eQ,PL,PI]
  split<;>simp<;>omega
theorem EG (O new:List UInt8)(b:UInt8)(l:List UInt8)(hp:List.isPrefixOf O (b::l)=false):∀k,Lib.replaceK O new k (b::l)=b::Lib.replaceK O new k l
 | 0=>rfl
 | k+1=>by
  have hge:=Lib.index_ge l O;have hi:Lib.index (b::l) O=if Lib.index l O== -1 then-1 else Lib.index l O+1:=by
   conv=>lhs;unfold Lib.index
   rw[hp];rfl
  unfold Lib.replaceK;rw[hi]
  by_cases hm:Lib.index l O= -1
  ·rw[hm];rfl
  ·have h1:(Lib.index l O== -1)=false:=by simpa using hm
   have h2:(Lib.index l O+1== -1)=false:=by rw[Rq];omega
   rw[h1];simp only[Qf,Q8];rw[h2];simp only[Qf,Q8];have e:(Lib.index l O+1).toNat=(Lib.index l O).toNat+1:=by omega
   rw[e,List.take_succ_cons,show(Lib.index l O).toNat+1+O.length=((Lib.index l O).toNat+O.length)+1 by omega,RG];rfl
theorem EH (O new l:List UInt8)(hO:O≠ [])(k:Nat):Lib.replaceK O new (k+1) (O++l)=new++Lib.replaceK O new k l:=by
 have hi:Lib.index (O++l) O=0:=by
  rcases O with _ | ⟨c,O⟩
  ·exact absurd rfl hO
  ·rw[Qe]
   unfold Lib.index;have:List.isPrefixOf (c::O) (c::(O++l))=true:=by
    rw[List.isPrefixOf_iff_prefix];exact⟨l,rfl⟩
   rw[this];rfl
 rw[Lib.replaceK_hit O new k (O++l) 0 hi];simp
theorem Jh:∀l:List UInt8,Lib.replaceK [34] [34,34] (l.count 34) l=dbl l
 | []=>rfl
 | b::l=>by
  by_cases h:b=34
  ·subst h
   rw[Ry,eQ,PZ rfl];have:=EH [34] [34,34] l (by simp) (l.count 34);rw[RY]at this;rw[this,Jh l]
  ·rw[R6 h,EG [34] _ b l (by simp[List.isPrefixOf,Ne.symm h]),Jh l,eQ,PO h]
   rfl
theorem uj:∀P:List UInt8,Lib.replaceK [34,34] [34] (P.count 34) (dbl P)=P
 | []=>rfl
 | b::l=>by
  by_cases h:b=34
  ·subst h
   rw[Ry,eQ,PZ rfl,EH [34,34] [34] (dbl l) (by simp),uj l];rfl
  ·rw[R6 h,eQ,PO h,RY,EG [34,34] _ b (dbl l) (by simp[List.isPrefixOf,Ne.symm h]),uj l]
theorem MR (O:List UInt8)(b:UInt8)(l:List UInt8)(hp:List.isPrefixOf O (b::l)=false):∀f,Lib.countFrom O f (b::l)=Lib.countFrom O f l
 | 0=>rfl
 | f+1=>by
  have hge:=Lib.index_ge l O;have hi:Lib.index (b::l) O=if Lib.index l O== -1 then-1 else Lib.index l O+1:=by
   conv=>lhs;unfold Lib.index
   rw[hp];rfl
  unfold Lib.countFrom;rw[hi]
  by_cases hm:Lib.index l O= -1
  ·rw[hm];rfl
  ·have h1:(Lib.index l O== -1)=false:=by simpa using hm
   have h2:(Lib.index l O+1== -1)=false:=by rw[Rq];omega
   rw[h1];simp only[Qf,Q8];rw[h2];simp only[Qf,Q8];have e:(Lib.index l O+1).toNat=(Lib.index l O).toNat+1:=by omega
   rw[e,show(Lib.index l O).toNat+1+O.length=((Lib.index l O).toNat+O.length)+1 by omega,RG]
theorem Eg:∀(P:List UInt8) (f:Nat),P.count 34<f→Lib.countFrom [34,34] f (dbl P)=P.count 34
 | [],0,h=>by simp at h
 | [],f+1,_=>rfl
 | b::l,f,h=>by
  by_cases hb:b=34
  ·subst hb
   rw[Ry]at h⊢;rcases f with _ | f
   ·omega
   ·have hi:Lib.index (dbl (34::l)) [34,34]=0:=by
     rw[eQ,PZ rfl];show Lib.index (34::34::dbl l) [34,34]=0;unfold Lib.index;simp[List.isPrefixOf]
    unfold Lib.countFrom;rw[hi];have e:(dbl (34::l)).drop ((0:Int).toNat+([34,34]:List UInt8).length)=dbl l:=by rw[eQ,PZ rfl];rfl
    rw[e,Eg l f (by omega)];simp;omega
  ·rw[R6 hb]at h⊢
   rw[eQ,PO hb,RY,MR [34,34] b (dbl l) (by simp[List.isPrefixOf,Ne.symm hb]),Eg l f h]
theorem xA (P:List UInt8):Lib.count (dbl P) [34,34]=P.count 34:=by
 unfold Lib.count;refine Eg P _ ?_;have h1:=(zm P).1;have h2:=List.count_le_length (a:=(34:UInt8)) (l:=P);omega
theorem vU (P:List UInt8):Lib.replaceAll (dbl P) [34,34] [34]=P:=by
 unfold Lib.replaceAll Lib.replace;rw[PO (by decide)];unfold Lib.replaceNum;rw[PZ (.inl (by decide)),xA,uj]
def uq:List UInt8→List UInt8×List UInt8×Bool
 | []=>([],[],false)
 | [c]=>if c=34 then([],[],true) else([c],[],false)
 | c::d::t=>if c=34 then(if d=34 then(34::(uq t).1,(uq t).2) else([],d::t,true)) else(c::(uq (d::t)).1,(uq (d::t)).2)
theorem Lm (c:UInt8)(h:c≠34):∀l:List UInt8,uq (c::l)=(c::(uq l).1,(uq l).2)
 | []=>by simp[uq,h]
 | d::t=>by
  conv=>lhs;unfold uq
  rw[PO h]
theorem Nw (t:List UInt8):uq (34::34::t)=(34::(uq t).1,(uq t).2):=by
 conv=>lhs;unfold uq
 simp
theorem Ny:∀r:List UInt8,r.head? ≠some 34→uq (34::r)=([],r,true)
 | [],_=>by simp[uq]
 | d::t,h=>by
  conv=>lhs;unfold uq
  have:d≠34:=fun e=>h (by simp[e])
  simp[this]
theorem xS:∀P r:List UInt8,uq (dbl P++r)=(P++(uq r).1,(uq r).2)
 | [],r=>by simp[pO]
 | c::P,r=>by
  rw[eQ]
  by_cases h:c=34
  ·subst h
   rw[PZ rfl];show uq (34::34::(dbl P++r))=_;rw[Nw,xS P r];rfl
  ·rw[PO h]
   show uq (c::(dbl P++r))=_;rw[Lm c h,xS P r];rfl
theorem Ch:∀(n:Nat) (l:List UInt8),l.length≤n→(uq l).2.1.length≤l.length
 | _,[],_=>by simp[uq]
 | _,[c],_=>by unfold uq;split<;>simp
 | 0,c::d::t,h=>by simp at h
 | n+1,c::d::t,h=>by
  unfold uq;simp only[PI]at h
  split
  ·split
   ·have:=Ch n t (by omega)
    simp only[PI];omega
   ·simp
  ·have:=Ch n (d::t) (by simp only[PI];omega)
   simp only[PI]at this⊢;omega
theorem IJ (l:List UInt8):(uq l).2.1.length≤l.length:=Ch _ l (Px _)
def eU:Nat→List UInt8→List (List UInt8)×Bool
 | 0,_=>([],true)
 | _+1,[]=>([],true)
 | n+1,c::t=>
  if blk c then eU n t
  else if c=34 then
   (if(uq t).2.2 then((uq t).1::(eU n (uq t).2.1).1,(eU n (uq t).2.1).2) else([(uq t).1],false))
  else((c::t).take (ubl (c::t))::(eU n ((c::t).drop (ubl (c::t)))).1,(eU n ((c::t).drop (ubl (c::t)))).2)
def args (l:List UInt8):List (List UInt8)×Bool:=eU l.length l
theorem nE:∀n,eU n []=([],true)
 | 0=>rfl
 | _+1=>rfl
theorem ji:∀(n m:Nat) (l:List UInt8),l.length≤n→l.length≤m→eU n l=eU m l
 | 0,m,l,hn,_=>by
  obtain rfl:l=[]:=Qj (by omega);rw[nE,nE]
 | n+1,0,l,_,hm=>by
  obtain rfl:l=[]:=Qj (by omega);rw[nE,nE]
 | n+1,m+1,[],_,_=>rfl
 | n+1,m+1,c::t,hn,hm=>by
  simp only[PI]at hn hm;have hu:=IJ t;unfold eU
  by_cases hb:blk c=true
  ·rw[PZ hb,PZ hb,ji n m t (by omega) (by omega)]
  ·rw[PO hb,PO hb]
   have hp:=mP (t:=t) (Bool.not_eq_true _▸hb);rw[ji n m (uq t).2.1 (by omega) (by omega),ji n m ((c::t).drop (ubl (c::t))) (by rw[PU,PI];omega) (by rw[PU,PI];omega)]
theorem KP:args []=([],true):=rfl
theorem Et {c:UInt8}{t:List UInt8}(h:blk c=true):args (c::t)=args t:=by
 show eU (t.length+1) (c::t)=eU t.length t
 conv=>lhs;unfold eU
 rw[PZ h]
theorem Ep {t:List UInt8}(h:(uq t).2.2=true):args (34::t)=((uq t).1::(args (uq t).2.1).1,(args (uq t).2.1).2):=by
 show eU (t.length+1) (34::t)=_
 conv=>lhs;unfold eU
 rw[PO (by decide),PZ rfl,PZ h,ji t.length (uq t).2.1.length _ (IJ t) (Px _)];rfl
theorem Ip {t:List UInt8}(h:(uq t).2.2=false):args (34::t)=([(uq t).1],false):=by
 show eU (t.length+1) (34::t)=_
 conv=>lhs;unfold eU
 rw[PO (by decide),PZ rfl,PO (by rw[h];decide)]
theorem Es {c:UInt8}{t:List UInt8}(h:blk c=false)(hq:c≠34):args (c::t)=((c::t).take (ubl (c::t))::(args ((c::t).drop (ubl (c::t)))).1,(args ((c::t).drop (ubl (c::t)))).2):=by
 have hp:=mP (t:=t) h;show eU (t.length+1) (c::t)=_
 conv=>lhs;unfold eU
 rw[PO (by rw[h];decide),PO hq,ji t.length ((c::t).drop (ubl (c::t))).length _ (by rw[PU,PI];omega) (Px _)];rfl
theorem nG:∀(n:Nat) (l:List UInt8),(eU n l).1.length≤l.length
 | 0,l=>by simp[eU]
 | n+1,[]=>by simp[eU]
 | n+1,c::t=>by
  have hu:=IJ t;unfold eU
  by_cases hb:blk c=true
  ·rw[PZ hb]
   have:=nG n t;rw[PI];omega
  ·rw[PO hb]
   have hp:=mP (t:=t) (Bool.not_eq_true _▸hb)
   split
   ·split
    ·have:=nG n (uq t).2.1
     simp only[PI];omega
    ·simp
   ·have:=nG n ((c::t).drop (ubl (c::t)))
    rw[PU]at this;simp only[PI]at this⊢;have h2:=xX (c::t);simp only[PI]at h2;omega
theorem KQ (l:List UInt8):(args l).1.length≤l.length:=nG _ l
end Go.Proofs.YtebabjnngdjceaaGreatDoor

/- Plain maths of layer 5: blanks, backslashes, comments, what is quoted, arguments. -/
import Derived.WalkKit
import Derived.Lib.Hide
import Derived.Lib.Replace
import Derived.Lib.TrimByte
import Derived.Test.YtebabjnngdjceaaGreatDoorZ0
set_option linter.unusedVariables false
set_option linter.unusedSimpArgs false
namespace Go.Proofs.YtebabjnngdjceaaGreatDoor
open Go.RowKit
theorem Kt {α:Type} {p:List α→Prop} (h0:p []) (h1: ∀l c,p l→p (l++ [c])) (l:List α):p l:=by
 rw[←l.reverse_reverse]
 induction l.reverse with
 | nil=>simpa using h0
 | cons c t ih=>rw[List.reverse_cons];exact h1 _ _ ih
def blk (c:UInt8):Bool:=c==32 || c==9
def sl (l:List UInt8):Bool:=l.foldl (fun p c=>c==92&& !p) false
theorem Ku (l:List UInt8) (c:UInt8):sl (l++ [c])=(c==92&& !sl l):=by simp[sl,Q6]
theorem Bp (l:List UInt8) (c:UInt8):Lib.trimRightB (l++ [c]) 92=if c=92 then Lib.trimRightB l 92 else l++ [c]:=by
 unfold Lib.trimRightB;rw[List.reverse_append,List.reverse_cons,List.reverse_nil,Qa,Q8,List.dropWhile_cons]
 by_cases h:c=92
 ·simp[h]
 ·simp[h]
theorem yX (l:List UInt8):(Lib.trimRightB l 92).length≤l.length:=by
 unfold Lib.trimRightB;rw[List.length_reverse];have:=(List.dropWhile_sublist (· ==(92:UInt8)) (l:=l.reverse)).length_le
 rwa [List.length_reverse]at this
theorem G8 (l:List UInt8):(l.length-(Lib.trimRightB l 92).length) % 2=if sl l then 1 else 0:=by
 refine Kt (p:=fun l=>(l.length-(Lib.trimRightB l 92).length) % 2=if sl l then 1 else 0) (by simp[Lib.trimRightB,sl]) (fun l c ih=>?_) l;rw[Bp,Ku,Pb,QG];have:=yX l
 by_cases h:c=92
 ·subst h
  simp only[if_true,beq_self_eq_true,Bool.true_and]
  cases hs:sl l
  ·rw[hs]at ih;simp at ih ⊢;omega
  ·rw[hs]at ih;simp at ih ⊢;omega
 ·simp[h]
def isC (l:List UInt8) (i:Nat):Bool:=l[i]? ==some 34&&sl (l.take i)
def cmt (l:List UInt8):Option Nat:=(List.range l.length).find? (isC l)
def unc (l:List UInt8):List UInt8×Bool:=match cmt l with
 | some i=>(l.take (i-1),true)
 | none=>(l,false)
theorem Jr {l:List UInt8} (h: ∀i,i<l.length→isC l i=false):cmt l=none:=by
 unfold cmt;rw[List.find?_range_eq_none];intro i hi;rw[h i hi];rfl
theorem Jq {l:List UInt8} {i:Nat} (hi:i<l.length) (h:isC l i=true) (hb: ∀j,j<i→isC l j=false):cmt l=some i:=by
 unfold cmt;rw[List.find?_range_eq_some];refine⟨h,by simpa using hi,fun j hj=>?_⟩;rw[hb j hj];rfl
theorem GV {l:List UInt8} (h: ∀i,i<l.length→isC l i=false):unc l=(l,false):=by unfold unc;rw[Jr h]
theorem GU {l:List UInt8} {i:Nat} (hi:i<l.length) (h:isC l i=true) (hb: ∀j,j<i→isC l j=false):unc l=(l.take (i-1),true):=by unfold unc;rw[Jq hi h hb]
theorem Lj {l:List UInt8} {i:Nat} (h:isC l i=true):1≤i:=by
 rcases i with _ | i
 ·simp[isC,sl]at h
 ·omega
def isB (l:List UInt8) (i:Nat):Bool:=(match l[i]? with | some c=>blk c | none=>false)&& !sl (l.take i)
def ubl (l:List UInt8):Nat:=((List.range l.length).find? (isB l)).getD l.length
theorem GZ {l:List UInt8} (h: ∀i,i<l.length→isB l i=false):ubl l=l.length:=by
 unfold ubl;have:(List.range l.length).find? (isB l)=none:=by
  rw[List.find?_range_eq_none];intro i hi;rw[h i hi];rfl
 rw[this];rfl
theorem GY {l:List UInt8} {i:Nat} (hi:i<l.length) (h:isB l i=true) (hb: ∀j,j<i→isB l j=false):ubl l=i:=by
 unfold ubl;have:(List.range l.length).find? (isB l)=some i:=by
  rw[List.find?_range_eq_some];refine⟨h,by simpa using hi,fun j hj=>?_⟩;rw[hb j hj];rfl
 rw[this];rfl
theorem xg (l:List UInt8):ubl l≤l.length:=by
 unfold ubl
 cases h:(List.range l.length).find? (isB l)with
 | none=>simp
 | some i=>
  have:=List.mem_of_find?_eq_some h;simp at this ⊢;omega
theorem mh {c:UInt8} {t:List UInt8} (h:blk c=false):1≤ubl (c::t):=by
 unfold ubl
 cases h1:(List.range (c::t).length).find? (isB (c::t))with
 | none=>simp
 | some i=>
  have:=List.find?_some h1;rcases i with _ | i
  ·simp[isB,h]at this
  ·simp
def dbl (b:List UInt8):List UInt8:=b.flatMap fun c=>if c=34 then [34,34] else [c]
theorem pF:dbl []=[]:=rfl
theorem eu (c:UInt8) (l:List UInt8):dbl (c::l)=(if c=34 then [34,34] else [c])++dbl l:=by simp[dbl]
theorem rC (a b:List UInt8):dbl (a++b)=dbl a++dbl b:=by simp[dbl]
theorem yF (b:List UInt8):b.length≤(dbl b).length∧(dbl b).length≤2*b.length:=by
 induction b with
 | nil=>simp[dbl]
 | cons c l ih=>
  rw[eu,Pb,Pe]
  split<;>simp<;>omega
theorem Dz (O new:List UInt8) (b:UInt8) (l:List UInt8) (hp:List.isPrefixOf O (b::l)=false): ∀k,Lib.replaceK O new k (b::l)=b::Lib.replaceK O new k l
 | 0=>rfl
 | k+1=>by
  have hge:=Lib.index_ge l O;have hi:Lib.index (b::l) O=if Lib.index l O== -1 then-1 else Lib.index l O+1:=by
   conv=>lhs;unfold Lib.index
   rw[hp];rfl
  unfold Lib.replaceK;rw[hi]
  by_cases hm:Lib.index l O= -1
  ·rw[hm];rfl
  ·have h1:(Lib.index l O== -1)=false:=by simpa using hm
   have h2:(Lib.index l O+1== -1)=false:=by rw[QJ];omega
   rw[h1];simp only[PO,QO];rw[h2];simp only[PO,QO];have e:(Lib.index l O+1).toNat=(Lib.index l O).toNat+1:=by omega
   rw[e,List.take_succ_cons,show(Lib.index l O).toNat+1+O.length=((Lib.index l O).toNat+O.length)+1 by omega,List.drop_succ_cons];rfl
theorem DC (O new l:List UInt8) (hO:O≠ []) (k:Nat):Lib.replaceK O new (k+1) (O++l)=new++Lib.replaceK O new k l:=by
 have hi:Lib.index (O++l) O=0:=by
  rcases O with _ | ⟨c,O⟩
  ·exact absurd rfl hO
  ·rw[PR]
   unfold Lib.index;have:List.isPrefixOf (c::O) (c::(O++l))=true:=by
    rw[List.isPrefixOf_iff_prefix];exact⟨l,rfl⟩
   rw[this];rfl
 rw[Lib.replaceK_hit O new k (O++l) 0 hi];simp
theorem H8: ∀l:List UInt8,Lib.replaceK [34] [34,34] (l.count 34) l=dbl l
 | []=>rfl
 | b::l=>by
  by_cases h:b=34
  ·subst h
   rw[List.count_cons_self,eu,Pk rfl];have:=DC [34] [34,34] l (by simp) (l.count 34);rw[Q8]at this;rw[this,H8 l]
  ·rw[List.count_cons_of_ne h,Dz [34] _ b l (by simp[List.isPrefixOf,Rh h]),H8 l,eu,Pd h]
   rfl
theorem sO: ∀P:List UInt8,Lib.replaceK [34,34] [34] (P.count 34) (dbl P)=P
 | []=>rfl
 | b::l=>by
  by_cases h:b=34
  ·subst h
   rw[List.count_cons_self,eu,Pk rfl,DC [34,34] [34] (dbl l) (by simp),sO l];rfl
  ·rw[List.count_cons_of_ne h,eu,Pd h,Q8,Dz [34,34] _ b (dbl l) (by simp[List.isPrefixOf,Rh h]),sO l]
theorem LJ (O:List UInt8) (b:UInt8) (l:List UInt8) (hp:List.isPrefixOf O (b::l)=false): ∀f,Lib.countFrom O f (b::l)=Lib.countFrom O f l
 | 0=>rfl
 | f+1=>by
  have hge:=Lib.index_ge l O;have hi:Lib.index (b::l) O=if Lib.index l O== -1 then-1 else Lib.index l O+1:=by
   conv=>lhs;unfold Lib.index
   rw[hp];rfl
  unfold Lib.countFrom;rw[hi]
  by_cases hm:Lib.index l O= -1
  ·rw[hm];rfl
  ·have h1:(Lib.index l O== -1)=false:=by simpa using hm
   have h2:(Lib.index l O+1== -1)=false:=by rw[QJ];omega
   rw[h1];simp only[PO,QO];rw[h2];simp only[PO,QO];have e:(Lib.index l O+1).toNat=(Lib.index l O).toNat+1:=by omega
   rw[e,show(Lib.index l O).toNat+1+O.length=((Lib.index l O).toNat+O.length)+1 by omega,List.drop_succ_cons]
theorem CZ: ∀(P:List UInt8) (f:Nat),P.count 34<f→Lib.countFrom [34,34] f (dbl P)=P.count 34
 | [],0,h=>by simp at h
 | [],f+1,_=>rfl
 | b::l,f,h=>by
  by_cases hb:b=34
  ·subst hb
   rw[List.count_cons_self]at h ⊢;rcases f with _ | f
   ·omega
   ·have hi:Lib.index (dbl (34::l)) [34,34]=0:=by
     rw[eu,Pk rfl];show Lib.index (34::34::dbl l) [34,34]=0;unfold Lib.index;simp[List.isPrefixOf]
    unfold Lib.countFrom;rw[hi];have e:(dbl (34::l)).drop ((0:Int).toNat+([34,34]:List UInt8).length)=dbl l:=by rw[eu,Pk rfl];rfl
    rw[e,CZ l f (by omega)];simp;omega
  ·rw[List.count_cons_of_ne hb]at h ⊢
   rw[eu,Pd hb,Q8,LJ [34,34] b (dbl l) (by simp[List.isPrefixOf,Rh hb]),CZ l f h]
theorem wL (P:List UInt8):Lib.count (dbl P) [34,34]=P.count 34:=by
 unfold Lib.count;refine CZ P _ ?_;have h1:=(yF P).1;have h2:=List.count_le_length (a:=(34:UInt8)) (l:=P);omega
theorem uZ (P:List UInt8):Lib.replaceAll (dbl P) [34,34] [34]=P:=by
 unfold Lib.replaceAll Lib.replace;rw[Pd (by decide)];unfold Lib.replaceNum;rw[Pk (.inl (by decide)),wL,sO]
def uq:List UInt8→List UInt8×List UInt8×Bool
 | []=>([],[],false)
 | [c]=>if c=34 then([],[],true) else([c],[],false)
 | c::d::t=>if c=34 then(if d=34 then(34::(uq t).1,(uq t).2) else([],d::t,true)) else(c::(uq (d::t)).1,(uq (d::t)).2)
theorem Kg (c:UInt8) (h:c≠34): ∀l:List UInt8,uq (c::l)=(c::(uq l).1,(uq l).2)
 | []=>by simp[uq,h]
 | d::t=>by
  conv=>lhs;unfold uq
  rw[Pd h]
theorem ME (t:List UInt8):uq (34::34::t)=(34::(uq t).1,(uq t).2):=by
 conv=>lhs;unfold uq
 simp
theorem MF: ∀r:List UInt8,r.head? ≠some 34→uq (34::r)=([],r,true)
 | [],_=>by simp[uq]
 | d::t,h=>by
  conv=>lhs;unfold uq
  have:d≠34:=fun e=>h (by simp[e])
  simp[this]
theorem wX: ∀P r:List UInt8,uq (dbl P++r)=(P++(uq r).1,(uq r).2)
 | [],r=>by simp[pF]
 | c::P,r=>by
  rw[eu]
  by_cases h:c=34
  ·subst h
   rw[Pk rfl];show uq (34::34::(dbl P++r))=_;rw[ME,wX P r];rfl
  ·rw[Pd h]
   show uq (c::(dbl P++r))=_;rw[Kg c h,wX P r];rfl
theorem Bi: ∀(n:Nat) (l:List UInt8),l.length≤n→(uq l).2.1.length≤l.length
 | _,[],_=>by simp[uq]
 | _,[c],_=>by unfold uq;split<;>simp
 | 0,c::d::t,h=>by simp at h
 | n+1,c::d::t,h=>by
  unfold uq;simp only[Pe]at h
  split
  ·split
   ·have:=Bi n t (by omega)
    simp only[Pe];omega
   ·simp
  ·have:=Bi n (d::t) (by simp only[Pe];omega)
   simp only[Pe]at this ⊢;omega
theorem GQ (l:List UInt8):(uq l).2.1.length≤l.length:=Bi _ l (OW _)
def eB:Nat→List UInt8→List (List UInt8)×Bool
 | 0,_=>([],true)
 | _+1,[]=>([],true)
 | n+1,c::t=>
  if blk c then eB n t
  else if c=34 then
   (if(uq t).2.2 then((uq t).1::(eB n (uq t).2.1).1,(eB n (uq t).2.1).2) else([(uq t).1],false))
  else((c::t).take (ubl (c::t))::(eB n ((c::t).drop (ubl (c::t)))).1,(eB n ((c::t).drop (ubl (c::t)))).2)
def args (l:List UInt8):List (List UInt8)×Bool:=eB l.length l
theorem mX: ∀n,eB n []=([],true)
 | 0=>rfl
 | _+1=>rfl
theorem iV: ∀(n m:Nat) (l:List UInt8),l.length≤n→l.length≤m→eB n l=eB m l
 | 0,m,l,hn,_=>by
  obtain rfl:l=[]:=PH (by omega);rw[mX,mX]
 | n+1,0,l,_,hm=>by
  obtain rfl:l=[]:=PH (by omega);rw[mX,mX]
 | n+1,m+1,[],_,_=>rfl
 | n+1,m+1,c::t,hn,hm=>by
  simp only[Pe]at hn hm;have hu:=GQ t;unfold eB
  by_cases hb:blk c=true
  ·rw[Pk hb,Pk hb,iV n m t (by omega) (by omega)]
  ·rw[Pd hb,Pd hb]
   have hp:=mh (t:=t) (Bool.not_eq_true _▸hb);rw[iV n m (uq t).2.1 (by omega) (by omega),iV n m ((c::t).drop (ubl (c::t))) (by rw[Pi,Pe];omega) (by rw[Pi,Pe];omega)]
theorem JK:args []=([],true):=rfl
theorem Dl {c:UInt8} {t:List UInt8} (h:blk c=true):args (c::t)=args t:=by
 show eB (t.length+1) (c::t)=eB t.length t
 conv=>lhs;unfold eB
 rw[Pk h]
theorem Dj {t:List UInt8} (h:(uq t).2.2=true):args (34::t)=((uq t).1::(args (uq t).2.1).1,(args (uq t).2.1).2):=by
 show eB (t.length+1) (34::t)=_
 conv=>lhs;unfold eB
 rw[Pd (by decide),Pk rfl,Pk h,iV t.length (uq t).2.1.length _ (GQ t) (OW _)];rfl
theorem GA {t:List UInt8} (h:(uq t).2.2=false):args (34::t)=([(uq t).1],false):=by
 show eB (t.length+1) (34::t)=_
 conv=>lhs;unfold eB
 rw[Pd (by decide),Pk rfl,Pd (by rw[h];decide)]
theorem Dk {c:UInt8} {t:List UInt8} (h:blk c=false) (hq:c≠34):args (c::t)=((c::t).take (ubl (c::t))::(args ((c::t).drop (ubl (c::t)))).1,(args ((c::t).drop (ubl (c::t)))).2):=by
 have hp:=mh (t:=t) h;show eB (t.length+1) (c::t)=_
 conv=>lhs;unfold eB
 rw[Pd (by rw[h];decide),Pd hq,iV t.length ((c::t).drop (ubl (c::t))).length _ (by rw[Pi,Pe];omega) (OW _)];rfl
theorem mY: ∀(n:Nat) (l:List UInt8),(eB n l).1.length≤l.length
 | 0,l=>by simp[eB]
 | n+1,[]=>by simp[eB]
 | n+1,c::t=>by
  have hu:=GQ t;unfold eB
  by_cases hb:blk c=true
  ·rw[Pk hb]
   have:=mY n t;rw[Pe];omega
  ·rw[Pd hb]
   have hp:=mh (t:=t) (Bool.not_eq_true _▸hb)
   split
   ·split
    ·have:=mY n (uq t).2.1
     simp only[Pe];omega
    ·simp
   ·have:=mY n ((c::t).drop (ubl (c::t)))
    rw[Pi]at this;simp only[Pe]at this ⊢;have h2:=xg (c::t);simp only[Pe]at h2;omega
theorem JL (l:List UInt8):(args l).1.length≤l.length:=mY _ l
end Go.Proofs.YtebabjnngdjceaaGreatDoor

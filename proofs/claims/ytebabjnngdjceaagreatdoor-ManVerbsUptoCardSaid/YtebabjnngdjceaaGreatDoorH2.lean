/- Plain maths of layer 10: lines that stand as they are: what ManVerbs asks. -/
import Derived.Test.YtebabjnngdjceaaGreatDoorH1
set_option linter.unusedVariables false
set_option linter.unusedSimpArgs false
namespace Go.Proofs.YtebabjnngdjceaaGreatDoor
open Go.RowKit
def mEX:Txt:=[69,88]
def mEE:Txt:=[69,69]
structure iX.out (I:iX):Prop where
 none: ∀r,r.mac=mTH∨r.mac=mSH∨r.mac=mSS∨r.mac=mEX∨r.mac=mEE→I.inl r=none
theorem sH {I:iX} {lg:Txt→List Gly} (hI:I.txt lg): ∀(l:List (Int×Txt)) (s:Md) (v:Int×List (List Gly)),s.g=none→s.v=some v→
  ((l.map fun q=>(⟨q.1,[],[],q.2⟩:aQ)).foldl (fO I) s).v=some (v.1,v.2++l.map fun q=>lg q.2)∧((l.map fun q=>(⟨q.1,[],[],q.2⟩:aQ)).foldl (fO I) s).g=none∧((l.map fun q=>(⟨q.1,[],[],q.2⟩:aQ)).foldl (fO I) s).b=s.b∧((l.map fun q=>(⟨q.1,[],[],q.2⟩:aQ)).foldl (fO I) s).th=s.th∧((l.map fun q=>(⟨q.1,[],[],q.2⟩:aQ)).foldl (fO I) s).w=s.w
 | [],s,v,hg,hv=>by simp[hg,hv]
 | q::l,s,v,hg,hv=>by
  obtain⟨wr,hw⟩:=hI.text ⟨q.1,[],[],q.2⟩ rfl;have e:fO I s ⟨q.1,[],[],q.2⟩={s with d:=s.d++bu q.1 wr,v:=some (v.1,v.2++ [lg q.2]) }:=by
   unfold fO;rw[hg];simp only[hw];rw[if_neg (by simp)];unfold xz;simp only[hv]
  rw[List.map_cons,List.foldl_cons,e];have ih:=sH hI l {s with d:=s.d++bu q.1 wr,v:=some (v.1,v.2++ [lg q.2]) } (v.1,v.2++ [lg q.2]) hg rfl;obtain⟨i1,i2,i3,i4,i5⟩:=ih;refine⟨?_,i2,i3,i4,i5⟩;rw[i1,List.map_cons,List.append_assoc];rfl
theorem yJ {ln:Int} {rows:List (List Gly)} (h0:0≤ln) (h1:ln≤1000) (hr:rows≠ []):mf [Nd.mk ⟨6,ln,0,[],rows,aX⟩ []]=[Nd.mk ⟨6,ln,0,[],rows,aX⟩ []]:=by
 refine GG ?_;unfold zW;have h2:ln≤1099511627775:=by omega
 rw[if_neg (by simp[aK,fT,dpL,dpN]),if_pos];simp[rtL,rtN,nH,stands,aS,ji,sqd,sqz,h0,h2,hr,aX,isNone];rfl
theorem uU {I:iX} {lg:Txt→List Gly} (hI:I.txt lg) (hO:I.out) (l:List (Int×Txt)) (hl:l≠ []) (n1 n9 ln:Int) (h0:0≤ln) (h1:ln≤1000) (name:Txt):
  nU (di I (⟨n1,mTH,[name],[]⟩::⟨ln,mEX,[],[]⟩::(l.map fun q=>(⟨q.1,[],[],q.2⟩:aQ))++ [⟨n9,mEE,[],[]⟩])).b=[Nd.mk ⟨6,ln,0,[],l.map fun q=>lg q.2,aX⟩ []]:=by
 have e1:fO I md0 ⟨n1,mTH,[name],[]⟩={md0 with th:=true,b:={md0.b with nm:=⟨name,[],[],[]⟩ } }:=by
  unfold fO;simp only[md0];rw[hO.none _ (.inl rfl)];rfl
 have e2:fO I {md0 with th:=true,b:={md0.b with nm:=⟨name,[],[],[]⟩ } } ⟨ln,mEX,[],[]⟩={md0 with th:=true,b:={md0.b with nm:=⟨name,[],[],[]⟩ },v:=some (ln,[]) }:=by
  unfold fO;simp only[md0];rw[hO.none _ (.inr (.inr (.inr (.inl rfl))))];simp only[upM];unfold EZ;rw[if_neg (show¬mEX=mTH by decide),if_neg (show¬mEX=mSH by decide),if_neg (show¬mEX=mSS by decide),if_neg (show¬(mEX=[80,80]∨mEX=[80]∨mEX=[76,80]) by decide),if_neg (show¬mEX=[84,80] by decide),if_neg (show¬mEX=[73,80] by decide),if_neg (show¬mEX=[82,83] by decide),if_neg (show¬mEX=[82,69] by decide),if_pos (show mEX=[69,88]∨mEX=[110,102] by decide)];rfl
 obtain⟨i1,i2,i3,i4,i5⟩:=sH hI l {md0 with th:=true,b:={md0.b with nm:=⟨name,[],[],[]⟩ },v:=some (ln,[]) } (ln,[]) rfl rfl;unfold di eU;rw[List.cons_append,List.cons_append,List.foldl_cons,List.foldl_cons,e1,e2,List.foldl_append];generalize List.foldl (fO I) _ (l.map fun q=>(⟨q.1,[],[],q.2⟩:aQ))=s at i1 i2 i3 i4 i5;rw[List.nil_append]at i1;have e3:fO I s ⟨n9,mEE,[],[]⟩=fQ s (ln,l.map fun q=>lg q.2):=by
  unfold fO;rw[i2];simp only[hO.none ⟨n9,mEE,[],[]⟩ (.inr (.inr (.inr (.inr rfl)))),i1];rw[if_pos (.inl rfl)]
 rw[List.foldl_cons,List.foldl_nil,e3];have e4:(zM I (fQ s (ln,l.map fun q=>lg q.2))).b=oL s.b (.mk ⟨6,ln,0,[],l.map fun q=>lg q.2,aX⟩ []):=by
  unfold zM;have h1:upM (fQ s (ln,l.map fun q=>lg q.2))=fQ s (ln,l.map fun q=>lg q.2):=by unfold upM fQ;simp only[i5];rfl
  have h2:Db I (fQ s (ln,l.map fun q=>lg q.2))=fQ s (ln,l.map fun q=>lg q.2):=by unfold Db fQ;simp only[i2]
  have h3:FC (fQ s (ln,l.map fun q=>lg q.2))=fQ s (ln,l.map fun q=>lg q.2):=by unfold FC fQ;rfl
  rw[h1,h2,h3];unfold xy fQ
  split<;>rfl
 rw[e4,i3];have e5:nU (oL {md0.b with nm:=⟨name,[],[],[]⟩ } (.mk ⟨6,ln,0,[],l.map fun q=>lg q.2,aX⟩ []))=mf [Nd.mk ⟨6,ln,0,[],l.map fun q=>lg q.2,aX⟩ []]:=rfl;have e6:=yJ (rows:=l.map fun q=>lg q.2) h0 h1 (by
  intro e;exact hl (List.map_eq_nil_iff.1 e))
 exact e5.trans e6
end Go.Proofs.YtebabjnngdjceaaGreatDoor

/- Plain maths of UTF-8: wh -/
import Derived.Lib.ValidAsc
import Derived.Lib.QuoteLoop
import Derived.Test.YtebabjnngdjceaaGreatDoorW3
set_option linter.unusedVariables false
set_option linter.unusedSimpArgs false
set_option maxRecDepth 100000
namespace Go.Proofs.YtebabjnngdjceaaGreatDoor
open Go.RowKit
section
open Go.Lib
def nY:Nat→List UInt8→List Int
 | 0,_=>[]
 | n+1,l=>if l=[] then [] else((decodeL l).1:Int)::nY n (l.drop (decodeL l).2)
def dec (l:List UInt8):List Int:=nY l.length l
def enc (l:List Int):List UInt8:=(l.map encodeRune).flatten
theorem nL:∀n,nY n []=[]
 | 0=>rfl
 | _+1=>by simp[nY]
theorem vR:∀(n m:Nat) (l:List UInt8),l.length≤n→l.length≤m→nY n l=nY m l
 | 0,m,l,hn,_=>by
  have:l=[]:=Re (by omega);subst this;rw[nL,nL]
 | n+1,0,l,_,hm=>by
  have:l=[]:=Re (by omega);subst this;rw[nL,nL]
 | n+1,m+1,l,hn,hm=>by
  unfold nY
  by_cases hne:l=[]
  ·simp[hne]
  ·have hw:=decodeL_width l
   have hl:0<l.length:=Rh.2 hne;rw[QG hne,QG hne,vR n m (l.drop (decodeL l).2) (by rw[QM];omega) (by rw[QM];omega)]
theorem F8:dec []=[]:=rfl
theorem Lm (l:List UInt8)(hne:l≠ []):dec l=((decodeL l).1:Int)::dec (l.drop (decodeL l).2):=by
 have hl:0<l.length:=Rh.2 hne;have hw:=decodeL_width l;obtain⟨n,hn⟩:∃n,l.length=n+1:=⟨l.length-1,by omega⟩;unfold dec;rw[hn];show(if l=[] then [] else _)=_;rw[QG hne,vR n (l.drop (decodeL l).2).length _ (by rw[QM];omega) (Qv _)]
theorem Ga:∀(n:Nat) (l:List UInt8),l.length≤n→(dec l).length≤l.length
 | 0,l,h=>by
  have:l=[]:=Re (by omega);subst this;simp[F8]
 | n+1,l,h=>by
  by_cases hne:l=[]
  ·subst hne;simp[F8]
  ·have hl:0<l.length:=Rh.2 hne
   have hw:=decodeL_width l;have:=Ga n (l.drop (decodeL l).2) (by rw[QM];omega);rw[Lm l hne];simp only[QC,QM]at this⊢;omega
theorem vQ (l:List UInt8):(dec l).length≤l.length:=Ga _ l (Qv _)
theorem nW (s:ByteArray):∀(n i:Nat) (acc:Array Value),Conv.runesFrom s n i acc=acc++((nY n (s.data.toList.drop i)).map (Value.int .i32)).toArray
 | 0,i,acc=>by simp[Conv.runesFrom,nY]
 | n+1,i,acc=>by
  unfold Conv.runesFrom nY;have hsz:s.size=s.data.toList.length:=Go.Lib.size_eq s
  by_cases h:i<s.size
  ·rw[QP h]
   have hne:s.data.toList.drop i≠ []:=by
    intro h0;have:=QI List.length h0;simp only[QM,QH]at this;omega
   rw[QG hne,decodeL_drop];simp only;rw[nW s n];apply Array.ext';simp only[TE,Array.toList_append,Array.toList_push,Q5,Rq,QY,Rc];rfl
  ·rw[QG h]
   have hnil:s.data.toList.drop i=[]:=Tv (by omega);rw[hnil];simp
theorem wK (l:List UInt8):Conv.runesFrom ⟨l.toArray⟩ l.length 0 #[]=((dec l).map (Value.int .i32)).toArray:=by
 rw[nW];simp[dec]
theorem encode_eq (r:Int):(Utf8.encode r).data.toList=encodeRune r:=by
 unfold encodeRune
 by_cases h1:(0≤r∧r<55296)∨(57344≤r∧r≤1114111)
 ·have hv:Utf8.valid r=true:=by unfold Utf8.valid;simpa using h1
  obtain⟨n,rfl⟩:∃n:Nat,r=n:=⟨r.toNat,by omega⟩;unfold Utf8.encode;rw[QP hv];simp only[Su]
  by_cases a:n<128
  ·rw[QP a,encodeRuneZ_one (by omega) (by omega)]
   simp
  ·rw[QG a]
   by_cases b:n<2048
   ·rw[QP b,encodeRuneZ_two (by omega) (by omega)]
    simp only[Q5,Ru];have e1:(192+(n:Int)/ 64).toNat=192+n / 64:=by omega
    have e2:(128+(n:Int) % 64).toNat=128+n % 64:=by omega
    rw[e1,e2]
   ·rw[QG b]
    by_cases c:n<65536
    ·rw[QP c,encodeRuneZ_three (by omega)]
     simp only[Q5,Ru];have e1:(224+(n:Int)/ 4096).toNat=224+n / 4096:=by omega
     have e2:(128+(n:Int)/ 64 % 64).toNat=128+n / 64 % 64:=by omega
     have e3:(128+(n:Int) % 64).toNat=128+n % 64:=by omega
     rw[e1,e2,e3]
    ·rw[QG c,encodeRuneZ_four (by omega) (by omega)]
     simp only[Q5,Ru];have e0:(240+(n:Int)/ 262144).toNat=240+n / 262144:=by omega
     have e1:(128+(n:Int)/ 4096 % 64).toNat=128+n / 4096 % 64:=by omega
     have e2:(128+(n:Int)/ 64 % 64).toNat=128+n / 64 % 64:=by omega
     have e3:(128+(n:Int) % 64).toNat=128+n % 64:=by omega
     rw[e0,e1,e2,e3]
 ·have hv:¬Utf8.valid r=true:=by unfold Utf8.valid;simpa using h1
  unfold Utf8.encode;rw[QG hv,encodeRuneZ_bad (by omega)];decide
theorem xS:∀(l:List Int) (s:ByteArray),(l.foldl (fun r n=>r++Utf8.encode n) s).data.toList=s.data.toList++enc l
 | [],s=>by simp[enc]
 | z::l,s=>by
  rw[Td,xS l];simp[enc,encode_eq]
theorem uo (l:List Int):runesBytes l=⟨(enc l).toArray⟩:=by
 have h:=xS l ByteArray.empty;unfold runesBytes;have he:ByteArray.empty.data.toList=[]:=rfl;rw[he,Rc]at h;generalize List.foldl (fun r n=>r++Utf8.encode n) ByteArray.empty l=s at h
 cases s
 simp only at h;rw[←h]
theorem Lh (z:Int)(l:List Int):enc (z::l)=encodeRune z++enc l:=by simp[enc]
theorem vO (z:Int):1≤(encodeRune z).length∧(encodeRune z).length≤4:=by
 have:=encodeRuneZ_length z
 simpa[encodeRune] using this
theorem NQ (l:List Int):(enc l).length≤4*l.length:=by
 induction l with
 | nil=>simp[enc]
 | cons z l ih=>
  have:=vO z;rw[Lh];simp only[QE,QC];omega
end
section
open Go.Lib
abbrev Tok:=Int×Int
abbrev Dg:=Int×Int×Int
def uS:List (List UInt8×Int):=[([101,109],8212),([101,110],8211),([104,121],8208),([98,117],8226),([108,113],8220),([114,113],8221),([111,113],8216),([99,113],8217),([97,113],39),([100,113],34),([99,111],169),([114,103],174),([116,109],8482),([114,115],92),([104,97],94),([116,105],126),([109,117],215),([100,105],247),([60,45],8592),([45,62],8594),([60,61],8804),([62,61],8805),([33,61],8800),([100,101],176),([115,99],167),([69,117],8364),([117,58],252),([111,58],246),([97,58],228),([115,115],223)]
def fM:List (List UInt8×Int)→List UInt8→Option Int
 | [],_=>none
 | p::t,b=>if p.1=b then some p.2 else fM t b
def mH (c:Int):Option Int:=if 48≤c∧c≤57 then some (c-48) else if 65≤c∧c≤70 then some (c-55) else none
def zN:List UInt8→Int→Option Int
 | [],n=>some n
 | c::r,n=>match mH (c.toNat:Int)with
  | none=>none
  | some d=>zN r (n*16+d)
def numOf (b:List UInt8):Option Int:=
 if b.length<5∨7<b.length∨b.head? ≠some 117 then none
 else match zN b.tail 0 with
  | none=>none
  | some n=>if vld n=true∧ctl n=false then some n else none
def Bo (b:List UInt8):Option Int:=match fM uS b with
 | some r=>some r
 | none=>numOf b
def zO (b:List UInt8):Option Int:=
 if b=[82]∨b=[49] then some 0 else if b=[66]∨b=[50] then some 1 else if b=[73]∨b=[51] then some 2 else if b=[66,73]∨b=[52] then some 3 else if b=[80] then some 4 else none
def ix:List Int→Option Nat
 | []=>none
 | c::r=>if c=93 then some 0 else(ix r).map (· +1)
def jc:List Int→Option (List Int×Nat)
 | []=>none
 | c::r=>if c=40 then(if r.length<2 then none else some (r.take 2,3)) else if c=91 then(match ix r with
  | none=>none
  | some k=>some (r.take k,k+2)) else some ([c],1)
def GA (d:Int):Option Int:=if d=92∨d=101 then some 92 else if d=45∨d=96∨d=46 then some d else if d=39 then some 180 else if d=32∨d=126∨d=48 then some 160 else none
def vN (r:List Int):List Tok×List Int×Nat:=match r with
 | []=>([],[1],1)
 | d::q=>match GA d with
  | some x=>([(1,x)],[],2)
  | none=>
   if d=38∨d=37∨d=47∨d=44∨d=58 then([],[],2)
   else if d=34 then([],[],q.length+2)
   else if d=40∨d=91 then(match jc (d::q)with
    | none=>([],[1],q.length+2)
    | some (n,k)=>match Bo (enc n)with
     | some x=>([(1,x)],[],k+1)
     | none=>([],[2],k+1))
   else if d=102 then(match jc q with
    | none=>([],[1],q.length+2)
    | some (n,k)=>match zO (enc n)with
     | some x=>([(3,x)],[],k+2)
     | none=>([],[2],k+2))
   else([],[1],2)
def dY (s:List Int):List Tok×List Int×Nat:=match s with
 | []=>([],[],1)
 | c::r=>if c=92 then vN r else if c=32∨c=9 then([(2,0)],[],1) else if ctl c=true then([(1,65533)],[3],1) else([(1,c)],[],1)
def dgs (p:Nat)(l:List Int):List Dg:=l.map fun k=>(k,0,(p:Int)+1)
def iX:Nat→Nat→List Int→List Tok×List Dg
 | 0,_,_=>([],[])
 | n+1,p,s=>if s=[] then([],[]) else((dY s).1++(iX n (p+(dY s).2.2) (s.drop (dY s).2.2)).1,dgs p (dY s).2.1++(iX n (p+(dY s).2.2) (s.drop (dY s).2.2)).2)
def bY (p:Nat)(s:List Int):List Tok×List Dg:=iX s.length p s
theorem KH:∀(l:List Int) (k:Nat),ix l=some k→k<l.length
 | [],k,h=>by cases h
 | c::r,k,h=>by
  unfold ix at h
  split at h
  ·cases h;simp
  ·cases hr:ix r with
   | none=>rw[hr]at h;cases h
   | some j=>
    rw[hr]at h
    cases h
    have:=KH r j hr
    simpa using this
theorem lu (c:Int)(r:List Int):jc (c::r)=if c=40 then(if r.length<2 then none else some (r.take 2,3)) else if c=91 then(match ix r with
  | none=>none
  | some k=>some (r.take k,k+2)) else some ([c],1):=rfl
theorem Bv {s:List Int}{n:List Int}{k:Nat}(h:jc s=some (n,k)):1≤k∧k≤s.length:=by
 cases s with
 | nil=>cases h
 | cons c r=>
  rw[lu]at h
  split at h
  ·split at h
   ·cases h
   ·cases h;simp only[QC];omega
  ·split at h
   ·cases hr:ix r with
    | none=>rw[hr]at h;cases h
    | some j=>
     rw[hr]at h
     cases h
     have:=KH r j hr;simp only[QC];omega
   ·cases h;simp
theorem uV {s n:List Int}{k:Nat}(h:jc s=some (n,k)):n.length≤s.length:=by
 cases s with
 | nil=>cases h
 | cons c r=>
  rw[lu]at h
  split at h
  ·split at h
   ·cases h
   ·cases h;simp only[QC,QN];omega
  ·split at h
   ·cases hr:ix r with
    | none=>rw[hr]at h;cases h
    | some j=>
     rw[hr]at h
     cases h
     simp only[QC,QN];omega
   ·cases h;simp
theorem FY (r:List Int):(vN r).1.length≤1∧(vN r).2.1.length≤1∧1≤(vN r).2.2∧(vN r).2.2≤r.length+1:=by
 cases r with
 | nil=>simp[vN]
 | cons d q=>
  unfold vN;simp only
  split
  ·simp
  ·split
   ·simp
   ·split
    ·simp
    ·split
     ·split
      ·simp
      ·rename_i n k hn
       have hk:=Bv hn;simp only[QC]at hk
       split<;>simp<;>omega
     ·split
      ·split
       ·simp
       ·rename_i n k hn
        have hk:=Bv hn
        split<;>simp<;>omega
      ·simp
theorem pg (s:List Int):(dY s).1.length≤1∧(dY s).2.1.length≤1∧1≤(dY s).2.2∧(s≠ []→(dY s).2.2≤s.length):=by
 cases s with
 | nil=>simp[dY]
 | cons c r=>
  have h:=FY r;unfold dY;simp only
  split
  ·exact⟨h.1,h.2.1,h.2.2.1,fun _=>by simpa using h.2.2.2⟩
  ·split
   ·simp
   ·split<;>simp
theorem nC:∀n p,iX n p []=([],[])
 | 0,_=>rfl
 | _+1,_=>by simp[iX]
theorem ul:∀(n m p:Nat) (s:List Int),s.length≤n→s.length≤m→iX n p s=iX m p s
 | 0,m,p,s,hn,_=>by
  have:s=[]:=Re (by omega);subst this;rw[nC,nC]
 | n+1,0,p,s,_,hm=>by
  have:s=[]:=Re (by omega);subst this;rw[nC,nC]
 | n+1,m+1,p,s,hn,hm=>by
  unfold iX
  by_cases hne:s=[]
  ·simp[hne]
  ·have hw:=(pg s).2.2.1
   have hl:0<s.length:=Rh.2 hne;rw[QG hne,QG hne,ul n m _ (s.drop (dY s).2.2) (by rw[QM];omega) (by rw[QM];omega)]
theorem GL (p:Nat):bY p []=([],[]):=rfl
theorem Dl (p:Nat)(s:List Int)(hne:s≠ []):bY p s=((dY s).1++(bY (p+(dY s).2.2) (s.drop (dY s).2.2)).1,dgs p (dY s).2.1++(bY (p+(dY s).2.2) (s.drop (dY s).2.2)).2):=by
 have hl:0<s.length:=Rh.2 hne;have hw:=(pg s).2.2.1;obtain⟨n,hn⟩:∃n,s.length=n+1:=⟨s.length-1,by omega⟩;unfold bY;rw[hn];show(if s=[] then _ else _)=_;rw[QG hne,ul n (s.drop (dY s).2.2).length _ _ (by rw[QM];omega) (Qv _)]
structure jH (L:List Int)(TT:List Tok)(DD:List Dg)(p:Nat)(T:List Tok)(D:List Dg):Prop where
 t:T++(bY p (L.drop p)).1=TT
 d:D++(bY p (L.drop p)).2=DD
 tl:T.length≤p
 dl:D.length≤p
theorem jH.start (L:List Int):jH L (bY 0 L).1 (bY 0 L).2 0 [] []:=⟨by simp,by simp,by simp,by simp⟩
theorem jH.next {L:List Int}{TT:List Tok}{DD:List Dg}{p:Nat}{T:List Tok}{D:List Dg}(h:jH L TT DD p T D)(hp:p<L.length){t:List Tok}{d:List Int}{k:Nat}(hs:dY (L.drop p)=(t,d,k)):
  jH L TT DD (p+k) (T++t) (D++dgs p d):=by
 have hne:L.drop p≠ []:=by
  intro h0;have:=QI List.length h0;simp only[QM,QH]at this;omega
 have hst:=Dl p _ hne;rw[hs]at hst;simp only[TE]at hst;have hb:=pg (L.drop p);rw[hs]at hb;obtain⟨b1,b2,b3,-⟩:=hb;simp only at b1 b2 b3;have h1:=h.t;have h2:=h.d;have tl:=h.tl;have dl:=h.dl;rw[hst]at h1 h2;refine⟨?_,?_,?_,?_⟩
 ·rw[Rq];exact h1
 ·rw[Rq];exact h2
 ·rw[QE];omega
 ·rw[QE];unfold dgs;rw[RB];omega
theorem jH.done {L:List Int}{TT:List Tok}{DD:List Dg}{p:Nat}{T:List Tok}{D:List Dg}(h:jH L TT DD p T D)(hp:L.length≤p):T=TT∧D=DD:=by
 have h1:=h.t;have h2:=h.d;have h0:L.drop p=[]:=Tv hp;rw[h0,GL,QW]at h1 h2;exact⟨h1,h2⟩
theorem xB:∀(n p:Nat) (s:List Int),s.length≤n→(iX n p s).1.length≤s.length∧(iX n p s).2.length≤s.length
 | 0,p,s,_=>by simp[iX]
 | n+1,p,s,hn=>by
  unfold iX
  by_cases hne:s=[]
  ·simp[hne]
  ·have hb:=pg s
   have hw:=hb.2.2.2 hne;have ih:=xB n (p+(dY s).2.2) (s.drop (dY s).2.2) (by rw[QM];omega);rw[QG hne];simp only[QE,QM,dgs,RB]at ih⊢;omega
theorem uj (L:List Int):(bY 0 L).1.length≤L.length∧(bY 0 L).2.length≤L.length:=xB _ _ _ (Qv _)
theorem nK {L:List Int}{p:Nat}{c:Int}(h:L[p]? =some c):L.drop p=c::L.drop (p+1):=by
 obtain⟨hp,rfl⟩:=Qu.1 h;exact Rl hp
theorem MO {L:List Int}{p:Nat}{c:Int}(h:L[p]? =some c):dY (L.drop p)=if c=92 then vN (L.drop (p+1)) else if c=32∨c=9 then([(2,0)],[],1) else if ctl c=true then([(1,65533)],[3],1) else([(1,c)],[],1):=by
 rw[nK h];rfl
end
end Go.Proofs.YtebabjnngdjceaaGreatDoor

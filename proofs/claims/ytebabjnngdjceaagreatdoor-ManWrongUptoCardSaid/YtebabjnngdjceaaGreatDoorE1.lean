/- Plain maths of UTF-8: wh -/
import Derived.Lib.ValidAsc
import Derived.Lib.QuoteLoop
import Derived.Test.YtebabjnngdjceaaGreatDoorW3
set_option linter.unusedVariables false
set_option linter.unusedSimpArgs false
set_option maxRecDepth 100000
namespace Go.Proofs.YtebabjnngdjceaaGreatDoor
open Go.RowKit
section
open Go.Lib
def nO:Nat→List UInt8→List Int
 | 0,_=>[]
 | n+1,l=>if l=[] then [] else((decodeL l).1:Int)::nO n (l.drop (decodeL l).2)
def dec (l:List UInt8):List Int:=nO l.length l
def enc (l:List Int):List UInt8:=(l.map encodeRune).flatten
theorem nA:∀n,nO n []=[]
 | 0=>rfl
 | _+1=>by simp[nO]
theorem vz:∀(n m:Nat) (l:List UInt8),l.length≤n→l.length≤m→nO n l=nO m l
 | 0,m,l,hn,_=>by
  have:l=[]:=Qj (by omega);subst this;rw[nA,nA]
 | n+1,0,l,_,hm=>by
  have:l=[]:=Qj (by omega);subst this;rw[nA,nA]
 | n+1,m+1,l,hn,hm=>by
  unfold nO
  by_cases hne:l=[]
  ·simp[hne]
  ·have hw:=decodeL_width l
   have hl:0<l.length:=Qp.2 hne;rw[PO hne,PO hne,vz n m (l.drop (decodeL l).2) (by rw[PU];omega) (by rw[PU];omega)]
theorem Fv:dec []=[]:=rfl
theorem Kn (l:List UInt8)(hne:l≠ []):dec l=((decodeL l).1:Int)::dec (l.drop (decodeL l).2):=by
 have hl:0<l.length:=Qp.2 hne;have hw:=decodeL_width l;obtain⟨n,hn⟩:∃n,l.length=n+1:=⟨l.length-1,by omega⟩;unfold dec;rw[hn];show(if l=[] then [] else _)=_;rw[PO hne,vz n (l.drop (decodeL l).2).length _ (by rw[PU];omega) (Px _)]
theorem Fx:∀(n:Nat) (l:List UInt8),l.length≤n→(dec l).length≤l.length
 | 0,l,h=>by
  have:l=[]:=Qj (by omega);subst this;simp[Fv]
 | n+1,l,h=>by
  by_cases hne:l=[]
  ·subst hne;simp[Fv]
  ·have hl:0<l.length:=Qp.2 hne
   have hw:=decodeL_width l;have:=Fx n (l.drop (decodeL l).2) (by rw[PU];omega);rw[Kn l hne];simp only[PI,PU]at this⊢;omega
theorem vv (l:List UInt8):(dec l).length≤l.length:=Fx _ l (Px _)
theorem nM (s:ByteArray):∀(n i:Nat) (acc:Array Value),Conv.runesFrom s n i acc=acc++((nO n (s.data.toList.drop i)).map (Value.int .i32)).toArray
 | 0,i,acc=>by simp[Conv.runesFrom,nO]
 | n+1,i,acc=>by
  unfold Conv.runesFrom nO;have hsz:s.size=s.data.toList.length:=Go.Lib.size_eq s
  by_cases h:i<s.size
  ·rw[PZ h]
   have hne:s.data.toList.drop i≠ []:=by
    intro h0;have:=PR List.length h0;simp only[PU,PQ]at this;omega
   rw[PO hne,decodeL_drop];simp only;rw[nM s n];apply Array.ext';simp only[Sa,Array.toList_append,Array.toList_push,Qo,Qx,Qe,Qt];rfl
  ·rw[PO h]
   have hnil:s.data.toList.drop i=[]:=RU (by omega);rw[hnil];simp
theorem vT (l:List UInt8):Conv.runesFrom ⟨l.toArray⟩ l.length 0 #[]=((dec l).map (Value.int .i32)).toArray:=by
 rw[nM];simp[dec]
theorem encode_eq (r:Int):(Utf8.encode r).data.toList=encodeRune r:=by
 unfold encodeRune
 by_cases h1:(0≤r∧r<55296)∨(57344≤r∧r≤1114111)
 ·have hv:Utf8.valid r=true:=by unfold Utf8.valid;simpa using h1
  obtain⟨n,rfl⟩:∃n:Nat,r=n:=⟨r.toNat,by omega⟩;unfold Utf8.encode;rw[PZ hv];simp only[Rf]
  by_cases a:n<128
  ·rw[PZ a,encodeRuneZ_one (by omega) (by omega)]
   simp
  ·rw[PO a]
   by_cases b:n<2048
   ·rw[PZ b,encodeRuneZ_two (by omega) (by omega)]
    simp only[Qo,QH];have e1:(192+(n:Int)/ 64).toNat=192+n / 64:=by omega
    have e2:(128+(n:Int) % 64).toNat=128+n % 64:=by omega
    rw[e1,e2]
   ·rw[PO b]
    by_cases c:n<65536
    ·rw[PZ c,encodeRuneZ_three (by omega)]
     simp only[Qo,QH];have e1:(224+(n:Int)/ 4096).toNat=224+n / 4096:=by omega
     have e2:(128+(n:Int)/ 64 % 64).toNat=128+n / 64 % 64:=by omega
     have e3:(128+(n:Int) % 64).toNat=128+n % 64:=by omega
     rw[e1,e2,e3]
    ·rw[PO c,encodeRuneZ_four (by omega) (by omega)]
     simp only[Qo,QH];have e0:(240+(n:Int)/ 262144).toNat=240+n / 262144:=by omega
     have e1:(128+(n:Int)/ 4096 % 64).toNat=128+n / 4096 % 64:=by omega
     have e2:(128+(n:Int)/ 64 % 64).toNat=128+n / 64 % 64:=by omega
     have e3:(128+(n:Int) % 64).toNat=128+n % 64:=by omega
     rw[e0,e1,e2,e3]
 ·have hv:¬Utf8.valid r=true:=by unfold Utf8.valid;simpa using h1
  unfold Utf8.encode;rw[PO hv,encodeRuneZ_bad (by omega)];decide
theorem xh:∀(l:List Int) (s:ByteArray),(l.foldl (fun r n=>r++Utf8.encode n) s).data.toList=s.data.toList++enc l
 | [],s=>by simp[enc]
 | z::l,s=>by
  rw[RF,xh l];simp[enc,encode_eq]
theorem tT (l:List Int):runesBytes l=⟨(enc l).toArray⟩:=by
 have h:=xh l ByteArray.empty;unfold runesBytes;have he:ByteArray.empty.data.toList=[]:=rfl;rw[he,Qt]at h;generalize List.foldl (fun r n=>r++Utf8.encode n) ByteArray.empty l=s at h
 cases s
 simp only at h;rw[←h]
theorem Kj (z:Int)(l:List Int):enc (z::l)=encodeRune z++enc l:=by simp[enc]
theorem vk (z:Int):1≤(encodeRune z).length∧(encodeRune z).length≤4:=by
 have:=encodeRuneZ_length z
 simpa[encodeRune] using this
theorem ML (l:List Int):(enc l).length≤4*l.length:=by
 induction l with
 | nil=>simp[enc]
 | cons z l ih=>
  have:=vk z;rw[Kj];simp only[PL,PI];omega
end
section
open Go.Lib
abbrev Tok:=Int×Int
abbrev Dg:=Int×Int×Int
def uF:List (List UInt8×Int):=[([101,109],8212),([101,110],8211),([104,121],8208),([98,117],8226),([108,113],8220),([114,113],8221),([111,113],8216),([99,113],8217),([97,113],39),([100,113],34),([99,111],169),([114,103],174),([116,109],8482),([114,115],92),([104,97],94),([116,105],126),([109,117],215),([100,105],247),([60,45],8592),([45,62],8594),([60,61],8804),([62,61],8805),([33,61],8800),([100,101],176),([115,99],167),([69,117],8364),([117,58],252),([111,58],246),([97,58],228),([115,115],223)]
def fI:List (List UInt8×Int)→List UInt8→Option Int
 | [],_=>none
 | p::t,b=>if p.1=b then some p.2 else fI t b
def mh (c:Int):Option Int:=if 48≤c∧c≤57 then some (c-48) else if 65≤c∧c≤70 then some (c-55) else none
def za:List UInt8→Int→Option Int
 | [],n=>some n
 | c::r,n=>match mh (c.toNat:Int)with
  | none=>none
  | some d=>za r (n*16+d)
def numOf (b:List UInt8):Option Int:=
 if b.length<5∨7<b.length∨b.head? ≠some 117 then none
 else match za b.tail 0 with
  | none=>none
  | some n=>if vld n=true∧ctl n=false then some n else none
def AJ (b:List UInt8):Option Int:=match fI uF b with
 | some r=>some r
 | none=>numOf b
def ze (b:List UInt8):Option Int:=
 if b=[82]∨b=[49] then some 0 else if b=[66]∨b=[50] then some 1 else if b=[73]∨b=[51] then some 2 else if b=[66,73]∨b=[52] then some 3 else if b=[80] then some 4 else none
def ix:List Int→Option Nat
 | []=>none
 | c::r=>if c=93 then some 0 else(ix r).map (· +1)
def iY:List Int→Option (List Int×Nat)
 | []=>none
 | c::r=>if c=40 then(if r.length<2 then none else some (r.take 2,3)) else if c=91 then(match ix r with
  | none=>none
  | some k=>some (r.take k,k+2)) else some ([c],1)
def FX (d:Int):Option Int:=if d=92∨d=101 then some 92 else if d=45∨d=96∨d=46 then some d else if d=39 then some 180 else if d=32∨d=126∨d=48 then some 160 else none
def qE (r:List Int):List Tok×List Int×Nat:=match r with
 | []=>([],[1],1)
 | d::q=>match FX d with
  | some x=>([(1,x)],[],2)
  | none=>
   if d=38∨d=37∨d=47∨d=44∨d=58 then([],[],2)
   else if d=34 then([],[],q.length+2)
   else if d=40∨d=91 then(match iY (d::q)with
    | none=>([],[1],q.length+2)
    | some (n,k)=>match AJ (enc n)with
     | some x=>([(1,x)],[],k+1)
     | none=>([],[2],k+1))
   else if d=102 then(match iY q with
    | none=>([],[1],q.length+2)
    | some (n,k)=>match ze (enc n)with
     | some x=>([(3,x)],[],k+2)
     | none=>([],[2],k+2))
   else([],[1],2)
def dS (s:List Int):List Tok×List Int×Nat:=match s with
 | []=>([],[],1)
 | c::r=>if c=92 then qE r else if c=32∨c=9 then([(2,0)],[],1) else if ctl c=true then([(1,65533)],[3],1) else([(1,c)],[],1)
def dgs (p:Nat)(l:List Int):List Dg:=l.map fun k=>(k,0,(p:Int)+1)
def gN:Nat→Nat→List Int→List Tok×List Dg
 | 0,_,_=>([],[])
 | n+1,p,s=>if s=[] then([],[]) else((dS s).1++(gN n (p+(dS s).2.2) (s.drop (dS s).2.2)).1,dgs p (dS s).2.1++(gN n (p+(dS s).2.2) (s.drop (dS s).2.2)).2)
def bR (p:Nat)(s:List Int):List Tok×List Dg:=gN s.length p s
theorem JV:∀(l:List Int) (k:Nat),ix l=some k→k<l.length
 | [],k,h=>by cases h
 | c::r,k,h=>by
  unfold ix at h
  split at h
  ·cases h;simp
  ·cases hr:ix r with
   | none=>rw[hr]at h;cases h
   | some j=>
    rw[hr]at h
    cases h
    have:=JV r j hr
    simpa using this
theorem kK (c:Int)(r:List Int):iY (c::r)=if c=40 then(if r.length<2 then none else some (r.take 2,3)) else if c=91 then(match ix r with
  | none=>none
  | some k=>some (r.take k,k+2)) else some ([c],1):=rfl
theorem AV {s:List Int}{n:List Int}{k:Nat}(h:iY s=some (n,k)):1≤k∧k≤s.length:=by
 cases s with
 | nil=>cases h
 | cons c r=>
  rw[kK]at h
  split at h
  ·split at h
   ·cases h
   ·cases h;simp only[PI];omega
  ·split at h
   ·cases hr:ix r with
    | none=>rw[hr]at h;cases h
    | some j=>
     rw[hr]at h
     cases h
     have:=JV r j hr;simp only[PI];omega
   ·cases h;simp
theorem uI {s n:List Int}{k:Nat}(h:iY s=some (n,k)):n.length≤s.length:=by
 cases s with
 | nil=>cases h
 | cons c r=>
  rw[kK]at h
  split at h
  ·split at h
   ·cases h
   ·cases h;simp only[PI,PW];omega
  ·split at h
   ·cases hr:ix r with
    | none=>rw[hr]at h;cases h
    | some j=>
     rw[hr]at h
     cases h
     simp only[PI,PW];omega
   ·cases h;simp
theorem Fp (r:List Int):(qE r).1.length≤1∧(qE r).2.1.length≤1∧1≤(qE r).2.2∧(qE r).2.2≤r.length+1:=by
 cases r with
 | nil=>simp[qE]
 | cons d q=>
  unfold qE;simp only
  split
  ·simp
  ·split
   ·simp
   ·split
    ·simp
    ·split
     ·split
      ·simp
      ·rename_i n k hn
       have hk:=AV hn;simp only[PI]at hk
       split<;>simp<;>omega
     ·split
      ·split
       ·simp
       ·rename_i n k hn
        have hk:=AV hn
        split<;>simp<;>omega
      ·simp
theorem oN (s:List Int):(dS s).1.length≤1∧(dS s).2.1.length≤1∧1≤(dS s).2.2∧(s≠ []→(dS s).2.2≤s.length):=by
 cases s with
 | nil=>simp[dS]
 | cons c r=>
  have h:=Fp r;unfold dS;simp only
  split
  ·exact⟨h.1,h.2.1,h.2.2.1,fun _=>by simpa using h.2.2.2⟩
  ·split
   ·simp
   ·split<;>simp
theorem mW:∀n p,gN n p []=([],[])
 | 0,_=>rfl
 | _+1,_=>by simp[gN]
theorem tQ:∀(n m p:Nat) (s:List Int),s.length≤n→s.length≤m→gN n p s=gN m p s
 | 0,m,p,s,hn,_=>by
  have:s=[]:=Qj (by omega);subst this;rw[mW,mW]
 | n+1,0,p,s,_,hm=>by
  have:s=[]:=Qj (by omega);subst this;rw[mW,mW]
 | n+1,m+1,p,s,hn,hm=>by
  unfold gN
  by_cases hne:s=[]
  ·simp[hne]
  ·have hw:=(oN s).2.2.1
   have hl:0<s.length:=Qp.2 hne;rw[PO hne,PO hne,tQ n m _ (s.drop (dS s).2.2) (by rw[PU];omega) (by rw[PU];omega)]
theorem F7 (p:Nat):bR p []=([],[]):=rfl
theorem Cy (p:Nat)(s:List Int)(hne:s≠ []):bR p s=((dS s).1++(bR (p+(dS s).2.2) (s.drop (dS s).2.2)).1,dgs p (dS s).2.1++(bR (p+(dS s).2.2) (s.drop (dS s).2.2)).2):=by
 have hl:0<s.length:=Qp.2 hne;have hw:=(oN s).2.2.1;obtain⟨n,hn⟩:∃n,s.length=n+1:=⟨s.length-1,by omega⟩;unfold bR;rw[hn];show(if s=[] then _ else _)=_;rw[PO hne,tQ n (s.drop (dS s).2.2).length _ _ (by rw[PU];omega) (Px _)]
structure jC (L:List Int)(TT:List Tok)(DD:List Dg)(p:Nat)(T:List Tok)(D:List Dg):Prop where
 t:T++(bR p (L.drop p)).1=TT
 d:D++(bR p (L.drop p)).2=DD
 tl:T.length≤p
 dl:D.length≤p
theorem jC.start (L:List Int):jC L (bR 0 L).1 (bR 0 L).2 0 [] []:=⟨by simp,by simp,by simp,by simp⟩
theorem jC.next {L:List Int}{TT:List Tok}{DD:List Dg}{p:Nat}{T:List Tok}{D:List Dg}(h:jC L TT DD p T D)(hp:p<L.length){t:List Tok}{d:List Int}{k:Nat}(hs:dS (L.drop p)=(t,d,k)):
  jC L TT DD (p+k) (T++t) (D++dgs p d):=by
 have hne:L.drop p≠ []:=by
  intro h0;have:=PR List.length h0;simp only[PU,PQ]at this;omega
 have hst:=Cy p _ hne;rw[hs]at hst;simp only[Sa]at hst;have hb:=oN (L.drop p);rw[hs]at hb;obtain⟨b1,b2,b3,-⟩:=hb;simp only at b1 b2 b3;have h1:=h.t;have h2:=h.d;have tl:=h.tl;have dl:=h.dl;rw[hst]at h1 h2;refine⟨?_,?_,?_,?_⟩
 ·rw[Qx];exact h1
 ·rw[Qx];exact h2
 ·rw[PL];omega
 ·rw[PL];unfold dgs;rw[Qy];omega
theorem jC.done {L:List Int}{TT:List Tok}{DD:List Dg}{p:Nat}{T:List Tok}{D:List Dg}(h:jC L TT DD p T D)(hp:L.length≤p):T=TT∧D=DD:=by
 have h1:=h.t;have h2:=h.d;have h0:L.drop p=[]:=RU hp;rw[h0,F7,Qc]at h1 h2;exact⟨h1,h2⟩
theorem wP:∀(n p:Nat) (s:List Int),s.length≤n→(gN n p s).1.length≤s.length∧(gN n p s).2.length≤s.length
 | 0,p,s,_=>by simp[gN]
 | n+1,p,s,hn=>by
  unfold gN
  by_cases hne:s=[]
  ·simp[hne]
  ·have hb:=oN s
   have hw:=hb.2.2.2 hne;have ih:=wP n (p+(dS s).2.2) (s.drop (dS s).2.2) (by rw[PU];omega);rw[PO hne];simp only[PL,PU,dgs,Qy]at ih⊢;omega
theorem tL (L:List Int):(bR 0 L).1.length≤L.length∧(bR 0 L).2.length≤L.length:=wP _ _ _ (Px _)
theorem nz {L:List Int}{p:Nat}{c:Int}(h:L[p]? =some c):L.drop p=c::L.drop (p+1):=by
 obtain⟨hp,rfl⟩:=Pw.1 h;exact Qu hp
theorem LB {L:List Int}{p:Nat}{c:Int}(h:L[p]? =some c):dS (L.drop p)=if c=92 then qE (L.drop (p+1)) else if c=32∨c=9 then([(2,0)],[],1) else if ctl c=true then([(1,65533)],[3],1) else([(1,c)],[],1):=by
 rw[nz h];rfl
end
end Go.Proofs.YtebabjnngdjceaaGreatDoor

/- Plain maths of UTF-8: what bytes are as runes (dec), what runes are as bytes (enc). Plain maths of UTF-8: what was written is read; what is right is what comes out again. Plain maths of layer 4: what a line of text says, rune by rune. Plain maths of the document's own reading: the shortest front tha -/
import Derived.Lib.MapLaws
import Derived.Lib.ValidLaws
import Derived.Lib.ValidAsc
import Derived.Lib.QuoteLoop
import Derived.Laws.Cover4
import Derived.Test.YtebabjnngdjceaaGreatDoorW3
import Derived.Test.YtebabjnngdjceaaGreatDoorZ0
set_option linter.unusedVariables false
set_option linter.unusedSimpArgs false
set_option maxRecDepth 100000
set_option maxHeartbeats 4000000
namespace Go.Proofs.YtebabjnngdjceaaGreatDoor
open Go.RowKit
section
open Go.Lib
def nE:Nat→List UInt8→List Int
 | 0,_=>[]
 | n+1,l=>if l=[] then [] else((decodeL l).1:Int)::nE n (l.drop (decodeL l).2)
def dec (l:List UInt8):List Int:=nE l.length l
def enc (l:List Int):List UInt8:=(l.map encodeRune).flatten
theorem mR: ∀n,nE n []=[]
 | 0=>rfl
 | _+1=>by simp[nE]
theorem uE: ∀(n m:Nat) (l:List UInt8),l.length≤n→l.length≤m→nE n l=nE m l
 | 0,m,l,hn,_=>by
  have:l=[]:=PH (by omega);subst this;rw[mR,mR]
 | n+1,0,l,_,hm=>by
  have:l=[]:=PH (by omega);subst this;rw[mR,mR]
 | n+1,m+1,l,hn,hm=>by
  unfold nE
  by_cases hne:l=[]
  ·simp[hne]
  ·have hw:=decodeL_width l
   have hl:0<l.length:=PS.2 hne;rw[Pd hne,Pd hne,uE n m (l.drop (decodeL l).2) (by rw[Pi];omega) (by rw[Pi];omega)]
theorem pE:dec []=[]:=rfl
theorem pz (l:List UInt8) (hne:l≠ []):dec l=((decodeL l).1:Int)::dec (l.drop (decodeL l).2):=by
 have hl:0<l.length:=PS.2 hne;have hw:=decodeL_width l;obtain⟨n,hn⟩: ∃n,l.length=n+1:=⟨l.length-1,by omega⟩;unfold dec;rw[hn];show(if l=[] then [] else _)=_;rw[Pd hne,uE n (l.drop (decodeL l).2).length _ (by rw[Pi];omega) (OW _)]
theorem En: ∀(n:Nat) (l:List UInt8),l.length≤n→(dec l).length≤l.length
 | 0,l,h=>by
  have:l=[]:=PH (by omega);subst this;simp[pE]
 | n+1,l,h=>by
  by_cases hne:l=[]
  ·subst hne;simp[pE]
  ·have hl:0<l.length:=PS.2 hne
   have hw:=decodeL_width l;have:=En n (l.drop (decodeL l).2) (by rw[Pi];omega);rw[pz l hne];simp only[Pe,Pi]at this ⊢;omega
theorem l6 (l:List UInt8):(dec l).length≤l.length:=En _ l (OW _)
theorem nC (s:ByteArray): ∀(n i:Nat) (acc:Array Value),Conv.runesFrom s n i acc=acc++((nE n (s.data.toList.drop i)).map (Value.int .i32)).toArray
 | 0,i,acc=>by simp[Conv.runesFrom,nE]
 | n+1,i,acc=>by
  unfold Conv.runesFrom nE;have hsz:s.size=s.data.toList.length:=Go.Lib.size_eq s
  by_cases h:i<s.size
  ·rw[Pk h]
   have hne:s.data.toList.drop i≠ []:=by
    intro h0;have:=Pj List.length h0;simp only[Pi,Pm]at this;omega
   rw[Pd hne,decodeL_drop];simp only;rw[nC s n];apply Array.ext';simp only[List.drop_drop,Array.toList_append,Array.toList_push,PL,Pw,PR,Qa];rfl
  ·rw[Pd h]
   have hnil:s.data.toList.drop i=[]:=QM (by omega);rw[hnil];simp
theorem uX (l:List UInt8):Conv.runesFrom ⟨l.toArray⟩ l.length 0 #[]=((dec l).map (Value.int .i32)).toArray:=by
 rw[nC];simp[dec]
theorem encode_eq (r:Int):(Utf8.encode r).data.toList=encodeRune r:=by
 unfold encodeRune
 by_cases h1:(0≤r∧r<55296)∨(57344≤r∧r≤1114111)
 ·have hv:Utf8.valid r=true:=by unfold Utf8.valid;simpa using h1
  obtain⟨n,rfl⟩: ∃n:Nat,r=n:=⟨r.toNat,by omega⟩;unfold Utf8.encode;rw[Pk hv];simp only[QS]
  by_cases a:n<128
  ·rw[Pk a,encodeRuneZ_one (by omega) (by omega)]
   simp
  ·rw[Pd a]
   by_cases b:n<2048
   ·rw[Pk b,encodeRuneZ_two (by omega) (by omega)]
    simp only[PL,Qx];have e1:(192+(n:Int)/ 64).toNat=192+n / 64:=by omega
    have e2:(128+(n:Int) % 64).toNat=128+n % 64:=by omega
    rw[e1,e2]
   ·rw[Pd b]
    by_cases c:n<65536
    ·rw[Pk c,encodeRuneZ_three (by omega)]
     simp only[PL,Qx];have e1:(224+(n:Int)/ 4096).toNat=224+n / 4096:=by omega
     have e2:(128+(n:Int)/ 64 % 64).toNat=128+n / 64 % 64:=by omega
     have e3:(128+(n:Int) % 64).toNat=128+n % 64:=by omega
     rw[e1,e2,e3]
    ·rw[Pd c,encodeRuneZ_four (by omega) (by omega)]
     simp only[PL,Qx];have e0:(240+(n:Int)/ 262144).toNat=240+n / 262144:=by omega
     have e1:(128+(n:Int)/ 4096 % 64).toNat=128+n / 4096 % 64:=by omega
     have e2:(128+(n:Int)/ 64 % 64).toNat=128+n / 64 % 64:=by omega
     have e3:(128+(n:Int) % 64).toNat=128+n % 64:=by omega
     rw[e0,e1,e2,e3]
 ·have hv: ¬Utf8.valid r=true:=by unfold Utf8.valid;simpa using h1
  unfold Utf8.encode;rw[Pd hv,encodeRuneZ_bad (by omega)];decide
theorem wH: ∀(l:List Int) (s:ByteArray),(l.foldl (fun r n=>r++Utf8.encode n) s).data.toList=s.data.toList++enc l
 | [],s=>by simp[enc]
 | z::l,s=>by
  rw[Re,wH l];simp[enc,encode_eq]
theorem sG (l:List Int):runesBytes l=⟨(enc l).toArray⟩:=by
 have h:=wH l ByteArray.empty;unfold runesBytes;have he:ByteArray.empty.data.toList=[]:=rfl;rw[he,Qa]at h;generalize List.foldl (fun r n=>r++Utf8.encode n) ByteArray.empty l=s at h
 cases s
 simp only at h;rw[←h]
theorem AJ (z:Int) (l:List Int):enc (z::l)=encodeRune z++enc l:=by simp[enc]
theorem lY (z:Int):1≤(encodeRune z).length∧(encodeRune z).length≤4:=by
 have:=encodeRuneZ_length z
 simpa[encodeRune] using this
theorem pu (l:List Int):(enc l).length≤4*l.length:=by
 induction l with
 | nil=>simp[enc]
 | cons z l ih=>
  have:=lY z;rw[AJ];simp only[Pb,Pe];omega
end
section
open Go.Lib
theorem eZ (z:Int) (h0:0≤z) (h1:z<256):((z.toNat.toUInt8).toNat:Int)=z:=by
 rw[show z.toNat.toUInt8=UInt8.ofNat z.toNat from rfl,UInt8.toNat_ofNat'];omega
theorem decode_encode (z:Int) (hv:vld z=true) (r:List UInt8):decodeL (encodeRune z++r)=(z.toNat,(encodeRune z).length):=by
 simp only[vld,PQ]at hv;obtain⟨n,rfl⟩: ∃n:Nat,z=n:=⟨z.toNat,by omega⟩;rw[decodeL_N];unfold encodeRune
 by_cases c1:n<128
 ·rw[encodeRuneZ_one (by omega) (by omega)]
  have b0:((n:Int).toNat.toUInt8).toNat=n:=by have:=eZ (n:Int) (by omega) (by omega);omega
  simp only[PL,Qx,PR,Qa,List.getD_cons_zero,Pe,Pm];rw[b0,decodeN_ascii _ _ _ _ _ c1];simp
 ·by_cases c2:n<2048
  ·rw[encodeRuneZ_two (by omega) (by omega)]
   have b0:((192+(n:Int)/ 64).toNat.toUInt8).toNat=192+n / 64:=by have:=eZ (192+(n:Int)/ 64) (by omega) (by omega);omega
   have b1:((128+(n:Int) % 64).toNat.toUInt8).toNat=128+n % 64:=by have:=eZ (128+(n:Int) % 64) (by omega) (by omega);omega
   simp only[PL,Qx,PR,Qa,List.getD_cons_zero,List.getD_cons_succ,Pe,Pm];rw[b0,b1];unfold decodeN;rw[Pd (by omega),Pk (by omega),Pk (by omega)];simp;omega
  ·by_cases c3:n<65536
   ·rw[encodeRuneZ_three (by omega)]
    have b0:((224+(n:Int)/ 4096).toNat.toUInt8).toNat=224+n / 4096:=by have:=eZ (224+(n:Int)/ 4096) (by omega) (by omega);omega
    have b1:((128+(n:Int)/ 64 % 64).toNat.toUInt8).toNat=128+n / 64 % 64:=by have:=eZ (128+(n:Int)/ 64 % 64) (by omega) (by omega);omega
    have b2:((128+(n:Int) % 64).toNat.toUInt8).toNat=128+n % 64:=by have:=eZ (128+(n:Int) % 64) (by omega) (by omega);omega
    simp only[PL,Qx,PR,Qa,List.getD_cons_zero,List.getD_cons_succ,Pe,Pm];rw[b0,b1,b2];unfold decodeN;rw[Pd (by omega),Pd (by omega),Pk (by omega),Pk (by omega)];simp;omega
   ·rw[encodeRuneZ_four (by omega) (by omega)]
    have b0:((240+(n:Int)/ 262144).toNat.toUInt8).toNat=240+n / 262144:=by have:=eZ (240+(n:Int)/ 262144) (by omega) (by omega);omega
    have b1:((128+(n:Int)/ 4096 % 64).toNat.toUInt8).toNat=128+n / 4096 % 64:=by have:=eZ (128+(n:Int)/ 4096 % 64) (by omega) (by omega);omega
    have b2:((128+(n:Int)/ 64 % 64).toNat.toUInt8).toNat=128+n / 64 % 64:=by have:=eZ (128+(n:Int)/ 64 % 64) (by omega) (by omega);omega
    have b3:((128+(n:Int) % 64).toNat.toUInt8).toNat=128+n % 64:=by have:=eZ (128+(n:Int) % 64) (by omega) (by omega);omega
    simp only[PL,Qx,PR,Qa,List.getD_cons_zero,List.getD_cons_succ,Pe,Pm];rw[b0,b1,b2,b3];unfold decodeN;rw[Pd (by omega),Pd (by omega),Pd (by omega),Pk (by omega),Pk (by omega)];simp;omega
theorem Be {z:Int} (h:vld z=true):0≤z:=by simp only[vld,PQ]at h;omega
theorem qN (l:List UInt8):vld ((decodeL l).1:Int)=true:=by
 rw[decodeL_N];have h:=decodeN_valid l.length (l.getD 0 0).toNat (l.getD 1 0).toNat (l.getD 2 0).toNat (l.getD 3 0).toNat (l.getD 0 0).toNat_lt;unfold vld;rw[PQ];omega
theorem Em: ∀(n:Nat) (l:List UInt8),l.length≤n→ ∀z∈dec l,vld z=true
 | 0,l,h,z,hz=>by
  have:l=[]:=PH (by omega);subst this;simp[pE]at hz
 | n+1,l,h,z,hz=>by
  by_cases hne:l=[]
  ·subst hne;simp[pE]at hz
  ·have hl:0<l.length:=PS.2 hne
   have hw:=decodeL_width l;rw[pz l hne]at hz;rcases P6.1 hz with rfl | hz
   ·exact qN l
   ·exact Em n (l.drop (decodeL l).2) (by rw[Pi];omega) z hz
end
section
open Go.Lib
abbrev Tok:=Int×Int
abbrev Dg:=Int×Int×Int
def fQ:List (List UInt8×Int):=[([101,109],8212),([101,110],8211),([104,121],8208),([98,117],8226),([108,113],8220),([114,113],8221),([111,113],8216),([99,113],8217),([97,113],39),([100,113],34),([99,111],169),([114,103],174),([116,109],8482),([114,115],92),([104,97],94),([116,105],126),([109,117],215),([100,105],247),([60,45],8592),([45,62],8594),([60,61],8804),([62,61],8805),([33,61],8800),([100,101],176),([115,99],167),([69,117],8364),([117,58],252),([111,58],246),([97,58],228),([115,115],223)]
def bg:List (List UInt8×Int)→List UInt8→Option Int
 | [],_=>none
 | p::t,b=>if p.1=b then some p.2 else bg t b
def gV (c:Int):Option Int:=if 48≤c∧c≤57 then some (c-48) else if 65≤c∧c≤70 then some (c-55) else none
def vB:List UInt8→Int→Option Int
 | [],n=>some n
 | c::r,n=>match gV (c.toNat:Int)with
  | none=>none
  | some d=>vB r (n*16+d)
def numOf (b:List UInt8):Option Int:=
 if b.length<5∨7<b.length∨b.head? ≠some 117 then none
 else match vB b.tail 0 with
  | none=>none
  | some n=>if vld n=true∧ctl n=false then some n else none
def lU (b:List UInt8):Option Int:=match bg fQ b with
 | some r=>some r
 | none=>numOf b
def jK (b:List UInt8):Option Int:=
 if b=[82]∨b=[49] then some 0 else if b=[66]∨b=[50] then some 1 else if b=[73]∨b=[51] then some 2 else if b=[66,73]∨b=[52] then some 3 else if b=[80] then some 4 else none
def ix:List Int→Option Nat
 | []=>none
 | c::r=>if c=93 then some 0 else(ix r).map (· +1)
def dD:List Int→Option (List Int×Nat)
 | []=>none
 | c::r=>if c=40 then(if r.length<2 then none else some (r.take 2,3)) else if c=91 then(match ix r with
  | none=>none
  | some k=>some (r.take k,k+2)) else some ([c],1)
def jW (d:Int):Option Int:=if d=92∨d=101 then some 92 else if d=45∨d=96∨d=46 then some d else if d=39 then some 180 else if d=32∨d=126∨d=48 then some 160 else none
def qh (r:List Int):List Tok×List Int×Nat:=match r with
 | []=>([],[1],1)
 | d::q=>match jW d with
  | some x=>([(1,x)],[],2)
  | none=>
   if d=38∨d=37∨d=47∨d=44∨d=58 then([],[],2)
   else if d=34 then([],[],q.length+2)
   else if d=40∨d=91 then(match dD (d::q)with
    | none=>([],[1],q.length+2)
    | some (n,k)=>match lU (enc n)with
     | some x=>([(1,x)],[],k+1)
     | none=>([],[2],k+1))
   else if d=102 then(match dD q with
    | none=>([],[1],q.length+2)
    | some (n,k)=>match jK (enc n)with
     | some x=>([(3,x)],[],k+2)
     | none=>([],[2],k+2))
   else([],[1],2)
def dO (s:List Int):List Tok×List Int×Nat:=match s with
 | []=>([],[],1)
 | c::r=>if c=92 then qh r else if c=32∨c=9 then([(2,0)],[],1) else if ctl c=true then([(1,65533)],[3],1) else([(1,c)],[],1)
def dgs (p:Nat) (l:List Int):List Dg:=l.map fun k=>(k,0,(p:Int)+1)
def iK:Nat→Nat→List Int→List Tok×List Dg
 | 0,_,_=>([],[])
 | n+1,p,s=>if s=[] then([],[]) else((dO s).1++(iK n (p+(dO s).2.2) (s.drop (dO s).2.2)).1,dgs p (dO s).2.1++(iK n (p+(dO s).2.2) (s.drop (dO s).2.2)).2)
def bK (p:Nat) (s:List Int):List Tok×List Dg:=iK s.length p s
theorem D7: ∀(l:List Int) (k:Nat),ix l=some k→k<l.length
 | [],k,h=>by cases h
 | c::r,k,h=>by
  unfold ix at h
  split at h
  ·cases h;simp
  ·cases hr:ix r with
   | none=>rw[hr]at h;cases h
   | some j=>
    rw[hr]at h
    cases h
    have:=D7 r j hr
    simpa using this
theorem dP (c:Int) (r:List Int):dD (c::r)=if c=40 then(if r.length<2 then none else some (r.take 2,3)) else if c=91 then(match ix r with
  | none=>none
  | some k=>some (r.take k,k+2)) else some ([c],1):=rfl
theorem jG {s:List Int} {n:List Int} {k:Nat} (h:dD s=some (n,k)):1≤k∧k≤s.length:=by
 cases s with
 | nil=>cases h
 | cons c r=>
  rw[dP]at h
  split at h
  ·split at h
   ·cases h
   ·cases h;simp only[Pe];omega
  ·split at h
   ·cases hr:ix r with
    | none=>rw[hr]at h;cases h
    | some j=>
     rw[hr]at h
     cases h
     have:=D7 r j hr;simp only[Pe];omega
   ·cases h;simp
theorem dY {s n:List Int} {k:Nat} (h:dD s=some (n,k)):n.length≤s.length:=by
 cases s with
 | nil=>cases h
 | cons c r=>
  rw[dP]at h
  split at h
  ·split at h
   ·cases h
   ·cases h;simp only[Pe,Pg];omega
  ·split at h
   ·cases hr:ix r with
    | none=>rw[hr]at h;cases h
    | some j=>
     rw[hr]at h
     cases h
     simp only[Pe,Pg];omega
   ·cases h;simp
theorem yC (r:List Int):(qh r).1.length≤1∧(qh r).2.1.length≤1∧1≤(qh r).2.2∧(qh r).2.2≤r.length+1:=by
 cases r with
 | nil=>simp[qh]
 | cons d q=>
  unfold qh;simp only
  split
  ·simp
  ·split
   ·simp
   ·split
    ·simp
    ·split
     ·split
      ·simp
      ·rename_i n k hn
       have hk:=jG hn;simp only[Pe]at hk
       split<;>simp<;>omega
     ·split
      ·split
       ·simp
       ·rename_i n k hn
        have hk:=jG hn
        split<;>simp<;>omega
      ·simp
theorem oo (s:List Int):(dO s).1.length≤1∧(dO s).2.1.length≤1∧1≤(dO s).2.2∧(s≠ []→(dO s).2.2≤s.length):=by
 cases s with
 | nil=>simp[dO]
 | cons c r=>
  have h:=yC r;unfold dO;simp only
  split
  ·exact⟨h.1,h.2.1,h.2.2.1,fun _=>by simpa using h.2.2.2⟩
  ·split
   ·simp
   ·split<;>simp
theorem mE: ∀n p,iK n p []=([],[])
 | 0,_=>rfl
 | _+1,_=>by simp[iK]
theorem sF: ∀(n m p:Nat) (s:List Int),s.length≤n→s.length≤m→iK n p s=iK m p s
 | 0,m,p,s,hn,_=>by
  have:s=[]:=PH (by omega);subst this;rw[mE,mE]
 | n+1,0,p,s,_,hm=>by
  have:s=[]:=PH (by omega);subst this;rw[mE,mE]
 | n+1,m+1,p,s,hn,hm=>by
  unfold iK
  by_cases hne:s=[]
  ·simp[hne]
  ·have hw:=(oo s).2.2.1
   have hl:0<s.length:=PS.2 hne;rw[Pd hne,Pd hne,sF n m _ (s.drop (dO s).2.2) (by rw[Pi];omega) (by rw[Pi];omega)]
theorem EJ (p:Nat):bK p []=([],[]):=rfl
theorem BH (p:Nat) (s:List Int) (hne:s≠ []):bK p s=((dO s).1++(bK (p+(dO s).2.2) (s.drop (dO s).2.2)).1,dgs p (dO s).2.1++(bK (p+(dO s).2.2) (s.drop (dO s).2.2)).2):=by
 have hl:0<s.length:=PS.2 hne;have hw:=(oo s).2.2.1;obtain⟨n,hn⟩: ∃n,s.length=n+1:=⟨s.length-1,by omega⟩;unfold bK;rw[hn];show(if s=[] then _ else _)=_;rw[Pd hne,sF n (s.drop (dO s).2.2).length _ _ (by rw[Pi];omega) (OW _)]
structure fC (L:List Int) (TT:List Tok) (DD:List Dg) (p:Nat) (T:List Tok) (D:List Dg):Prop where
 t:T++(bK p (L.drop p)).1=TT
 d:D++(bK p (L.drop p)).2=DD
 tl:T.length≤p
 dl:D.length≤p
theorem fC.start (L:List Int):fC L (bK 0 L).1 (bK 0 L).2 0 [] []:=⟨by simp,by simp,by simp,by simp⟩
theorem fC.next {L:List Int} {TT:List Tok} {DD:List Dg} {p:Nat} {T:List Tok} {D:List Dg} (h:fC L TT DD p T D) (hp:p<L.length) {t:List Tok} {d:List Int} {k:Nat} (hs:dO (L.drop p)=(t,d,k)):
  fC L TT DD (p+k) (T++t) (D++dgs p d):=by
 have hne:L.drop p≠ []:=by
  intro h0;have:=Pj List.length h0;simp only[Pi,Pm]at this;omega
 have hst:=BH p _ hne;rw[hs]at hst;simp only[List.drop_drop]at hst;have hb:=oo (L.drop p);rw[hs]at hb;obtain⟨b1,b2,b3,-⟩:=hb;simp only at b1 b2 b3;have h1:=h.t;have h2:=h.d;have tl:=h.tl;have dl:=h.dl;rw[hst]at h1 h2;refine⟨?_,?_,?_,?_⟩
 ·rw[Pw];exact h1
 ·rw[Pw];exact h2
 ·rw[Pb];omega
 ·rw[Pb];unfold dgs;rw[Qe];omega
theorem fC.done {L:List Int} {TT:List Tok} {DD:List Dg} {p:Nat} {T:List Tok} {D:List Dg} (h:fC L TT DD p T D) (hp:L.length≤p):T=TT∧D=DD:=by
 have h1:=h.t;have h2:=h.d;have h0:L.drop p=[]:=QM hp;rw[h0,EJ,Pn]at h1 h2;exact⟨h1,h2⟩
theorem vX: ∀(n p:Nat) (s:List Int),s.length≤n→(iK n p s).1.length≤s.length∧(iK n p s).2.length≤s.length
 | 0,p,s,_=>by simp[iK]
 | n+1,p,s,hn=>by
  unfold iK
  by_cases hne:s=[]
  ·simp[hne]
  ·have hb:=oo s
   have hw:=hb.2.2.2 hne;have ih:=vX n (p+(dO s).2.2) (s.drop (dO s).2.2) (by rw[Pi];omega);rw[Pd hne];simp only[Pb,Pi,dgs,Qe]at ih ⊢;omega
theorem ow (L:List Int):(bK 0 L).1.length≤L.length∧(bK 0 L).2.length≤L.length:=vX _ _ _ (OW _)
theorem iG {L:List Int} {p:Nat} {c:Int} (h:L[p]? =some c):L.drop p=c::L.drop (p+1):=by
 obtain⟨hp,rfl⟩:=OV.1 h;exact PX hp
theorem Dw {L:List Int} {p:Nat} {c:Int} (h:L[p]? =some c):dO (L.drop p)=if c=92 then qh (L.drop (p+1)) else if c=32∨c=9 then([(2,0)],[],1) else if ctl c=true then([(1,65533)],[3],1) else([(1,c)],[],1):=by
 rw[iG h];rfl
end
section
open Go.Lib
def eF (n:Int):List Int→Int
 | []=>n
 | x::l=>eF (n*64+x-128) l
def ji:List Int→Int
 | []=>0
 | [a]=>a
 | a::b:: []=>eF (a-192) [b]
 | a::b::c:: []=>eF (a-224) [b,c]
 | a::r=>eF (a-240) r
def isR (s:List Int):Bool:=vld (ji s)&&decide (encodeRuneZ (ji s)=s)
theorem yR (z:Int) (hv:vld z=true):ji (encodeRuneZ z)=z:=by
 simp only[vld,PQ]at hv
 by_cases c1:z<128
 ·rw[encodeRuneZ_one (by omega) (by omega)];rfl
 ·by_cases c2:z<2048
  ·rw[encodeRuneZ_two (by omega) (by omega)]
   simp only[ji,eF];omega
  ·by_cases c3:z<65536
   ·rw[encodeRuneZ_three (by omega)]
    simp only[ji,eF];omega
   ·rw[encodeRuneZ_four (by omega) (by omega)]
    simp only[ji,eF];omega
def ints (b:List UInt8):List Int:=b.map fun x=>(x.toNat:Int)
theorem ul: ∀{a b:List UInt8},ints a=ints b→a=b
 | [],[],_=>rfl
 | [],y::b,h=>by simp[ints]at h
 | x::a,[],h=>by simp[ints]at h
 | x::a,y::b,h=>by
  simp only[ints,PL,List.cons.injEq]at h;have hx:x=y:=Qt.1 (by omega);rw[hx,ul (a:=a) (b:=b) h.2]
theorem je (z:Int):ints (encodeRune z)=encodeRuneZ z:=by
    unfold ints;have h:=encodeRuneZ_byte z;unfold encodeRune;rw[List.map_map]
    conv=>rhs;rw[←List.map_id (encodeRuneZ z)]
    apply List.map_congr_left;intro x hx;have:=h x hx;simp only[Function.comp,id];rw[show x.toNat.toUInt8=UInt8.ofNat x.toNat from rfl,UInt8.toNat_ofNat'];omega
theorem uk {r:List UInt8} {k:Nat} (hk:k≤r.length) (h:isR (ints (r.take k))=true):
  vld (ji (ints (r.take k)))=true∧decodeL r=((ji (ints (r.take k))).toNat,k):=by
 unfold isR at h;simp only[PI,PQ]at h;obtain⟨hv,he⟩:=h;refine⟨hv,?_⟩;have e:r.take k=encodeRune (ji (ints (r.take k))):=ul (by rw[je,he]);have hl:(encodeRune (ji (ints (r.take k)))).length=k:=by rw[←e,Pg];omega
 have hd:=decode_encode (ji (ints (r.take k))) hv (r.drop k);rw[←e,Qv]at hd;rw[hd,Pg]
 congr 1
 omega
theorem CS {r:List UInt8} (hne:r≠ []) (hb: ¬((decodeL r).1=65533∧(decodeL r).2=1)):isR (ints (r.take (decodeL r).2))=true:=by
 rw[←encode_decode r hne hb,je];have hv:=qN r;unfold isR;rw[yR _ hv,hv];simp
theorem Gn {r:List UInt8} {k:Nat} (h1:1≤k) (hk:k≤r.length) (h:isR (ints (r.take k))=true):dec r=ji (ints (r.take k))::dec (r.drop k):=by
 obtain⟨hv,hd⟩:=uk hk h;have hne:r≠ []:=by intro h0;subst h0;simp at hk;omega
 rw[pz r hne,hd]
 congr 1
 exact Int.toNat_of_nonneg (Be hv)
theorem LD {r:List UInt8} (hne:r≠ []) (h: ∀k,1≤k→k≤4→k≤r.length→isR (ints (r.take k))=false):dec r=65533::dec (r.drop 1):=by
 by_cases hb:(decodeL r).1=65533∧(decodeL r).2=1
 ·rw[pz r hne,hb.1,hb.2]
  rfl
 ·exfalso
  have h0:=CS hne hb;have h1:=decodeL_width r;have h2:=decodeL_le r hne;have h3:(decodeL r).2≤4:=by
   have e:=Pj List.length (encode_decode r hne hb);have:=(lY ((decodeL r).1:Int)).2;rw[Pg]at e;omega
  rw[h _ h1 h3 h2]at h0
  cases h0
theorem mf: ∀(l:List Int) (n x:Int),eF n (l++ [x])=eF n l*64+x-128
 | [],n,x=>rfl
 | y::l,n,x=>by
  rw[PR];exact mf l _ x
theorem jU {l:List Int} {n:Int} (hx: ∀x∈l,0≤x∧x≤255) (h1: -256≤n) (h2:n≤256) (hl:l.length≤3): -100000000≤eF n l∧eF n l≤100000000:=by
 match l,hl with
 | [],_=>simp only[eF];omega
 | [x],_=>
  have:=hx x (by simp);simp only[eF];omega
 | [x,y],_=>
  have:=hx x (by simp);have:=hx y (by simp);simp only[eF];omega
 | [x,y,z],_=>
  have:=hx x (by simp);have:=hx y (by simp);have:=hx z (by simp);simp only[eF];omega
theorem Ke {l:List Int} (hx: ∀x∈l,0≤x∧x≤255) (hl:l.length≤4): -100000000≤ji l∧ji l≤100000000:=by
 match l,hl with
 | [],_=>simp only[ji];omega
 | [a],_=>
  have:=hx a (by simp);simp only[ji];omega
 | [a,b],_=>
  have ha:=hx a (by simp);exact jU (fun x h=>hx x (Qc _ h)) (by omega) (by omega) (by simp)
 | [a,b,c],_=>
  have ha:=hx a (by simp);exact jU (fun x h=>hx x (Qc _ h)) (by omega) (by omega) (by simp)
 | [a,b,c,d],_=>
  have ha:=hx a (by simp);exact jU (fun x h=>hx x (Qc _ h)) (by omega) (by omega) (by simp)
end
end Go.Proofs.YtebabjnngdjceaaGreatDoor

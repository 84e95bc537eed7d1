/- The conversions between  -/
import Derived.Test.YtebabjnngdjceaaGreatDoorE1
import Derived.BigQuiet
set_option linter.unusedVariables false
set_option linter.unusedSimpArgs false
set_option maxRecDepth 100000
set_option maxHeartbeats 400000
namespace Go.Proofs.YtebabjnngdjceaaGreatDoor
open Go.RowKit
section
open Go.RowKit
theorem below_drewN {B:Nat}{a w:World}(h:Below B a w):∀q,Below B a (w.drewN q)
 | 0=>h
 | q+1=>(below_drewN h q).drew
def By (w:World)(v:Value)(b:List UInt8):Prop:=Sl .u8 w v (b.map fun x=>(x.toNat:Int))
theorem yj {w:World}{v:Value}{b:List UInt8}(h:By w v b):(convert 104 9 v).run Tryz.prog w=.ok (.string ⟨b.toArray⟩) w:=by
 obtain⟨a,cap,rfl,hc,hr⟩:=h;simp only[Qy]
 cases a with
 | none=>
  have hb:b=[]:=by
   cases b with
   | nil=>rfl
   | cons x b=>obtain⟨g,off,h0,_⟩:=hr 0 _ rfl;cases h0
  subst hb;rw[run_convert_bytes_string w 104 9 5 none _ cap Tryz.underlying104 Tryz.underlying5 Tryz.underlying9];rfl
 | some p=>
  refine run_convert_bytes_back w 104 9 5 p cap b Tryz.underlying104 Tryz.underlying5 Tryz.underlying9 fun j hj=>?_
  obtain⟨g,off,h0,h1⟩:=hr j (b[j].toNat:Int) (by simp[hj])
  cases h0
  rw[QV];exact h1
theorem ky {w:World}{v:Value}{l:List Int}(h:Sl .i32 w v l):(convert 102 9 v).run Tryz.prog w=.ok (.string ⟨(enc l).toArray⟩) w:=by
 obtain⟨a,cap,rfl,hc,hr⟩:=h
 cases a with
 | none=>
  have hb:l=[]:=by
   cases l with
   | nil=>rfl
   | cons x b=>obtain⟨g,off,h0,_⟩:=hr 0 _ rfl;cases h0
  subst hb;rw[run_convert_runes_nil w 102 9 21 _ cap Tryz.underlying102 Tryz.underlying21 Tryz.underlying9];rfl
 | some p=>
  rw[run_convert_runes w 102 9 21 p l.length cap l (Px _) Tryz.underlying102 Tryz.underlying21 Tryz.underlying9 (fun j hj=>by
   obtain⟨g,off,h0,h1⟩:=hr j l[j] (by simp[hj])
   cases h0
   rw[QV]
   simpa[List.getD,hj] using h1),Qa,tT]
theorem I8 {k:IntKind}{w:World}(C:Array Value)(t:TypeId)(fr:Nat×Nat)(l:List Int)(cap:Nat)(hc:l.length≤cap)(h:∀(j:Nat) (z:Int),l[j]? =some z→C[j]? =some (.int k z)):
  Sl k (w.alloc (.cells C t fr)) (.slice (some ⟨w.heap.size,0,none⟩) l.length cap) l:=by
 refine⟨_,_,rfl,hc,fun j z hj=>⟨_,_,rfl,?_⟩⟩;rw[Ra,World.cell?_alloc_mark];exact h j z hj
theorem yA (w:World)(b:List UInt8)(hb:b.length≤100000):
  ∃u w',(convert 9 102 (.string ⟨b.toArray⟩)).run Tryz.prog w=.ok u w'∧Sl .i32 w' u (dec b)∧Below w.heap.size w w':=by
 have hz:(⟨b.toArray⟩:ByteArray).size=b.length:=by simp[Go.Lib.size_eq]
 have hsz:(Conv.runesFrom ⟨b.toArray⟩ (⟨b.toArray⟩:ByteArray).size 0 #[])=((dec b).map (Value.int .i32)).toArray:=by rw[hz];exact vT b
 have hl:=vv b;have hr:=run_runes_of_string (P:=Tryz.prog) w 9 102 21 ⟨b.toArray⟩ Tryz.underlying9 Tryz.underlying102 Tryz.underlying21 (by rw[hsz];simp;omega);rw[hsz]at hr;refine⟨_,_,hr,?_,((PG _ w).drew).alloc (Px _) _⟩;have e:((dec b).map (Value.int .i32)).toArray.size=(dec b).length:=by simp
 rw[e];have:=I8 (k:= .i32) (w:=w.drew) (((dec b).map (Value.int .i32)).toArray++Array.replicate (grownCap w (dec b).length 0 21-(dec b).length) (.int .i32 0)) 21 (0,0) (dec b) (grownCap w (dec b).length 0 21) (grownCap_ge _ _ _ _) (fun j z hj=>by
  have hlt:=(Pw.1 hj).1;rw[Array.getElem?_append_left (by simpa using hlt)];simp[hj])
 exact this
theorem zu (w:World)(b:List UInt8):
  ∃u w',(convert 9 104 (.string ⟨b.toArray⟩)).run Tryz.prog w=.ok u w'∧By w' u b∧Below w.heap.size w w':=by
 have hz:(⟨b.toArray⟩:ByteArray).size=b.length:=by simp[Go.Lib.size_eq]
 have hr:=run_bytes_of_string (P:=Tryz.prog) w 9 104 5 ⟨b.toArray⟩ Tryz.underlying9 Tryz.underlying104 Tryz.underlying5;refine⟨_,_,hr,?_,((PG _ w).drew).alloc (Px _) _⟩;rw[hz];have hl:(b.map fun x=>(x.toNat:Int)).length=b.length:=by simp
 have:=I8 (k:= .u8) (w:=w.drew) (bytesRow ⟨b.toArray⟩ (grownCap w b.length 0 5)) 5 ((bytesRow ⟨b.toArray⟩ (grownCap w b.length 0 5)).size,(bytesRow ⟨b.toArray⟩ (grownCap w b.length 0 5)).size+1) (b.map fun x=>(x.toNat:Int)) (grownCap w b.length 0 5) (by rw[hl];exact grownCap_ge _ _ _ _) (fun j z hj=>by
  have hlt:=(Pw.1 hj).1;rw[hl]at hlt;rw[bytesRow_at _ _ j (by simpa using hlt)];simp only[QL,Pz hlt,Re,QC]at hj;rw[←hj];simp)
 rw[hl]at this;exact this
theorem D7 (b:List UInt8)(v:Value)(w:World)(hv:By w v b)(hb:b.length≤100000):
  Calls Tryz.prog 100 #[v] w fun e w'=> ∃u,e=.returned u∧Sl .i32 w' u (dec b)∧Below w.heap.size w w':=by
 have h1:=yj hv;obtain⟨u,w',h2,h3,h4⟩:=yA w b hb;clear hv;go_enter Tryz.func100,Tryz.ntmps100
 go_wp2_with fail
 go_ret;exact⟨_,rfl,h3,h4⟩
end
section
end
end Go.Proofs.YtebabjnngdjceaaGreatDoor

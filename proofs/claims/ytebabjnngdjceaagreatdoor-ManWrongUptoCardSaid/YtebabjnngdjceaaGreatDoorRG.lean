/- What is laid for this se -/
import Derived.Test.YtebabjnngdjceaaGreatDoorRE
import Derived.Test.YtebabjnngdjceaaGreatDoorQc
import Derived.Stop.LaidErr
set_option linter.unusedVariables false
set_option linter.unusedSimpArgs false
namespace Go.Proofs.YtebabjnngdjceaaGreatDoor
open Go.RowKit
section
open Go.ChangeShapes Go.WideShapes Go.ChangeAt Go.RowKit
def qZ:List (String×DataW Unit):=[("math/bits.deBruijn32tab",Rows.laid_math_bits_deBruijn32tab),("math/bits.deBruijn64tab",Rows.laid_math_bits_deBruijn64tab),("internal/strconv.uint64pow10",Rows.laid_internal_strconv_uint64pow10),("unicode/utf8.acceptRanges",Rows.laid_unicode_utf8_acceptRanges),("strconv.ErrRange",Rows.laid_strconv_ErrRange),("strconv.ErrSyntax",Rows.laid_strconv_ErrSyntax),("unicode/utf8.first",Rows.laid_unicode_utf8_first)]
theorem Jq {W:World}(h:laidMetH Tryz.prog qZ W):laidMet Tryz.prog qZ W:=by
 rw[EK (by kernel_rfl)]at h;exact h
theorem OY:Tryz.prog.globalNamed "strconv.ErrRange" =some 4:=by kernel_rfl
theorem OX:Tryz.prog.globalNamed "strconv.ErrSyntax" =some 3:=by kernel_rfl
theorem Pi:(Tryz.prog.globals[4]?).map (·.type)=some 168:=by kernel_rfl
theorem Ph:(Tryz.prog.globals[3]?).map (·.type)=some 168:=by kernel_rfl
theorem zN {W:World}(h:laidMetH Tryz.prog qZ W):U8 W:=by
 have h':=Jq h;refine zM ?_ ?_
 ·rw[←Oh];exact Lib.laidMet.reads h' (by simp[qZ])
 ·rw[←M0];exact Lib.laidMet.reads h' (by simp[qZ])
theorem Nj: "*" ++ "errors.errorString" = "*errors.errorString" :=by decide
theorem OI (u:TypeId)(h:Tryz.prog.typeName? 3 u=some "*errors.errorString"):u=270:=
 typeName_ptr_named (nm:= "errors.errorString") (by rw[Nj];kernel_rfl) (by kernel_rfl) (by decide) u (by rw[Nj];exact h)
theorem cellsE:Tryz.prog.cellsOf 272=1:=by kernel_rfl
theorem cellsS:Tryz.prog.cellsOf 9=1:=by kernel_rfl
theorem Bv {W:World}(h:laidMetH Tryz.prog qZ W):Er W:=by
 have h0:=Jq h;have h4:=h0.tail.tail.tail.tail;obtain⟨a0,s0,hv0,-⟩:=laid_sentinel h4 OY Pi Tryz.underlying168 OI Tryz.underlying270 Tryz.underlying272 rfl rfl Tryz.underlying9 cellsE cellsS;obtain⟨a1,s1,hv1,-⟩:=laid_sentinel h4.tail OX Ph Tryz.underlying168 OI Tryz.underlying270 Tryz.underlying272 rfl rfl Tryz.underlying9 cellsE cellsS;exact⟨⟨_,_,World.var?_cell OX hv1 0⟩,⟨_,_,World.var?_cell OY hv0 0⟩⟩
end
section
open Go.ChangeShapes Go.WideShapes Go.ChangeAt Go.RowKit
def Pn:DataW Unit→Value
 | .lit (.int k n)=> .int k n
 | _=>undef
def Ou:DataW Unit→Array Value
 | .agg l=>(l.map Pn).toArray
 | _=> #[]
noncomputable def OQ:Nat:=(World.holding Tryz.prog default ⟨#[],#[],[]⟩).heap.size
noncomputable def oq (os:Os):World:=
 let w0:=World.holding Tryz.prog os ⟨#[.cells #[.string ⟨#[118,97,108,117,101,32,111,117,116,32,111,102,32,114,97,110,103,101]⟩] 272,.cells #[.string ⟨#[105,110,118,97,108,105,100,32,115,121,110,116,97,120]⟩] 272],#[],[]⟩
 {w0 with heap:=((((((w0.heap.modify 0 (setCells J9)).modify 1 (setCells Iw)).modify 5 (setCells (Ou Rows.laid_internal_strconv_uint64pow10))).modify 6 (setCells (Ou Rows.laid_math_bits_deBruijn32tab))).modify 7 (setCells (Ou Rows.laid_math_bits_deBruijn64tab))).modify 4 (setCells #[.iface 270 (.pointer (some ⟨OQ,0,none⟩))])).modify 3 (setCells #[.iface 270 (.pointer (some ⟨OQ+1,0,none⟩))]) }
theorem G8 (os:Os)(args:Array Value):laidMetH Tryz.prog qZ ((oq os).forCall (fun _ _=>0) ⟨#[],args,[]⟩).memory:=by
 rw[EK (by kernel_rfl)];exact laidMet_of_run' 8 (by kernel_rfl) (by kernel_rfl)
end
end Go.Proofs.YtebabjnngdjceaaGreatDoor

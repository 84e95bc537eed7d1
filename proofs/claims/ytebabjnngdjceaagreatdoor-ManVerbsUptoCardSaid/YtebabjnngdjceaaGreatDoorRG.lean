/- What is laid for this seat's rows: seven variables, two of them errors. A world in which all seven variables are laid. -/
import Derived.Test.YtebabjnngdjceaaGreatDoorRE
import Derived.Test.YtebabjnngdjceaaGreatDoorY3
import Derived.Stop.LaidErr
set_option linter.unusedVariables false
set_option linter.unusedSimpArgs false
namespace Go.Proofs.YtebabjnngdjceaaGreatDoor
open Go.RowKit
section
open Go.ChangeShapes Go.WideShapes Go.ChangeAt Go.RowKit
def oC:List (String×DataW Unit):=[("math/bits.deBruijn32tab",Rows.laid_math_bits_deBruijn32tab),("math/bits.deBruijn64tab",Rows.laid_math_bits_deBruijn64tab),("internal/strconv.uint64pow10",Rows.laid_internal_strconv_uint64pow10),("unicode/utf8.acceptRanges",Rows.laid_unicode_utf8_acceptRanges),("strconv.ErrRange",Rows.laid_strconv_ErrRange),("strconv.ErrSyntax",Rows.laid_strconv_ErrSyntax),("unicode/utf8.first",Rows.laid_unicode_utf8_first)]
theorem EE {W:World} (h:laidMetH Tryz.prog oC W):laidMet Tryz.prog oC W:=by
 rw[AA (by kernel_rfl)]at h;exact h
theorem Ku:Tryz.prog.globalNamed "strconv.ErrRange" =some 4:=by kernel_rfl
theorem Kt:Tryz.prog.globalNamed "strconv.ErrSyntax" =some 3:=by kernel_rfl
theorem KQ:(Tryz.prog.globals[4]?).map (·.type)=some 168:=by kernel_rfl
theorem KP:(Tryz.prog.globals[3]?).map (·.type)=some 168:=by kernel_rfl
theorem vR {W:World} (h:laidMetH Tryz.prog oC W):U8 W:=by
 have h':=EE h;refine vQ ?_ ?_
 ·rw[←JS];exact Lib.laidMet.reads h' (by simp[oC])
 ·rw[←IU];exact Lib.laidMet.reads h' (by simp[oC])
theorem IZ: "*" ++ "errors.errorString" = "*errors.errorString" :=by decide
theorem Kh (u:TypeId) (h:Tryz.prog.typeName? 3 u=some "*errors.errorString"):u=270:=
 typeName_ptr_named (nm:= "errors.errorString") (by rw[IZ];kernel_rfl) (by kernel_rfl) (by decide) u (by rw[IZ];exact h)
theorem cellsE:Tryz.prog.cellsOf 272=1:=by kernel_rfl
theorem cellsS:Tryz.prog.cellsOf 9=1:=by kernel_rfl
theorem xD {W:World} (h:laidMetH Tryz.prog oC W):Er W:=by
 have h0:=EE h;have h4:=h0.tail.tail.tail.tail;obtain⟨a0,s0,hv0,-⟩:=laid_sentinel h4 Ku KQ Tryz.underlying168 Kh Tryz.underlying270 Tryz.underlying272 rfl rfl Tryz.underlying9 cellsE cellsS;obtain⟨a1,s1,hv1,-⟩:=laid_sentinel h4.tail Kt KP Tryz.underlying168 Kh Tryz.underlying270 Tryz.underlying272 rfl rfl Tryz.underlying9 cellsE cellsS;exact⟨⟨_,_,World.var?_cell Kt hv1 0⟩,⟨_,_,World.var?_cell Ku hv0 0⟩⟩
end
section
open Go.ChangeShapes Go.WideShapes Go.ChangeAt Go.RowKit
def KW:DataW Unit→Value
 | .lit (.int k n)=> .int k n
 | _=>undef
def JZ:DataW Unit→Array Value
 | .agg l=>(l.map KW).toArray
 | _=> #[]
noncomputable def Kl:Nat:=(World.holding Tryz.prog default ⟨#[],#[],[]⟩).heap.size
noncomputable def lT (os:Os):World:=
 let w0:=World.holding Tryz.prog os ⟨#[.cells #[.string ⟨#[118,97,108,117,101,32,111,117,116,32,111,102,32,114,97,110,103,101]⟩] 272,.cells #[.string ⟨#[105,110,118,97,108,105,100,32,115,121,110,116,97,120]⟩] 272],#[],[]⟩
 {w0 with heap:=((((((w0.heap.modify 0 (setCells Fz)).modify 1 (setCells DJ)).modify 5 (setCells (JZ Rows.laid_internal_strconv_uint64pow10))).modify 6 (setCells (JZ Rows.laid_math_bits_deBruijn32tab))).modify 7 (setCells (JZ Rows.laid_math_bits_deBruijn64tab))).modify 4 (setCells #[.iface 270 (.pointer (some ⟨Kl,0,none⟩))])).modify 3 (setCells #[.iface 270 (.pointer (some ⟨Kl+1,0,none⟩))]) }
theorem CU (os:Os) (args:Array Value):laidMetH Tryz.prog oC ((lT os).forCall (fun _ _=>0) ⟨#[],args,[]⟩).memory:=by
 rw[AA (by kernel_rfl)];exact laidMet_of_run' 8 (by kernel_rfl) (by kernel_rfl)
end
end Go.Proofs.YtebabjnngdjceaaGreatDoor

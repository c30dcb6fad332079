/-
  The contract of math/bits.Len64: how many bits a word has.
-/
import Derived.Shelf.Strconv.Itoa0
import Derived.Test.YtafmmkhegkceiaaBase
namespace Go.Proofs
set_option linter.unusedVariables false
open Go.Shelf
def Try.lays129_ren : Go.Shelf.Ren := ⟨fun | 129 => 70 | n => n, fun | 53 => 26 | 3 => 3 | 4 => 4 | 46 => 80 | 5 => 5 | 9 => 9 | n => n, fun | n => n⟩
theorem Try.lays129 : Go.Proofs.Lays.n129 Try.prog Try.lays129_ren := {
  mixed := by kernel_rfl
  f129 := Try.func70.trans (congrArg some (by kernel_rfl))
  t3 := Try.underlying3
  a3 := Try.isAgg3
  z3 := Try.sizeOf3
  v3 := Try.zeroValue3
  t4 := Try.underlying4
  a4 := Try.isAgg4
  z4 := Try.sizeOf4
  v4 := Try.zeroValue4
  t5 := Try.underlying5
  a5 := Try.isAgg5
  z5 := Try.sizeOf5
  v5 := Try.zeroValue5
  t9 := Try.underlying9
  a9 := Try.isAgg9
  z9 := Try.sizeOf9
  v9 := Try.zeroValue9
  t46 := Try.underlying80
  a46 := Try.isAgg80
  z46 := Try.sizeOf80
  v46 := Try.zeroValue80
  t53 := Try.underlying26
  a53 := Try.isAgg26
  z53 := Try.sizeOf26
  v53 := Try.zeroValue26 }
end Go.Proofs
namespace Go.Proofs.Ytafmmkhegkceiaa
open Go.RowKit Go.Shelf
/-- How many bits. -/
theorem len64_any (x : Nat) (h : x < 18446744073709551616) : Ans 70 #[.int .u64 x] (.int .i64 (Lib.bitLen x : Nat)) :=
  fun w => (Any.bits_Len64 Try.lays129 x w (by omega) (by omega)).mono fun _ _ ⟨he, hw⟩ => ⟨he, 0, hw⟩
end Go.Proofs.Ytafmmkhegkceiaa

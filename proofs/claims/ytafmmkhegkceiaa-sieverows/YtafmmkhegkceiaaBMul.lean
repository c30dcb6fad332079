/-
  The contract of math/bits.Mul64: both halves of a product. No condition but that arguments are words.
-/
import Derived.Shelf.Small.Bits
import Derived.Shelf.Bits.Mul64
import Derived.Test.YtafmmkhegkceiaaBase
namespace Go.Proofs
set_option linter.unusedVariables false
open Go.Shelf
def Try.lays264_ren : Go.Shelf.Ren := ⟨fun | 264 => 71 | n => n, fun | 53 => 26 | 46 => 80 | n => n, fun | n => n⟩
theorem Try.lays264 : Go.Proofs.Lays.n264 Try.prog Try.lays264_ren := {
  mixed := by kernel_rfl
  f264 := Try.func71.trans (congrArg some (by kernel_rfl))
  t46 := Try.underlying80
  a46 := Try.isAgg80
  z46 := Try.sizeOf80
  v46 := Try.zeroValue80
  t53 := Try.underlying26
  a53 := Try.isAgg26
  z53 := Try.sizeOf26
  v53 := Try.zeroValue26 }
open Go.RowKit Go.Lib in
theorem Try.bits_Mul64 (x y : Nat) (hx : x < 18446744073709551616) (hy : y < 18446744073709551616) (w : World) :
    Calls Try.prog 71 #[.int .u64 x, .int .u64 y] w fun e w' => e = .returned (.tuple #[.int .u64 ((x * y / 18446744073709551616 : Nat) : Int), .int .u64 ((x * y % 18446744073709551616 : Nat) : Int)]) ∧ w' = w := Any.bits_Mul64 Try.lays264 x y hx hy w
end Go.Proofs
namespace Go.Proofs.Ytafmmkhegkceiaa
open Go.RowKit Go.Shelf
theorem mul64_nat (a b : Nat) (ha : a < 18446744073709551616) (hb : b < 18446744073709551616) :
    Ans 71 #[.int .u64 a, .int .u64 b] (.tuple #[.int .u64 ((a * b / 18446744073709551616 : Nat) : Int), .int .u64 ((a * b % 18446744073709551616 : Nat) : Int)]) :=
  fun w => (Try.bits_Mul64 a b ha hb w).mono fun _ _ ⟨he, hw⟩ => ⟨he, 0, hw⟩
/-- bits.Mul64: both halves of a product. -/
theorem mul64_any (a b : Int) (ha : Wd a) (hb : Wd b) : ∃ h l : Int, Wd h ∧ Wd l ∧ h * 18446744073709551616 + l = a * b ∧ Ans 71 #[.int .u64 a, .int .u64 b] (.tuple #[.int .u64 h, .int .u64 l]) := by
  obtain ⟨a, rfl, ka⟩ := wd_nat ha
  obtain ⟨b, rfl, kb⟩ := wd_nat hb
  have hp : a * b ≤ 18446744073709551615 * 18446744073709551615 := Nat.mul_le_mul (by omega) (by omega)
  refine ⟨((a * b / 18446744073709551616 : Nat) : Int), ((a * b % 18446744073709551616 : Nat) : Int), ⟨by omega, by omega⟩, ⟨by omega, by omega⟩, ?_, mul64_nat a b ka kb⟩
  rw [← Int.natCast_mul]
  omega
end Go.Proofs.Ytafmmkhegkceiaa

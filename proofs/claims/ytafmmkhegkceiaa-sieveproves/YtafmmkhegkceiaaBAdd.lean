/-
  The contract of math/bits.Add64, by its entry: a word and a carry.
-/
import Derived.Shelf.Spec.BitsCarry
import Derived.Test.YtafmmkhegkceiaaBase
namespace Go.Proofs.Ytafmmkhegkceiaa
set_option linter.unusedVariables false
open Go.RowKit Go.Shelf

theorem add64n (x y c : Nat) (hc : c ≤ 1) (w : World) :
    (callFunc 85 #[.int .u64 x, .int .u64 y, .int .u64 c]).run Try.prog w =
      .ok (.value (.tuple #[.int .u64 (((x + y + c) % 18446744073709551616 : Nat) : Int), .int .u64 (((x + y + c) / 18446744073709551616 : Nat) : Int)])) w := by
  rw [run_callFunc_extern Try.func85 (by kernel_rfl) (by kernel_rfl) (by kernel_rfl) (e := add64Entry) (by kernel_rfl), run_add64 x y c (by omega) (by omega) (by omega) (by omega)]
  simp only [Result.andThen]
  congr 5 <;> omega

/-- bits.Add64: a word and a carry. -/
theorem add64 (x y c : Int) (hx : Wd x) (hy : Wd y) (hc : c = 0 ∨ c = 1) :
    ∃ s k : Int, Wd s ∧ (k = 0 ∨ k = 1) ∧ s + 18446744073709551616 * k = x + y + c ∧
      ∀ w, (callFunc 85 #[.int .u64 x, .int .u64 y, .int .u64 c]).run Try.prog w = .ok (.value (.tuple #[.int .u64 s, .int .u64 k])) w := by
  obtain ⟨hx0, hx1⟩ := hx
  obtain ⟨hy0, hy1⟩ := hy
  obtain ⟨x, rfl⟩ := Int.eq_ofNat_of_zero_le hx0
  obtain ⟨y, rfl⟩ := Int.eq_ofNat_of_zero_le hy0
  obtain ⟨c, rfl⟩ := Int.eq_ofNat_of_zero_le (show 0 ≤ c by omega)
  exact ⟨_, _, ⟨by omega, by omega⟩, by omega, by omega, fun w => add64n x y c (by omega) w⟩
end Go.Proofs.Ytafmmkhegkceiaa

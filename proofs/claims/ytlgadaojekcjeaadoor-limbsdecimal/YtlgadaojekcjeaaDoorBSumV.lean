/-
  The sum of two rows of bits is the row of the sum's bits.
-/
import Derived.Test.YtlgadaojekcjeaaDoorBSum
import Derived.Test.YtlgadaojekcjeaaDoorBitP
namespace Go.Proofs.YtlgadaojekcjeaaDoor
open Go.RowKit

theorem cry_eq (x y : Nat) : ∀ i, cry x.testBit y.testBit i = decide (2 ^ i ≤ x % 2 ^ i + y % 2 ^ i)
  | 0 => by simp [cry, Nat.mod_one]
  | i + 1 => by
    have hp := Nat.two_pow_pos i
    have l1 := Nat.mod_lt x hp
    have l2 := Nat.mod_lt y hp
    rw [cry, cry_eq x y i, Plain.tb, Plain.tb, Plain.mod_succ, Plain.mod_succ, Nat.pow_succ]
    rcases Plain.bit01 x i with h1 | h1 <;> rcases Plain.bit01 y i with h2 | h2 <;> rw [h1, h2] <;> simp <;> omega
theorem sum_bits (x y i : Nat) : sumB x.testBit y.testBit i = (x + y).testBit i := by
  unfold sumB
  rw [cry_eq, Plain.tb, Plain.tb, Plain.tb, Plain.add_bit]
  rcases Plain.bit01 x i with h1 | h1 <;> rcases Plain.bit01 y i with h2 | h2 <;> rw [h1, h2] <;> by_cases h3 : 2 ^ i ≤ x % 2 ^ i + y % 2 ^ i <;> simp [h3]

theorem sum_any (x y : Nat) (w : World) : Calls Tryd.prog 12 #[.agg (bv x.testBit), .agg (bv y.testBit)] w fun e w' => e = .returned (.agg (bv (x + y).testBit)) ∧ Below w.heap.size w w' := by
  have := bsum_any x.testBit y.testBit w
  rw [bv_congr (fun i _ => sum_bits x y i)] at this
  exact this
end Go.Proofs.YtlgadaojekcjeaaDoor

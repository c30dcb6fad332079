/-
  Plain arithmetic of a division of two words by one (no Go in sight).
-/
import Derived.Laws.BitsAllLaws
import Derived.Laws.Bits64
namespace Go.Proofs.Ytjbhdbbepjokpaa.Plain
set_option linter.unusedVariables false

/-- The first guess of a digit is at most two too great for a digit. -/
theorem q_le (u y1 y0 q r : Int) (h : q * y1 + r = u) (hr : 0 ≤ r) (hu : u < y1 * 4294967296 + y0) (hy0 : y0 < 4294967296) (hy1 : 2147483648 ≤ y1) : q ≤ 4294967297 := by
  refine Int.not_lt.mp fun hlt => ?_
  have := Int.mul_le_mul_of_nonneg_right (show (4294967298 : Int) ≤ q by omega) (show 0 ≤ y1 by omega)
  omega

/-- The first guess is no less than the digit. -/
theorem q_ge (u d y1 y0 q r Q R : Int) (h : q * y1 + r = u) (hr : r < y1) (hq : 0 ≤ q) (hd : d < 4294967296) (hy0 : 0 ≤ y0) (hy1 : 0 < y1)
    (hT : u * 4294967296 + d = Q * (y1 * 4294967296 + y0) + R) (hR : 0 ≤ R) : Q ≤ q := by
  refine Int.not_lt.mp fun hlt => ?_
  have e1 := Int.mul_le_mul_of_nonneg_right (show q + 1 ≤ Q by omega) (show 0 ≤ y1 * 4294967296 + y0 by omega)
  have e2 : (q + 1) * (y1 * 4294967296 + y0) = (q * y1) * 4294967296 + q * y0 + y1 * 4294967296 + y0 := by
    rw [Int.add_mul, Int.mul_add, Int.one_mul, ← Int.mul_assoc]; omega
  have e3 := Int.mul_nonneg hq hy0
  omega

/-- The digit is one. -/
theorem digit_lt (u d Y Q R : Int) (hu : u < Y) (hd : d < 4294967296) (hY : 0 < Y) (hT : u * 4294967296 + d = Q * Y + R) (hR : 0 ≤ R) : Q < 4294967296 := by
  refine Int.not_le.mp fun hge => ?_
  have := Int.mul_le_mul_of_nonneg_right hge (show 0 ≤ Y by omega)
  omega
theorem digit_ge (T Y Q R : Int) (hT : T = Q * Y + R) (h0 : 0 ≤ T) (hR : R < Y) (hY : 0 < Y) : 0 ≤ Q := by
  refine Int.not_lt.mp fun hlt => ?_
  have := Int.mul_le_mul_of_nonneg_right (show Q ≤ -1 by omega) (show 0 ≤ Y by omega)
  omega

/-- A guess that is too great is greater than the digit. -/
theorem too_great (u d y1 y0 q r p Q R : Int) (h : q * y1 + r = u) (hp : q * y0 = p) (hgt : 4294967296 * r + d < p) (hY : 0 < y1 * 4294967296 + y0)
    (hT : u * 4294967296 + d = Q * (y1 * 4294967296 + y0) + R) (hR : 0 ≤ R) : Q ≤ q - 1 := by
  refine Int.not_lt.mp fun hlt => ?_
  have e1 := Int.mul_le_mul_of_nonneg_right (show q ≤ Q by omega) (show 0 ≤ y1 * 4294967296 + y0 by omega)
  have e2 : q * (y1 * 4294967296 + y0) = (q * y1) * 4294967296 + q * y0 := by rw [Int.mul_add, ← Int.mul_assoc]
  omega

/-- A guess that is not too great is the digit, if it is no less. -/
theorem not_too_great (u d y1 y0 q r p Q R : Int) (h : q * y1 + r = u) (hp : q * y0 = p) (hle : p ≤ 4294967296 * r + d) (hY : 0 < y1 * 4294967296 + y0)
    (hT : u * 4294967296 + d = Q * (y1 * 4294967296 + y0) + R) (hR : R < y1 * 4294967296 + y0) (hQ : Q ≤ q) : q = Q := by
  refine Int.le_antisymm (Int.not_lt.mp fun hlt => ?_) hQ
  have e1 := Int.mul_le_mul_of_nonneg_right (show Q + 1 ≤ q by omega) (show 0 ≤ y1 * 4294967296 + y0 by omega)
  have e2 : q * (y1 * 4294967296 + y0) = (q * y1) * 4294967296 + q * y0 := by rw [Int.mul_add, ← Int.mul_assoc]
  have e3 : (Q + 1) * (y1 * 4294967296 + y0) = Q * (y1 * 4294967296 + y0) + (y1 * 4294967296 + y0) := by rw [Int.add_mul, Int.one_mul]
  omega

/-- A guess whose rest is no digit is not too great. -/
theorem great_rest (q r y0 d : Int) (hq : q ≤ 4294967296) (hr : 4294967296 ≤ r) (hd : 0 ≤ d) (h0 : 0 ≤ y0) (h1 : y0 < 4294967296) : q * y0 ≤ 4294967296 * r + d := by
  have := Int.mul_le_mul_of_nonneg_right hq h0
  omega

theorem prod_lt (q y0 : Int) (hq0 : 0 ≤ q) (hq : q < 4294967296) (h0 : 0 ≤ y0) (h1 : y0 < 4294967296) : 0 ≤ q * y0 ∧ q * y0 < 18446744073709551616 := by
  refine ⟨Int.mul_nonneg hq0 h0, ?_⟩
  have e1 := Int.mul_le_mul_of_nonneg_right (show q ≤ 4294967295 by omega) h0
  omega

/-- One step less. -/
theorem decr (u y1 q r : Int) (h : q * y1 + r = u) : (q - 1) * y1 + (r + y1) = u := by
  rw [Int.sub_mul, Int.one_mul]; omega

theorem or_join (s : Nat) (hi lo : Int) (h0 : 0 ≤ hi) (h1 : hi * 2 ^ s < 18446744073709551616) (l0 : 0 ≤ lo) (l1 : lo < 2 ^ s) (l2 : lo < 18446744073709551616) :
    bits .or .u64 (hi * 2 ^ s) lo = hi * 2 ^ s + lo := by
  obtain ⟨a, rfl⟩ := Int.eq_ofNat_of_zero_le h0
  obtain ⟨b, rfl⟩ := Int.eq_ofNat_of_zero_le l0
  have e : ((a : Int) * 2 ^ s) = ((a * 2 ^ s : Nat) : Int) := by simp
  rw [e] at h1 ⊢
  rw [u64_or_nat _ _ (by omega) (by omega), nat_join s _ _ (Nat.mul_mod_left _ _) (by exact_mod_cast l1)]
  omega

theorem and_mask (x : Int) (h0 : 0 ≤ x) (h1 : x < 18446744073709551616) : bits .and .u64 x 4294967295 = x % 4294967296 := by
  obtain ⟨a, rfl⟩ := Int.eq_ofNat_of_zero_le h0
  have := u64_and_nat a 4294967295 (by omega) (by omega)
  rw [show ((4294967295 : Nat) : Int) = 4294967295 from rfl] at this
  rw [this, show (4294967295 : Nat) = 2 ^ 32 - 1 from rfl, Nat.and_two_pow_sub_one_eq_mod]
  omega

theorem wrap_sub (a b c : Int) : IntKind.u64.wrap (IntKind.u64.wrap (IntKind.u64.wrap a + b) - IntKind.u64.wrap c) = (a + b - c) % 18446744073709551616 := by
  simp only [IntKind.wrap_u64]; omega
end Go.Proofs.Ytjbhdbbepjokpaa.Plain

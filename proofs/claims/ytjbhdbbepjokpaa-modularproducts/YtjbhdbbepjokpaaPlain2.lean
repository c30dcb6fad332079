/-
  Plain arithmetic of a division of two words by one: the shift ahead, and back (no Go in sight).
-/
import Derived.Test.YtjbhdbbepjokpaaPlain
import Derived.Lib.BitFns
namespace Go.Proofs.Ytjbhdbbepjokpaa.Plain
set_option linter.unusedVariables false

theorem bitLenAux_spec : ∀ (f x : Nat), x < 2 ^ f → x < 2 ^ Lib.bitLenAux f x ∧ (0 < x → 1 ≤ Lib.bitLenAux f x ∧ 2 ^ (Lib.bitLenAux f x - 1) ≤ x) ∧ Lib.bitLenAux f x ≤ f
  | 0, x, h => by simp at h; subst h; simp [Lib.bitLenAux]
  | f + 1, x, h => by
    have ih := bitLenAux_spec f (x / 2) (by rw [Nat.pow_succ] at h; omega)
    simp only [Lib.bitLenAux]
    by_cases h0 : x = 0
    · simp [h0]
    · rw [if_neg h0]
      obtain ⟨i1, i2, i3⟩ := ih
      refine ⟨by rw [Nat.add_comm, Nat.pow_succ]; omega, fun _ => ⟨by omega, ?_⟩, by omega⟩
      by_cases h1 : x / 2 = 0
      · have : Lib.bitLenAux f (x / 2) = 0 := by rw [h1]; cases f <;> simp [Lib.bitLenAux]
        rw [this]; simp; omega
      · obtain ⟨j1, j2⟩ := i2 (by omega)
        rw [show 1 + Lib.bitLenAux f (x / 2) - 1 = (Lib.bitLenAux f (x / 2) - 1) + 1 by omega, Nat.pow_succ]
        omega

theorem shift_fits (y : Nat) (h0 : 0 < y) (h1 : y < 18446744073709551616) : Lib.bitLen y ≤ 64 ∧ 1 ≤ Lib.bitLen y ∧ 9223372036854775808 ≤ y * 2 ^ (64 - Lib.bitLen y) ∧ y * 2 ^ (64 - Lib.bitLen y) < 18446744073709551616 := by
  obtain ⟨i1, i2, i3⟩ := bitLenAux_spec 64 y (by simpa using h1)
  obtain ⟨j1, j2⟩ := i2 h0
  change Lib.bitLen y ≤ 64 at i3
  change y < 2 ^ Lib.bitLen y at i1
  change 1 ≤ Lib.bitLen y at j1
  change 2 ^ (Lib.bitLen y - 1) ≤ y at j2
  refine ⟨i3, j1, ?_, ?_⟩
  · have := Nat.mul_le_mul_right (2 ^ (64 - Lib.bitLen y)) j2
    rw [← Nat.pow_add, show Lib.bitLen y - 1 + (64 - Lib.bitLen y) = 63 by omega] at this
    simpa using this
  · have := Nat.mul_lt_mul_of_pos_right i1 (Nat.two_pow_pos (64 - Lib.bitLen y))
    rw [← Nat.pow_add, show Lib.bitLen y + (64 - Lib.bitLen y) = 64 by omega] at this
    simpa using this

/-- Shifted, two words are two words. -/
theorem shifted (hi lo m k : Int) (hm : 0 < m) (hk : 0 < k) (hmk : m * k = 18446744073709551616) (l0 : 0 ≤ lo) (l1 : lo < 18446744073709551616) :
    (hi * m + lo / k) * 18446744073709551616 + (lo * m) % 18446744073709551616 = (hi * 18446744073709551616 + lo) * m ∧ 0 ≤ lo / k ∧ lo / k < m := by
  have e0 : lo / k * k + lo % k = lo := Int.ediv_mul_add_emod lo k
  have r0 := Int.emod_nonneg lo (show k ≠ 0 by omega)
  have r1 := Int.emod_lt_of_pos lo hk
  have d0 : 0 ≤ lo / k := Int.ediv_nonneg l0 (by omega)
  generalize lo / k = a at *
  generalize lo % k = b at *
  have e1 : lo * m = a * 18446744073709551616 + b * m := by
    rw [← e0, Int.add_mul, Int.mul_assoc, Int.mul_comm k m, hmk]
  have e2 : b * m < k * m := Int.mul_lt_mul_of_pos_right r1 hm
  rw [Int.mul_comm k m, hmk] at e2
  have e3 := Int.mul_nonneg r0 (show 0 ≤ m by omega)
  refine ⟨?_, d0, ?_⟩
  · rw [Int.add_mul (hi * 18446744073709551616), Int.mul_right_comm hi, e1]
    omega
  · refine Int.not_le.mp fun hge => ?_
    have := Int.mul_le_mul_of_nonneg_right hge (show 0 ≤ k by omega)
    omega

theorem top_lt (hi lo m y u n : Int) (hm : 0 < m) (h : hi < y) (l1 : lo < 18446744073709551616) (n0 : 0 ≤ n) (he : u * 18446744073709551616 + n = (hi * 18446744073709551616 + lo) * m) : u < y * m := by
  refine Int.not_le.mp fun hge => ?_
  have e1 := Int.mul_lt_mul_of_pos_right (show hi * 18446744073709551616 + lo < y * 18446744073709551616 by omega) hm
  rw [Int.mul_right_comm y] at e1
  omega

/-- Shifted back, what is left is the rest. -/
theorem back (V m y Q1 Q0 u n1 n0 R1 R0 : Int) (hm : 0 < m) (hV : (u * 4294967296 + n1) * 4294967296 + n0 = V * m) (h1 : u * 4294967296 + n1 = Q1 * (y * m) + R1) (h0 : R1 * 4294967296 + n0 = Q0 * (y * m) + R0) (r0 : 0 ≤ R0) (r1 : R0 < y * m) :
    V = (Q1 * 4294967296 + Q0) * y + R0 / m ∧ 0 ≤ R0 / m ∧ R0 / m < y := by
  have e1 : R0 = (V - (Q1 * 4294967296 + Q0) * y) * m := by
    rw [Int.sub_mul, Int.mul_assoc, Int.add_mul, Int.mul_comm Q1, Int.mul_assoc 4294967296]
    omega
  have e2 : R0 / m = V - (Q1 * 4294967296 + Q0) * y := by rw [e1]; exact Int.mul_ediv_cancel _ (by omega)
  refine ⟨by omega, Int.ediv_nonneg r0 (by omega), ?_⟩
  rw [e2]
  rw [e1] at r1
  exact Int.lt_of_mul_lt_mul_right r1 (by omega)

theorem div_unique (V y q r : Int) (hy : 0 < y) (h : V = q * y + r) (h0 : 0 ≤ r) (h1 : r < y) : q = V / y ∧ r = V % y := by
  have := Int.ediv_emod_unique (a := V) (b := y) (q := q) (r := r) hy
  have h2 := this.2 ⟨by rw [h, Int.mul_comm]; omega, h0, h1⟩
  exact ⟨h2.1.symm, h2.2.symm⟩
end Go.Proofs.Ytjbhdbbepjokpaa.Plain

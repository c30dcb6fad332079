/-
  Plain laws of Euclid's row and of joined rests (no Go in sight).
-/
namespace Go.Proofs.Ytjbhdbbepjokpaa.Plain
set_option linter.unusedVariables false

theorem dvd_emod_sub (m x : Int) : m ∣ x % m - x := ⟨-(x / m), by have := Int.emod_add_mul_ediv x m; rw [Int.mul_neg]; omega⟩

/-- One step of Euclid's row: what a rest is a factor of stays so. -/
theorem row_step (m a rest next f g t : Int) (h1 : m ∣ rest - f * a) (h2 : m ∣ next - g * a) : m ∣ (rest - t * next) - ((f - t * g % m) % m) * a := by
  obtain ⟨k1, e1⟩ := h1
  obtain ⟨k2, e2⟩ := h2
  obtain ⟨k3, e3⟩ := dvd_emod_sub m (t * g)
  obtain ⟨k4, e4⟩ := dvd_emod_sub m (f - t * g % m)
  refine ⟨k1 - t * k2 + (k3 - k4) * a, ?_⟩
  generalize t * g % m = u at *
  generalize (f - u) % m = v at *
  grind

theorem one_of_dvd (m x a : Nat) (hm : 2 ≤ m) (h : (m : Int) ∣ 1 - (x : Int) * a) : a * x % m = 1 := by
  obtain ⟨k, e⟩ := h
  have h1 : ((a * x : Nat) : Int) = 1 + m * (-k) := by rw [Int.natCast_mul, Int.mul_neg, Int.mul_comm (a : Int)]; omega
  have h2 : (((a * x : Nat) : Int)) % m = 1 := by
    rw [h1, Int.add_mul_emod_self_left, Int.emod_eq_of_lt (by omega) (by omega)]
  exact_mod_cast h2

theorem ext_of_dvd (b x s : Nat) (h : (b : Int) ∣ (x : Int) - s) : x % b = s % b := by
  have := Int.emod_emod_of_dvd
  have h2 := Int.emod_eq_emod_iff_emod_sub_eq_zero.mpr (Int.emod_eq_zero_of_dvd h)
  exact_mod_cast h2

/-- What is joined leaves the second rest. -/
theorem join_rest (f a i s b : Nat) (hb : 0 < b) (hi : a * i % b = 1 % b) : (f + a * ((((s : Int) - f) % b * i % b).toNat)) % b = s % b := by
  apply ext_of_dvd
  have h0 := Int.emod_nonneg (((s : Int) - f) % b * i) (show (b : Int) ≠ 0 by omega)
  obtain ⟨k1, e1⟩ := dvd_emod_sub b ((s : Int) - f)
  obtain ⟨k2, e2⟩ := dvd_emod_sub b (((s : Int) - f) % b * i)
  have h3 : (b : Int) ∣ (a : Int) * i - 1 := by
    have : ((a * i : Nat) : Int) % b = (1 : Int) % b := by exact_mod_cast hi
    have := Int.emod_eq_emod_iff_emod_sub_eq_zero.mp this
    rw [Int.natCast_mul] at this
    exact Int.dvd_of_emod_eq_zero this
  obtain ⟨k3, e3⟩ := h3
  rw [Int.natCast_add, Int.natCast_mul, Int.toNat_of_nonneg h0]
  generalize ((s : Int) - f) % b = u at *
  generalize u * i % b = v at *
  refine ⟨a * k2 + u * k3 + k1, ?_⟩
  grind

/-- Two numbers below a product that leave the same rests by coprime numbers are one. -/
theorem join_one (x y a b : Nat) (hab : Nat.gcd a b = 1) (hx : x < a * b) (hy : y < a * b) (h1 : x % a = y % a) (h2 : x % b = y % b) : x = y := by
  have hc : Nat.Coprime a b := hab
  have d1 : (a : Int) ∣ (x : Int) - y := Int.dvd_of_emod_eq_zero (Int.emod_eq_emod_iff_emod_sub_eq_zero.mp (by exact_mod_cast h1))
  have d2 : (b : Int) ∣ (x : Int) - y := Int.dvd_of_emod_eq_zero (Int.emod_eq_emod_iff_emod_sub_eq_zero.mp (by exact_mod_cast h2))
  have e1 := Int.natAbs_dvd_natAbs.mpr d1
  have e2 := Int.natAbs_dvd_natAbs.mpr d2
  simp only [Int.natAbs_natCast] at e1 e2
  have e3 := Nat.Coprime.mul_dvd_of_dvd_of_dvd hc e1 e2
  have e4 : ((x : Int) - y).natAbs < a * b := by omega
  have := Nat.eq_zero_of_dvd_of_lt e3 e4
  omega
end Go.Proofs.Ytjbhdbbepjokpaa.Plain

/-
  Plain mathematics of rests: opposites.
-/
namespace Go.Proofs.Ytafmmkhegkceiaa
set_option linter.unusedVariables false
theorem neg_mod (a m : Int) (hm0 : 0 < m) : (-a) % m = if a % m = 0 then 0 else m - a % m := by
  have h1 := Int.emod_nonneg a (show m ≠ 0 by omega)
  have h2 := Int.emod_lt_of_pos a hm0
  have h3 := Int.emod_nonneg (-a) (show m ≠ 0 by omega)
  have h4 := Int.emod_lt_of_pos (-a) hm0
  have e : -a % m = (- (a % m)) % m := by
    have := Int.emod_add_mul_ediv a m
    rw [← Int.emod_emod_of_dvd (-a) (Int.dvd_refl m)]
    conv => lhs; rw [show -a = -(a % m) + m * (-(a / m)) by rw [Int.mul_neg]; omega]
    rw [Int.add_mul_emod_self_left, Int.emod_emod_of_dvd _ (Int.dvd_refl m)]
  rw [e]
  split
  · next h => rw [h]; simp
  · rw [← Int.add_emod_right, Int.emod_eq_of_lt (by omega) (by omega)]; omega
def negN (a m : Nat) : Nat := (m - a % m) % m
theorem negN_lt (a m : Nat) (h : 0 < m) : negN a m < m := Nat.mod_lt _ h
theorem negN_add (a m : Nat) (h : 0 < m) : (a + negN a m) % m = 0 := by
  unfold negN
  rw [Nat.add_mod, Nat.mod_mod, ← Nat.add_mod, ← Nat.mod_add_mod]
  have := Nat.mod_lt a h
  rw [show a % m + (m - a % m) = m by omega, Nat.mod_self]
theorem negN_cast (a m : Nat) (h : 0 < m) : (-(a : Int)) % (m : Int) = ((negN a m : Nat) : Int) := by
  have h2 := Nat.mod_lt a h
  rw [neg_mod a m (by omega)]
  unfold negN
  split
  · next h => rw [show a % m = 0 by omega]; simp
  · next h => rw [Nat.mod_eq_of_lt (by omega)]; omega
end Go.Proofs.Ytafmmkhegkceiaa

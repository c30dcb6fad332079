/-
  The plain mathematics of Montgomery's products: halves modulo an odd number, what a shrunk number is, the inverse modulo 2^64.
-/
namespace Go.Proofs.Ytafmmkhegkceiaa
set_option linter.unusedVariables false

/-- A rest by 2^64, modulo an odd number: sixty-four times by its half. -/
def dn (a m : Nat) : Nat := a * ((m + 1) / 2) ^ 64 % m
/-- A rest times 2^64. -/
def up (a m : Nat) : Nat := a * 18446744073709551616 % m

theorem half_one (m : Nat) (h : m % 2 = 1) (h1 : 1 < m) : (2 * ((m + 1) / 2)) % m = 1 := by
  rw [show 2 * ((m + 1) / 2) = 1 + m by omega, Nat.add_mod_right, Nat.mod_eq_of_lt h1]
theorem R_one (m : Nat) (h : m % 2 = 1) (h1 : 1 < m) : (18446744073709551616 * ((m + 1) / 2) ^ 64) % m = 1 := by
  rw [show (18446744073709551616 : Nat) = 2 ^ 64 by decide, ← Nat.mul_pow, Nat.pow_mod, half_one m h h1, Nat.one_pow, Nat.mod_eq_of_lt h1]
theorem dn_lt (a m : Nat) (h : 0 < m) : dn a m < m := Nat.mod_lt _ h
theorem up_lt (a m : Nat) (h : 0 < m) : up a m < m := Nat.mod_lt _ h
theorem dn_mod (a m : Nat) : dn (a % m) m = dn a m := by
  unfold dn; rw [Nat.mod_mul_mod]
theorem up_mod (a m : Nat) : up (a % m) m = up a m := by
  unfold up; rw [Nat.mod_mul_mod]
theorem dn_R (a m : Nat) (h : m % 2 = 1) (h1 : 1 < m) : dn (a * 18446744073709551616) m = a % m := by
  unfold dn
  rw [Nat.mul_assoc, Nat.mul_mod, R_one m h h1, Nat.mul_one, Nat.mod_mod]
theorem R_dn (a m : Nat) (h : m % 2 = 1) (h1 : 1 < m) : dn a m * 18446744073709551616 % m = a % m := by
  unfold dn
  rw [Nat.mod_mul_mod, Nat.mul_assoc, Nat.mul_comm (_ ^ 64), Nat.mul_mod, R_one m h h1, Nat.mul_one, Nat.mod_mod]
theorem dn_unique (r a m : Nat) (h : m % 2 = 1) (h1 : 1 < m) (hr : r < m) (e : r * 18446744073709551616 % m = a % m) : r = dn a m := by
  rw [← dn_mod a, ← e, dn_mod, dn_R r m h h1, Nat.mod_eq_of_lt hr]
theorem dn_up (a m : Nat) (h : m % 2 = 1) (h1 : 1 < m) : dn (up a m) m = a % m := by
  unfold up; rw [dn_mod, dn_R a m h h1]
theorem up_dn (a m : Nat) (h : m % 2 = 1) (h1 : 1 < m) : up (dn a m) m = a % m := R_dn a m h h1
theorem dn_mul (x y m : Nat) : dn (x * y) m = x * dn y m % m := by
  unfold dn; rw [Nat.mul_mod_mod, Nat.mul_assoc]
theorem dn_mul' (x y m : Nat) : dn (x * y) m = dn x m * y % m := by
  rw [Nat.mul_comm x, dn_mul, Nat.mul_comm]
theorem dn_add (x y m : Nat) : dn (x + y) m = (dn x m + dn y m) % m := by
  unfold dn; rw [Nat.add_mul, Nat.add_mod]
theorem up_add (x y m : Nat) : up (x + y) m = (up x m + up y m) % m := by
  unfold up; rw [Nat.add_mul, Nat.add_mod]
theorem dn_dn_mul (x y m : Nat) : dn (dn (x * y) m) m = dn x m * dn y m % m := by
  rw [dn_mul x y, dn_mod, dn_mul']
/-- In. -/
theorem dn_square (a s m : Nat) (h : m % 2 = 1) (h1 : 1 < m) (hs : s = 18446744073709551616 * 18446744073709551616 % m) : dn (a * s) m = up a m := by
  unfold up
  rw [← dn_R _ m h h1, ← dn_mod, ← dn_mod (a * 18446744073709551616 * 18446744073709551616), hs, Nat.mul_mod_mod, Nat.mul_assoc]

/-- What is shrunk: the low word goes, and what is left is below twice the modulus. -/
theorem shrink_low (m g l q a b : Nat) (hg : (m * g + 1) % 18446744073709551616 = 0) (hq : q = l * g % 18446744073709551616) (hab : a * 18446744073709551616 + b = q * m) : (l + b) % 18446744073709551616 = 0 := by
  have e1 : b % 18446744073709551616 = q * m % 18446744073709551616 := by rw [← hab, Nat.add_comm, Nat.add_mul_mod_self_right]
  rw [Nat.add_mod, e1, hq, Nat.mod_mul_mod, ← Nat.add_mod, show l + l * g * m = l * (m * g + 1) by rw [Nat.mul_add, Nat.mul_one, Nat.mul_assoc, Nat.mul_comm g m, Nat.add_comm], Nat.mul_mod, hg, Nat.mul_zero, Nat.zero_mod]
theorem shrink_sum (R h a k l b z : Nat) (hab : a * R + b = z) (hsk : R * k = l + b) : (h + a + k) * R = h * R + l + z := by
  rw [Nat.add_mul, Nat.add_mul, Nat.mul_comm k R, hsk, ← hab]; omega
theorem shrink_lt (t m h l z : Nat) (e : t * 18446744073709551616 = h * 18446744073709551616 + l + z) (hh : h < m) (hl : l < 18446744073709551616) (hz : z < 18446744073709551616 * m) : t < 2 * m := by omega
theorem shrink_math (m g h l q a b s k : Nat) (hm : m % 2 = 1) (h1 : 1 < m) (hg : (m * g + 1) % 18446744073709551616 = 0) (hh : h < m) (hl : l < 18446744073709551616) (hq : q = l * g % 18446744073709551616)
    (hab : a * 18446744073709551616 + b = q * m) (hb : b < 18446744073709551616) (hs : s < 18446744073709551616) (hsk : s + 18446744073709551616 * k = l + b) :
    h + a + k < 2 * m ∧ (if m ≤ h + a + k then h + a + k - m else h + a + k) = dn (h * 18446744073709551616 + l) m := by
  have h0 := shrink_low m g l q a b hg hq hab
  have hs0 : s = 0 := by omega
  subst hs0
  have hqm : q * m < 18446744073709551616 * m := Nat.mul_lt_mul_of_pos_right (by rw [hq]; exact Nat.mod_lt _ (by omega)) (by omega)
  have e : (h + a + k) * 18446744073709551616 = h * 18446744073709551616 + l + q * m := shrink_sum _ h a k l b (q * m) hab (by rw [← hsk, Nat.zero_add])
  have hlt : h + a + k < 2 * m := shrink_lt _ m h l _ e hh hl hqm
  refine ⟨hlt, dn_unique _ _ _ hm h1 (by split <;> omega) ?_⟩
  have e2 : (h + a + k) * 18446744073709551616 % m = (h * 18446744073709551616 + l) % m := by rw [e, Nat.add_mul_mod_self_right]
  split
  · next hle =>
    have hle2 : m * 18446744073709551616 ≤ (h + a + k) * 18446744073709551616 := Nat.mul_le_mul_right _ hle
    rw [← e2, Nat.sub_mul, Nat.sub_mul_mod hle2]
  · exact e2

/-- Newton's step modulo a power of 2. -/
theorem newton (m x d e : Int) (hd : d ∣ 1 - m * x) (he : e ∣ d * d) (hR : e ∣ 18446744073709551616) : e ∣ 1 - m * (x * (2 - m * x) % 18446744073709551616) := by
  obtain ⟨t, ht⟩ := hd
  have h1 : e ∣ 1 - m * (x * (2 - m * x)) := by
    have : 1 - m * (x * (2 - m * x)) = d * d * (t * t) := by
      have e1 : (1 - m * x) * (1 - m * x) = d * d * (t * t) := by rw [ht]; grind
      rw [← e1]; grind
    rw [this]; exact Int.dvd_trans he (Int.dvd_mul_right _ _)
  have h2 : 1 - m * (x * (2 - m * x) % 18446744073709551616) = 1 - m * (x * (2 - m * x)) + 18446744073709551616 * (m * (x * (2 - m * x) / 18446744073709551616)) := by
    have := Int.emod_add_mul_ediv (x * (2 - m * x)) 18446744073709551616
    generalize x * (2 - m * x) / 18446744073709551616 = u at *
    generalize x * (2 - m * x) % 18446744073709551616 = v at *
    rw [← this]; grind
  rw [h2]
  exact Int.dvd_add h1 (Int.dvd_trans hR (Int.dvd_mul_right _ _))
/-- How many bits are right behind so many steps. -/
def right : Nat → Int
  | 0 => 8
  | 1 => 64
  | 2 => 4096
  | 3 => 16777216
  | 4 => 281474976710656
  | _ => 18446744073709551616
theorem newton_at (m x : Int) (k : Nat) (h : right k ∣ 1 - m * x) (hk : k < 5) : right (k + 1) ∣ 1 - m * (x * (2 - m * x) % 18446744073709551616) := by
  refine newton m x (right k) (right (k + 1)) h ?_ ?_
  · rcases (show k = 0 ∨ k = 1 ∨ k = 2 ∨ k = 3 ∨ k = 4 by omega) with rfl | rfl | rfl | rfl | rfl <;> (unfold right; decide)
  · rcases (show k = 0 ∨ k = 1 ∨ k = 2 ∨ k = 3 ∨ k = 4 by omega) with rfl | rfl | rfl | rfl | rfl <;> (unfold right; decide)
theorem newton_start (m : Int) (h : m % 2 = 1) : right 0 ∣ 1 - m * m := by
  show (8 : Int) ∣ _
  obtain ⟨t, rfl⟩ : ∃ t, m = 2 * t + 1 := ⟨m / 2, by omega⟩
  have e : 1 - (2 * t + 1) * (2 * t + 1) = -4 * (t * (t + 1)) := by grind
  have h2 : t * (t + 1) % 2 = 0 := by
    rw [Int.mul_emod]
    rcases (show t % 2 = 0 ∨ t % 2 = 1 by omega) with h | h
    · rw [h]; simp
    · rw [show (t + 1) % 2 = 0 by omega]; simp
  rw [e]
  generalize t * (t + 1) = u at *
  omega
theorem newton_end (m x : Nat) (h : right 5 ∣ 1 - (m : Int) * x) (hx : x < 18446744073709551616) : (m * ((18446744073709551616 - x) % 18446744073709551616) + 1) % 18446744073709551616 = 0 := by
  unfold right at h
  obtain ⟨t, ht⟩ := h
  have e : (m * ((18446744073709551616 - x) % 18446744073709551616) + 1) % 18446744073709551616 = (m * (18446744073709551616 - x) + 1) % 18446744073709551616 := by
    rw [Nat.add_mod, Nat.mul_mod_mod, ← Nat.add_mod]
  rw [e]
  have e2 : ((m * (18446744073709551616 - x) + 1 : Nat) : Int) = 18446744073709551616 * (m + t) := by
    rw [Int.natCast_add, Int.natCast_mul, Int.natCast_sub (by omega)]
    have : (m : Int) * ((18446744073709551616 : Nat) - (x : Int)) + 1 = 18446744073709551616 * m + (1 - m * x) := by grind
    rw [show ((1 : Nat) : Int) = 1 from rfl, this, ht]; grind
  omega

/-- One round of the square and multiply, bit by bit from below. -/
theorem mpow_odd (p x e m : Nat) (h : e % 2 = 1) : (dn (p * x) m) * (dn (dn (x * x) m) m) ^ (e / 2) % m = p * (dn x m) ^ e % m := by
  rw [dn_dn_mul, dn_mul]
  conv => rhs; rw [show e = 2 * (e / 2) + 1 by omega]
  rw [Nat.pow_succ, Nat.pow_mul, Nat.pow_two, Nat.mul_mod, Nat.mod_mod, ← Nat.pow_mod, ← Nat.mul_mod, Nat.mul_assoc, Nat.mul_comm (dn x m)]
theorem mpow_even (p x e m : Nat) (h : ¬ e % 2 = 1) : p * (dn (dn (x * x) m) m) ^ (e / 2) % m = p * (dn x m) ^ e % m := by
  rw [dn_dn_mul]
  conv => rhs; rw [show e = 2 * (e / 2) by omega]
  rw [Nat.pow_mul, Nat.pow_two, Nat.mul_mod, ← Nat.pow_mod, ← Nat.mul_mod]

/-- The document's half. -/
theorem half_dn (a m : Nat) (h : m % 2 = 1) (ha : a < m) : a * ((m + 1) / 2) % m = if a % 2 = 0 then a / 2 else a / 2 + m / 2 + 1 := by
  obtain ⟨t, rfl⟩ : ∃ t, m = 2 * t + 1 := ⟨m / 2, by omega⟩
  rw [show (2 * t + 1 + 1) / 2 = t + 1 by omega]
  split
  · next h2 =>
    obtain ⟨u, rfl⟩ : ∃ u, a = 2 * u := ⟨a / 2, by omega⟩
    rw [show 2 * u * (t + 1) = u + u * (2 * t + 1) by grind, Nat.add_mul_mod_self_right, Nat.mod_eq_of_lt (by omega)]; omega
  · next h2 =>
    obtain ⟨u, rfl⟩ : ∃ u, a = 2 * u + 1 := ⟨a / 2, by omega⟩
    rw [show (2 * u + 1) * (t + 1) = (u + t + 1) + u * (2 * t + 1) by grind, Nat.add_mul_mod_self_right, Nat.mod_eq_of_lt (by omega)]; omega
theorem dn_step (a m k : Nat) : (a * ((m + 1) / 2) ^ k % m) * ((m + 1) / 2) % m = a * ((m + 1) / 2) ^ (k + 1) % m := by
  rw [Nat.mod_mul_mod, Nat.mul_assoc, ← Nat.pow_succ]
theorem up_step (a m k : Nat) : (a * 2 ^ k % m + a * 2 ^ k % m) % m = a * 2 ^ (k + 1) % m := by
  rw [← Nat.add_mod, Nat.pow_succ, ← Nat.mul_assoc, Nat.mul_two]
end Go.Proofs.Ytafmmkhegkceiaa

/-
  Plain mathematics of layer 15: parts of a number, the numbers of a table's places, and the places of numbers. No condition.
-/
import Derived.Test.YtpjfapibjihbbaaF1
namespace Go.Proofs.Ytpjfapibjihbbaa
set_option linter.unusedVariables false

theorem mul_cancel {a b i j : Nat} (hc : Nat.Coprime a b) (hi : i < a) (hj : j < a) (h : b * i % a = b * j % a) : i = j := by
  have key : ∀ i j, i ≤ j → j < a → b * i % a = b * j % a → i = j := fun i j hij hj h => by
    have hd : a ∣ b * (j - i) := by
      rw [Nat.mul_sub]
      exact Nat.dvd_of_mod_eq_zero (Nat.sub_mod_eq_zero_of_mod_eq h.symm)
    have h2 := hc.dvd_of_dvd_mul_left hd
    rcases Nat.eq_zero_or_pos (j - i) with e | e
    · omega
    · have := Nat.le_of_dvd e h2; omega
  rcases Nat.le_total i j with h1 | h1
  · exact key i j h1 hj h
  · exact (key j i h1 hi h.symm).symm
/-- Where the number at row i, column j comes from. -/
def inS (a b m : Nat) : Nat := (b * (m / b) + a * (m % b)) % (a * b)
theorem inS_at {a b i j : Nat} (hj : j < b) : inS a b (i * b + j) = (b * i + a * j) % (a * b) := by
  unfold inS
  rw [show (i * b + j) / b = i by rw [Nat.add_comm, Nat.add_mul_div_right _ _ (by omega), Nat.div_eq_of_lt hj, Nat.zero_add], show (i * b + j) % b = j by rw [Nat.add_comm, Nat.add_mul_mod_self_right, Nat.mod_eq_of_lt hj]]
theorem inS_lt {a b : Nat} (ha : 1 ≤ a) (hb : 1 ≤ b) (m : Nat) : inS a b m < a * b := Nat.mod_lt _ (Nat.mul_pos ha hb)
theorem inS_inj {a b : Nat} (ha : 1 ≤ a) (hb : 1 ≤ b) (hc : Nat.Coprime a b) {m m' : Nat} (hm : m < a * b) (hm' : m' < a * b) (h : inS a b m = inS a b m') : m = m' := by
  have hi : m / b < a := Nat.div_lt_of_lt_mul (by rw [Nat.mul_comm]; exact hm)
  have hi' : m' / b < a := Nat.div_lt_of_lt_mul (by rw [Nat.mul_comm]; exact hm')
  have hj := Nat.mod_lt m (show 0 < b by omega)
  have hj' := Nat.mod_lt m' (show 0 < b by omega)
  unfold inS at h
  have ea := congrArg (· % a) h
  have eb := congrArg (· % b) h
  simp only [Nat.mod_mul_right_mod, Nat.mod_mul_left_mod] at ea eb
  rw [Nat.add_mul_mod_self_left, Nat.add_mul_mod_self_left] at ea
  rw [Nat.add_comm, Nat.add_mul_mod_self_left, Nat.add_comm (b * (m' / b)), Nat.add_mul_mod_self_left] at eb
  have e1 := mul_cancel hc hi hi' ea
  have e2 := mul_cancel hc.symm hj hj' eb
  rw [← Nat.div_add_mod m b, ← Nat.div_add_mod m' b, e1, e2]
/-- The place of a number: its rests as row and column. -/
def ouS (a b k : Nat) : Nat := k % a * b + k % b
theorem ouS_div {a b : Nat} (hb : 1 ≤ b) (k : Nat) : ouS a b k / b = k % a := by
  unfold ouS
  rw [Nat.add_comm, Nat.add_mul_div_right _ _ (by omega), Nat.div_eq_of_lt (Nat.mod_lt k (by omega)), Nat.zero_add]
theorem ouS_mod (a b k : Nat) : ouS a b k % b = k % b := by
  unfold ouS
  rw [Nat.add_comm, Nat.add_mul_mod_self_right, Nat.mod_mod]
theorem place_lt {a b i j : Nat} (hi : i < a) (hj : j < b) : i * b + j < a * b := by
  have := Nat.mul_le_mul_right b (show i + 1 ≤ a by omega)
  rw [Nat.add_mul, Nat.one_mul] at this
  omega
theorem ouS_lt {a b : Nat} (ha : 1 ≤ a) (hb : 1 ≤ b) (k : Nat) : ouS a b k < a * b := place_lt (Nat.mod_lt k (by omega)) (Nat.mod_lt k (by omega))
theorem ouS_inj {a b : Nat} (hb : 1 ≤ b) (hc : Nat.Coprime a b) {k k' : Nat} (hk : k < a * b) (hk' : k' < a * b) (h : ouS a b k = ouS a b k') : k = k' := by
  have e1 : k % a = k' % a := by rw [← ouS_div hb k, ← ouS_div hb k', h]
  have e2 : k % b = k' % b := by rw [← ouS_mod a b k, ← ouS_mod a b k', h]
  have key : ∀ k k', k ≤ k' → k' < a * b → k % a = k' % a → k % b = k' % b → k = k' := fun k k' hle hlt e1 e2 => by
    have d1 : a ∣ k' - k := Nat.dvd_of_mod_eq_zero (Nat.sub_mod_eq_zero_of_mod_eq e1.symm)
    have d2 : b ∣ k' - k := Nat.dvd_of_mod_eq_zero (Nat.sub_mod_eq_zero_of_mod_eq e2.symm)
    have d3 := hc.mul_dvd_of_dvd_of_dvd d1 d2
    rcases Nat.eq_zero_or_pos (k' - k) with e | e
    · omega
    · have := Nat.le_of_dvd e d3; omega
  rcases Nat.le_total k k' with h1 | h1
  · exact key k k' h1 hk' e1 e2
  · exact (key k' k h1 hk e1.symm e2.symm).symm
theorem part_up (a b r k : Nat) : b * (r * k) = a * b * (r * (k / a)) + b * (r * (k % a)) := by
  conv => lhs; rw [← Nat.div_add_mod k a]
  rw [Nat.mul_add, Nat.mul_add]
  congr 1
  ac_rfl
/-- A place of the one and a number of the other: by the rows and columns alone. -/
theorem picks (a b m k : Nat) : inS a b m * k % (a * b) = (b * (m / b * (k % a)) + a * (m % b * (k % b))) % (a * b) := by
  have e : (b * (m / b) + a * (m % b)) * k = a * b * (m / b * (k / a) + m % b * (k / b)) + (b * (m / b * (k % a)) + a * (m % b * (k % b))) := by
    rw [Nat.add_mul, Nat.mul_assoc, Nat.mul_assoc, part_up a b (m / b) k, part_up b a (m % b) k, Nat.mul_add, Nat.mul_comm b a]
    ac_rfl
  unfold inS
  rw [Nat.mod_mul_mod, e, Nat.mul_add_mod]

/-! ### Parts and tables -/
/-- Is the second number a part of the first? -/
def fitQ (n a : Int) : Bool := decide (1 < a) && decide (a < n) && decide (n % a = 0) && (Nat.gcd a.toNat (n / a).toNat == 1)
/-- Can there be a table of so many rows and columns? -/
def tabQ (a b : Int) : Bool := decide (1 < a) && decide (1 < b) && decide (a * b ≤ 1024) && (Nat.gcd a.toNat b.toNat == 1)
structure Tab (a b : Nat) : Prop where
  a2 : 2 ≤ a
  b2 : 2 ≤ b
  max : a * b ≤ 1024
  cop : Nat.Coprime a b
theorem fit_no1 {n a : Int} (h : ¬ 1 < a) : fitQ n a = false := by simp [fitQ, h]
theorem fit_no2 {n a : Int} (h : ¬ a < n) : fitQ n a = false := by simp [fitQ, h]
theorem fit_no3 {n a : Int} (h : ¬ n % a = 0) : fitQ n a = false := by simp [fitQ, h]
theorem fit_nat {n a : Nat} (h1 : 1 < a) (h2 : a < n) (h3 : n % a = 0) : fitQ (n : Int) (a : Int) = (Nat.gcd a (n / a) == 1) := by
  have e1 : decide ((1 : Int) < (a : Int)) = true := decide_eq_true (by omega)
  have e2 : decide ((a : Int) < (n : Int)) = true := decide_eq_true (by omega)
  have e3 : decide ((n : Int) % (a : Int) = 0) = true := decide_eq_true (by omega)
  unfold fitQ
  rw [e1, e2, e3, ← Int.natCast_ediv, Int.toNat_natCast, Int.toNat_natCast]
  rfl
theorem tab_fit {a b : Nat} (hb : 0 < b) : fitQ (((a * b : Nat)) : Int) (a : Int) = (decide (1 < a) && decide (1 < b) && (Nat.gcd a b == 1)) := by
  by_cases h1 : 1 < a
  · by_cases h2 : 1 < b
    · have h3 : a < a * b := by have := Nat.mul_le_mul_left a (show 2 ≤ b by omega); omega
      rw [fit_nat h1 h3 (Nat.mul_mod_right a b), Nat.mul_div_cancel_left b (by omega)]
      simp [h1, h2]
    · obtain rfl : b = 1 := by omega
      rw [Nat.mul_one, fit_no2 (by omega)]
      simp
  · rw [fit_no1 (by omega)]
    simp [h1]
theorem tab_nat {a b : Nat} (hm : a * b ≤ 1024) (hb : 0 < b) : tabQ (a : Int) (b : Int) = fitQ (((a * b : Nat)) : Int) (a : Int) := by
  rw [tab_fit hb]
  have e3 : decide ((a : Int) * (b : Int) ≤ 1024) = true := decide_eq_true (by rw [← Int.natCast_mul]; omega)
  unfold tabQ
  rw [e3, Int.toNat_natCast, Int.toNat_natCast, Bool.and_true]
  congr 2
  · exact decide_eq_decide.2 (by omega)
  · exact decide_eq_decide.2 (by omega)
theorem tab_yes {a b : Int} (h : tabQ a b = true) : ∃ i j : Nat, a = i ∧ b = j ∧ Tab i j := by
  unfold tabQ at h
  simp only [Bool.and_eq_true, decide_eq_true_eq, beq_iff_eq] at h
  obtain ⟨⟨⟨h1, h2⟩, h3⟩, h4⟩ := h
  obtain ⟨i, rfl⟩ := Int.eq_ofNat_of_zero_le (show 0 ≤ a by omega)
  obtain ⟨j, rfl⟩ := Int.eq_ofNat_of_zero_le (show 0 ≤ b by omega)
  refine ⟨i, j, rfl, rfl, by omega, by omega, ?_, h4⟩
  rw [← Int.natCast_mul] at h3
  omega
theorem Tab.q {a b : Nat} (h : Tab a b) : tabQ (a : Int) (b : Int) = true := by
  rw [tab_nat h.max (by have := h.b2; omega), tab_fit (by have := h.b2; omega)]
  have := h.a2; have := h.b2; have := h.cop
  simp only [Bool.and_eq_true, decide_eq_true_eq, beq_iff_eq]
  exact ⟨⟨by omega, by omega⟩, h.cop⟩
theorem tab_no1 {a b : Int} (h : ¬ 0 < a) : tabQ a b = false := by simp [tabQ, show ¬ 1 < a by omega]
theorem tab_no2 {a b : Int} (h : ¬ 0 < b) : tabQ a b = false := by simp [tabQ, show ¬ 1 < b by omega]
theorem tab_no3 {a b : Int} (h : ¬ a * b ≤ 1024) : tabQ a b = false := by simp [tabQ, h]
theorem Tab.le {a b : Nat} (h : Tab a b) : a ≤ 512 ∧ b ≤ 512 := by
  have h1 := Nat.mul_le_mul_left a h.b2
  have h2 := Nat.mul_le_mul_right b h.a2
  have := h.max
  omega
/-- What In answers, and Out. -/
def inL (a b : Nat) : List Nat := (List.range (a * b)).map (inS a b)
def ouL (a b : Nat) : List Nat := (List.range (a * b)).map (ouS a b)
theorem inL_len (a b : Nat) : (inL a b).length = a * b := by simp [inL]
theorem ouL_len (a b : Nat) : (ouL a b).length = a * b := by simp [ouL]
theorem inL_get {a b k : Nat} (h : k < a * b) : (inL a b)[k]? = some (inS a b k) := by unfold inL; rw [List.getElem?_map, List.getElem?_range h]; rfl
theorem ouL_get {a b k : Nat} (h : k < a * b) : (ouL a b)[k]? = some (ouS a b k) := by unfold ouL; rw [List.getElem?_map, List.getElem?_range h]; rfl
/-- The document's part, by trials. -/
theorem cop_trial {a b : Nat} (ha : 2 ≤ a) (h : ∀ d, 2 ≤ d → d ≤ a → ¬ (a % d = 0 ∧ b % d = 0)) : Nat.gcd a b = 1 := by
  have h1 := Nat.gcd_dvd_left a b
  have h2 := Nat.gcd_dvd_right a b
  have h3 := Nat.le_of_dvd (by omega) h1
  have h4 := Nat.gcd_pos_of_pos_left b (show 0 < a by omega)
  by_cases e : Nat.gcd a b = 1
  · exact e
  · exact absurd ⟨Nat.mod_eq_zero_of_dvd h1, Nat.mod_eq_zero_of_dvd h2⟩ (h _ (by omega) h3)
theorem not_cop {a b d : Nat} (ha : 0 < a) (hd : 2 ≤ d) (h1 : a % d = 0) (h2 : b % d = 0) : ¬ Nat.gcd a b = 1 := fun e => by
  have := Nat.dvd_gcd (Nat.dvd_of_mod_eq_zero h1) (Nat.dvd_of_mod_eq_zero h2)
  rw [e] at this
  have := Nat.le_of_dvd (by omega) this
  omega
end Go.Proofs.Ytpjfapibjihbbaa

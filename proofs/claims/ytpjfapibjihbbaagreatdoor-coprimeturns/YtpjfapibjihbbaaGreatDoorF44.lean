/-
  Plain mathematics of layer 15: parts of a number, the numbers of a table's places, and the places of numbers. No condition.
-/
import Derived.Test.YtpjfapibjihbbaaGreatDoorF30
import Derived.Test.YtpjfapibjihbbaaGreatDoorF43
import Derived.Test.YtpjfapibjihbbaaGreatDoorF39
import Derived.Test.YtpjfapibjihbbaaGreatDoorF28
import Derived.Test.YtpjfapibjihbbaaGreatDoorF36
import Derived.Maps.OwnOps
import Derived.WideKeyPair
namespace Go.Proofs.YtpjfapibjihbbaaGreatDoor
set_option linter.unusedVariables false

/-- The place of a number: its rests as row and column. -/
def ouS (a b k : Nat) : Nat := k % a * b + k % b
theorem ouS_div {a b : Nat} (hb : 1 ≤ b) (k : Nat) : ouS a b k / b = k % a := by
  unfold ouS
  rw [Nat.add_comm, Nat.add_mul_div_right _ _ (by omega), Nat.div_eq_of_lt (Nat.mod_lt k (by omega)), Nat.zero_add]
theorem ouS_mod (a b k : Nat) : ouS a b k % b = k % b := by
  unfold ouS
  rw [Nat.add_comm, Nat.add_mul_mod_self_right, Nat.mod_mod]
theorem place_lt {a b i j : Nat} (hi : i < a) (hj : j < b) : i * b + j < a * b := by
  have := Nat.mul_le_mul_right b (show i + 1 ≤ a by omega)
  rw [Nat.add_mul, Nat.one_mul] at this
  omega
theorem ouS_lt {a b : Nat} (ha : 1 ≤ a) (hb : 1 ≤ b) (k : Nat) : ouS a b k < a * b := place_lt (Nat.mod_lt k (by omega)) (Nat.mod_lt k (by omega))
theorem ouS_inj {a b : Nat} (hb : 1 ≤ b) (hc : Nat.Coprime a b) {k k' : Nat} (hk : k < a * b) (hk' : k' < a * b) (h : ouS a b k = ouS a b k') : k = k' := by
  have e1 : k % a = k' % a := by rw [← ouS_div hb k, ← ouS_div hb k', h]
  have e2 : k % b = k' % b := by rw [← ouS_mod a b k, ← ouS_mod a b k', h]
  have key : ∀ k k', k ≤ k' → k' < a * b → k % a = k' % a → k % b = k' % b → k = k' := fun k k' hle hlt e1 e2 => by
    have d1 : a ∣ k' - k := Nat.dvd_of_mod_eq_zero (Nat.sub_mod_eq_zero_of_mod_eq e1.symm)
    have d2 : b ∣ k' - k := Nat.dvd_of_mod_eq_zero (Nat.sub_mod_eq_zero_of_mod_eq e2.symm)
    have d3 := hc.mul_dvd_of_dvd_of_dvd d1 d2
    rcases Nat.eq_zero_or_pos (k' - k) with e | e
    · omega
    · have := Nat.le_of_dvd e d3; omega
  rcases Nat.le_total k k' with h1 | h1
  · exact key k k' h1 hk' e1 e2
  · exact (key k' k h1 hk e1.symm e2.symm).symm
theorem part_up (a b r k : Nat) : b * (r * k) = a * b * (r * (k / a)) + b * (r * (k % a)) := by
  conv => lhs; rw [← Nat.div_add_mod k a]
  rw [Nat.mul_add, Nat.mul_add]
  congr 1
  ac_rfl
/-- A place of the one and a number of the other: by the rows and columns alone. -/
theorem picks (a b m k : Nat) : inS a b m * k % (a * b) = (b * (m / b * (k % a)) + a * (m % b * (k % b))) % (a * b) := by
  have e : (b * (m / b) + a * (m % b)) * k = a * b * (m / b * (k / a) + m % b * (k / b)) + (b * (m / b * (k % a)) + a * (m % b * (k % b))) := by
    rw [Nat.add_mul, Nat.mul_assoc, Nat.mul_assoc, part_up a b (m / b) k, part_up b a (m % b) k, Nat.mul_add, Nat.mul_comm b a]
    ac_rfl
  unfold inS
  rw [Nat.mod_mul_mod, e, Nat.mul_add_mod]

/-! ### Parts and tables -/
/-- Is the second number a part of the first? -/
def fitQ (n a : Int) : Bool := decide (1 < a) && decide (a < n) && decide (n % a = 0) && (Nat.gcd a.toNat (n / a).toNat == 1)
/-- Can there be a table of so many rows and columns? -/
def tabQ (a b : Int) : Bool := decide (1 < a) && decide (1 < b) && decide (a * b ≤ 1024) && (Nat.gcd a.toNat b.toNat == 1)
structure Tab (a b : Nat) : Prop where
  a2 : 2 ≤ a
  b2 : 2 ≤ b
  max : a * b ≤ 1024
  cop : Nat.Coprime a b
theorem fit_no1 {n a : Int} (h : ¬ 1 < a) : fitQ n a = false := by simp [fitQ, h]
theorem fit_no2 {n a : Int} (h : ¬ a < n) : fitQ n a = false := by simp [fitQ, h]
theorem fit_no3 {n a : Int} (h : ¬ n % a = 0) : fitQ n a = false := by simp [fitQ, h]
theorem fit_nat {n a : Nat} (h1 : 1 < a) (h2 : a < n) (h3 : n % a = 0) : fitQ (n : Int) (a : Int) = (Nat.gcd a (n / a) == 1) := by
  have e1 : decide ((1 : Int) < (a : Int)) = true := decide_eq_true (by omega)
  have e2 : decide ((a : Int) < (n : Int)) = true := decide_eq_true (by omega)
  have e3 : decide ((n : Int) % (a : Int) = 0) = true := decide_eq_true (by omega)
  unfold fitQ
  rw [e1, e2, e3, ← Int.natCast_ediv, Int.toNat_natCast, Int.toNat_natCast]
  rfl
theorem tab_fit {a b : Nat} (hb : 0 < b) : fitQ (((a * b : Nat)) : Int) (a : Int) = (decide (1 < a) && decide (1 < b) && (Nat.gcd a b == 1)) := by
  by_cases h1 : 1 < a
  · by_cases h2 : 1 < b
    · have h3 : a < a * b := by have := Nat.mul_le_mul_left a (show 2 ≤ b by omega); omega
      rw [fit_nat h1 h3 (Nat.mul_mod_right a b), Nat.mul_div_cancel_left b (by omega)]
      simp [h1, h2]
    · obtain rfl : b = 1 := by omega
      rw [Nat.mul_one, fit_no2 (by omega)]
      simp
  · rw [fit_no1 (by omega)]
    simp [h1]
theorem tab_nat {a b : Nat} (hm : a * b ≤ 1024) (hb : 0 < b) : tabQ (a : Int) (b : Int) = fitQ (((a * b : Nat)) : Int) (a : Int) := by
  rw [tab_fit hb]
  have e3 : decide ((a : Int) * (b : Int) ≤ 1024) = true := decide_eq_true (by rw [← Int.natCast_mul]; omega)
  unfold tabQ
  rw [e3, Int.toNat_natCast, Int.toNat_natCast, Bool.and_true]
  congr 2
  · exact decide_eq_decide.2 (by omega)
  · exact decide_eq_decide.2 (by omega)
theorem tab_yes {a b : Int} (h : tabQ a b = true) : ∃ i j : Nat, a = i ∧ b = j ∧ Tab i j := by
  unfold tabQ at h
  simp only [Bool.and_eq_true, decide_eq_true_eq, beq_iff_eq] at h
  obtain ⟨⟨⟨h1, h2⟩, h3⟩, h4⟩ := h
  obtain ⟨i, rfl⟩ := Int.eq_ofNat_of_zero_le (show 0 ≤ a by omega)
  obtain ⟨j, rfl⟩ := Int.eq_ofNat_of_zero_le (show 0 ≤ b by omega)
  refine ⟨i, j, rfl, rfl, by omega, by omega, ?_, h4⟩
  rw [← Int.natCast_mul] at h3
  omega
theorem Tab.q {a b : Nat} (h : Tab a b) : tabQ (a : Int) (b : Int) = true := by
  rw [tab_nat h.max (by have := h.b2; omega), tab_fit (by have := h.b2; omega)]
  have := h.a2; have := h.b2; have := h.cop
  simp only [Bool.and_eq_true, decide_eq_true_eq, beq_iff_eq]
  exact ⟨⟨by omega, by omega⟩, h.cop⟩
theorem tab_no1 {a b : Int} (h : ¬ 0 < a) : tabQ a b = false := by simp [tabQ, show ¬ 1 < a by omega]
theorem tab_no2 {a b : Int} (h : ¬ 0 < b) : tabQ a b = false := by simp [tabQ, show ¬ 1 < b by omega]
theorem tab_no3 {a b : Int} (h : ¬ a * b ≤ 1024) : tabQ a b = false := by simp [tabQ, h]
theorem Tab.le {a b : Nat} (h : Tab a b) : a ≤ 512 ∧ b ≤ 512 := by
  have h1 := Nat.mul_le_mul_left a h.b2
  have h2 := Nat.mul_le_mul_right b h.a2
  have := h.max
  omega
/-- What In answers, and Out. -/
def inL (a b : Nat) : List Nat := (List.range (a * b)).map (inS a b)
def ouL (a b : Nat) : List Nat := (List.range (a * b)).map (ouS a b)
theorem inL_len (a b : Nat) : (inL a b).length = a * b := by simp [inL]
theorem ouL_len (a b : Nat) : (ouL a b).length = a * b := by simp [ouL]
theorem inL_get {a b k : Nat} (h : k < a * b) : (inL a b)[k]? = some (inS a b k) := by unfold inL; rw [List.getElem?_map, List.getElem?_range h]; rfl
theorem ouL_get {a b k : Nat} (h : k < a * b) : (ouL a b)[k]? = some (ouS a b k) := by unfold ouL; rw [List.getElem?_map, List.getElem?_range h]; rfl
/-- The document's part, by trials. -/
theorem cop_trial {a b : Nat} (ha : 2 ≤ a) (h : ∀ d, 2 ≤ d → d ≤ a → ¬ (a % d = 0 ∧ b % d = 0)) : Nat.gcd a b = 1 := by
  have h1 := Nat.gcd_dvd_left a b
  have h2 := Nat.gcd_dvd_right a b
  have h3 := Nat.le_of_dvd (by omega) h1
  have h4 := Nat.gcd_pos_of_pos_left b (show 0 < a by omega)
  by_cases e : Nat.gcd a b = 1
  · exact e
  · exact absurd ⟨Nat.mod_eq_zero_of_dvd h1, Nat.mod_eq_zero_of_dvd h2⟩ (h _ (by omega) h3)
theorem not_cop {a b d : Nat} (ha : 0 < a) (hd : 2 ≤ d) (h1 : a % d = 0) (h2 : b % d = 0) : ¬ Nat.gcd a b = 1 := fun e => by
  have := Nat.dvd_gcd (Nat.dvd_of_mod_eq_zero h1) (Nat.dvd_of_mod_eq_zero h2)
  rw [e] at this
  have := Nat.le_of_dvd (by omega) this
  omega
end Go.Proofs.YtpjfapibjihbbaaGreatDoor
/-
  What modular.Gcd and Coprime, coprime's Fits and isTable, the document's Fits and Table answer. No condition.
-/
namespace Go.Proofs.YtpjfapibjihbbaaGreatDoor
set_option linter.unusedVariables false
open Go.RowKit

theorem gcd_step (a b : Nat) : Nat.gcd b (a % b) = Nat.gcd a b := by
  rw [Nat.gcd_comm b, ← Nat.gcd_rec, Nat.gcd_comm]
set_option maxHeartbeats 1000000 in
/-- The greatest number that divides both. -/
theorem gcd_any (a b : Nat) (ha : a < 18446744073709551616) (hb : b < 18446744073709551616) :
    Ans 49 #[.int .u64 a, .int .u64 b] (.int .u64 ((Nat.gcd a b : Nat) : Int)) := by
  intro w
  go_enter Tryz.func49, Tryz.ntmps49
  go_wp2
  go_loopw [0, 1] (fun x y W => ∃ c d n : Nat, x = .int .u64 c ∧ y = .int .u64 d ∧ c < 18446744073709551616 ∧ d < 18446744073709551616 ∧ Hid (Nat.gcd c d = Nat.gcd a b) ∧ W = w.drewN n) (fun _ y _ => (intOf y).toNat)
  case atStart => exact ⟨a, b, 0, rfl, rfl, ha, hb, rfl, rfl⟩
  case round =>
    obtain ⟨c, d, n, rfl, rfl, hc, hd, HI, HW⟩ := hrel
    by_cases h0 : 0 < d
    · have h1 : ((d : Int) == 0) = false := by simp; omega
      have hlt := Nat.mod_lt c h0
      go_wp2
      go_region
      go_wp2
      go_roundw
      case rel => exact ⟨d, c % d, n + 1, rfl, by go_num, hd, by omega, (gcd_step c d).trans HI.out, rfl⟩
      case measure => simp [intOf]; omega
    · obtain rfl : d = 0 := by omega
      have HE : Hid (c = Nat.gcd a b) := by
        have h := HI.out
        rw [Nat.gcd_zero_right] at h
        exact h
      clear HI
      go_wp2
      go_ret
      exact ⟨ret_int (by rw [HE.out]), n, rfl⟩
theorem coprime_walk (a b : Int) (g : Int) (HG : Ans 49 #[.int .u64 a, .int .u64 b] (.int .u64 g)) : Ans 33 #[.int .u64 a, .int .u64 b] (.bool (g == 1)) := by
  intro w
  go_enter Tryz.func33, Tryz.ntmps33
  go_wp2_with (go_at_call 49; with_reducible refine Ans.use HG _ fun n2 => ?_)
  go_ret
  exact ⟨rfl, _, rfl⟩
theorem coprime_any (a b : Nat) (ha : a < 18446744073709551616) (hb : b < 18446744073709551616) : Ans 33 #[.int .u64 a, .int .u64 b] (.bool (Nat.gcd a b == 1)) := by
  refine (coprime_walk a b _ (gcd_any a b ha hb)).to ?_
  congr 1
  rw [Bool.eq_iff_iff]
  simp
  omega

/-! ### Fits -/
theorem cfit_one (n a : Int) (h : ¬ 1 < a) : Ans 14 #[.int .i64 n, .int .i64 a] (.bool false) := by
  intro w
  go_enter Tryz.func14, Tryz.ntmps14
  go_wp2
  go_ret
  exact ⟨rfl, 0, rfl⟩
theorem cfit_two (n a : Int) (h : 1 < a) (h2 : ¬ a < n) : Ans 14 #[.int .i64 n, .int .i64 a] (.bool false) := by
  intro w
  go_enter Tryz.func14, Tryz.ntmps14
  go_wp2
  go_ret
  exact ⟨rfl, 0, rfl⟩
theorem cfit_three (n a : Nat) (r : Nat) (h : (1 : Int) < (a : Int)) (h2 : (a : Int) < (n : Int)) (hm : Int.tmod (n : Int) (a : Int) = (r : Int)) (h3 : ¬ (r : Int) = 0) (ha : ¬ (a : Int) = 0) : Ans 14 #[.int .i64 (n : Int), .int .i64 (a : Int)] (.bool false) := by
  intro w
  have h4 : ((r : Int) == 0) = false := by simp; omega
  go_enter Tryz.func14, Tryz.ntmps14
  go_wp2
  go_ret
  exact ⟨rfl, 0, rfl⟩
theorem cfit_four (n a q : Nat) (g : Bool) (h : (1 : Int) < (a : Int)) (h2 : (a : Int) < (n : Int)) (hn : (n : Int) < 9223372036854775808) (hm : Int.tmod (n : Int) (a : Int) = 0) (hq : Int.tdiv (n : Int) (a : Int) = (q : Int)) (hql : (q : Int) ≤ (n : Int)) (ha : ¬ (a : Int) = 0)
    (HC : Ans 33 #[.int .u64 (a : Int), .int .u64 (q : Int)] (.bool g)) : Ans 14 #[.int .i64 (n : Int), .int .i64 (a : Int)] (.bool g) := by
  intro w
  go_enter Tryz.func14, Tryz.ntmps14
  go_wp2_with (go_at_call 33; with_reducible refine Ans.use HC _ fun n2 => ?_)
  go_ret
  exact ⟨rfl, _, rfl⟩
/-- Fits. -/
theorem cfit_any (n a : Int) (hn : n < 9223372036854775808) : Ans 14 #[.int .i64 n, .int .i64 a] (.bool (fitQ n a)) := by
  by_cases h : 1 < a
  · by_cases h2 : a < n
    · obtain ⟨i, rfl⟩ := Int.eq_ofNat_of_zero_le (show 0 ≤ a by omega)
      obtain ⟨m, rfl⟩ := Int.eq_ofNat_of_zero_le (show 0 ≤ n by omega)
      by_cases h3 : m % i = 0
      · rw [fit_nat (by omega) (by omega) h3]
        have hd := Nat.div_le_self m i
        exact cfit_four m i (m / i) _ h h2 hn (by rw [← Int.ofNat_tmod, h3]; rfl) rfl (by omega) (by omega) (coprime_any i (m / i) (by omega) (by omega))
      · rw [fit_no3 (by omega)]
        exact cfit_three m i (m % i) h h2 rfl (by omega) (by omega)
    · rw [fit_no2 h2]; exact cfit_two n a h h2
  · rw [fit_no1 h]; exact cfit_one n a h

/-! ### isTable -/
theorem ctab_one (a b : Int) (h : ¬ 0 < a) : Ans 31 #[.int .i64 a, .int .i64 b] (.bool false) := by
  intro w
  go_enter Tryz.func31, Tryz.ntmps31
  go_wp2
  go_ret
  exact ⟨rfl, 0, rfl⟩
theorem ctab_two (a b : Int) (h : 0 < a) (h2 : ¬ 0 < b) : Ans 31 #[.int .i64 a, .int .i64 b] (.bool false) := by
  intro w
  go_enter Tryz.func31, Tryz.ntmps31
  go_wp2
  go_ret
  exact ⟨rfl, 0, rfl⟩
theorem ctab_three (a b q : Nat) (h : (0 : Int) < (a : Int)) (h2 : (0 : Int) < (b : Int)) (hb : ¬ (b : Int) = 0) (hq : Int.tdiv 1024 (b : Int) = (q : Int)) (hqw : wrap64 (q : Int) = (q : Int)) (h3 : ¬ (a : Int) ≤ (q : Int)) : Ans 31 #[.int .i64 (a : Int), .int .i64 (b : Int)] (.bool false) := by
  intro w
  go_enter Tryz.func31, Tryz.ntmps31
  go_wp2
  go_ret
  exact ⟨rfl, 0, rfl⟩
theorem ctab_four (a b q m : Nat) (g : Bool) (h : (0 : Int) < (a : Int)) (h2 : (0 : Int) < (b : Int)) (hb : ¬ (b : Int) = 0) (hq : Int.tdiv 1024 (b : Int) = (q : Int)) (hqw : wrap64 (q : Int) = (q : Int)) (h3 : (a : Int) ≤ (q : Int)) (hm : wrap64 ((a : Int) * (b : Int)) = (m : Int))
    (HF : Ans 14 #[.int .i64 (m : Int), .int .i64 (a : Int)] (.bool g)) : Ans 31 #[.int .i64 (a : Int), .int .i64 (b : Int)] (.bool g) := by
  intro w
  go_enter Tryz.func31, Tryz.ntmps31
  go_wp2_with (go_at_call 14; with_reducible refine Ans.use HF _ fun n2 => ?_)
  go_ret
  exact ⟨rfl, _, rfl⟩
theorem mulW {a b m : Nat} (h : a * b = m) (hm : m ≤ 16777216) : wrap64 ((a : Int) * (b : Int)) = (m : Int) := by
  rw [← Int.natCast_mul, h]; exact wrN hm
/-- isTable. -/
theorem ctab_any (a b : Int) : Ans 31 #[.int .i64 a, .int .i64 b] (.bool (tabQ a b)) := by
  by_cases h : 0 < a
  · by_cases h2 : 0 < b
    · obtain ⟨i, rfl⟩ := Int.eq_ofNat_of_zero_le (show 0 ≤ a by omega)
      obtain ⟨j, rfl⟩ := Int.eq_ofNat_of_zero_le (show 0 ≤ b by omega)
      have hiff := Nat.le_div_iff_mul_le (x := i) (y := 1024) (k := j) (by omega)
      by_cases h3 : i ≤ 1024 / j
      · have hm := hiff.1 h3
        rw [tab_nat hm (by omega)]
        exact ctab_four i j (1024 / j) (i * j) _ h h2 (by omega) rfl (wrN (by have := Nat.div_le_self 1024 j; omega)) (by omega) (mulW rfl (by omega)) (cfit_any _ _ (by omega))
      · rw [tab_no3 (by rw [← Int.natCast_mul]; intro h4; exact h3 (hiff.2 (by omega)))]
        exact ctab_three i j (1024 / j) h h2 (by omega) rfl (wrN (by have := Nat.div_le_self 1024 j; omega)) (by omega)
    · rw [tab_no2 h2]; exact ctab_two a b h h2
  · rw [tab_no1 h]; exact ctab_one a b h

/-! ### The document's -/
theorem dfit_one (n a : Int) (h : ¬ 1 < a) : Ans 24 #[.int .i64 n, .int .i64 a] (.bool false) := by
  intro w
  have h1 : a ≤ 1 := by omega
  go_enter Tryz.func24, Tryz.ntmps24
  go_wp2
  go_ret
  exact ⟨rfl, 0, rfl⟩
theorem dfit_two (n a : Int) (h : 1 < a) (h2 : ¬ a < n) : Ans 24 #[.int .i64 n, .int .i64 a] (.bool false) := by
  intro w
  have h1 : ¬ a ≤ 1 := by omega
  have h3 : n ≤ a := by omega
  go_enter Tryz.func24, Tryz.ntmps24
  go_wp2
  go_ret
  exact ⟨rfl, 0, rfl⟩
theorem dfit_three (n a : Nat) (r : Nat) (h : ¬ (a : Int) ≤ 1) (h2 : ¬ (n : Int) ≤ (a : Int)) (hm : Int.tmod (n : Int) (a : Int) = (r : Int)) (h3 : ¬ (r : Int) = 0) (ha : ¬ (a : Int) = 0) : Ans 24 #[.int .i64 (n : Int), .int .i64 (a : Int)] (.bool false) := by
  intro w
  have h4 : ((r : Int) != 0) = true := by simp; omega
  go_enter Tryz.func24, Tryz.ntmps24
  go_wp2
  go_ret
  exact ⟨rfl, 0, rfl⟩
set_option maxHeartbeats 1000000 in
theorem dfit_four (n a q : Nat) (h : ¬ (a : Int) ≤ 1) (h2 : ¬ (n : Int) ≤ (a : Int)) (hal : a ≤ 16777216) (hm : Int.tmod (n : Int) (a : Int) = 0) (hq : Int.tdiv (n : Int) (a : Int) = (q : Int)) (hqw : wrap64 (q : Int) = (q : Int)) (ha : ¬ (a : Int) = 0) : Ans 24 #[.int .i64 (n : Int), .int .i64 (a : Int)] (.bool (Nat.gcd a q == 1)) := by
  intro w
  have HA : Hid (2 ≤ a) := by unfold Hid; omega
  go_enter Tryz.func24, Tryz.ntmps24
  go_wp2
  clear hm h h2
  go_loopw [5] (fun v W => ∃ d : Nat, v = .int .i64 (d : Int) ∧ 2 ≤ d ∧ d ≤ a + 1 ∧ Hid (∀ e, 2 ≤ e → e < d → ¬ (a % e = 0 ∧ q % e = 0)) ∧ W = w) (fun v _ => a + 1 - (intOf v).toNat)
  case atStart => exact ⟨2, rfl, by omega, by have := HA.out; omega, fun e h1 h2 => absurd h2 (by omega), rfl⟩
  case round =>
    obtain ⟨d, rfl, hd2, hda, HI, rfl⟩ := hrel
    by_cases hlt : d ≤ a
    · have hd0 : ¬ (d : Int) = 0 := by omega
      have hle : (d : Int) ≤ (a : Int) := by omega
      by_cases h1 : a % d = 0
      · have r1 : Int.tmod (a : Int) (d : Int) = 0 := by rw [← Int.ofNat_tmod, h1]; rfl
        by_cases h3 : q % d = 0
        · have r2 : Int.tmod (q : Int) (d : Int) = 0 := by rw [← Int.ofNat_tmod, h3]; rfl
          have HN : Hid (¬ Nat.gcd a q = 1) := not_cop (by have := HA.out; omega) hd2 h1 h3
          clear HI h1 h3
          go_wp2
          go_ret
          exact ⟨ret_b (beq_false_of_ne HN.out).symm, 0, rfl⟩
        · obtain ⟨r, hr⟩ : ∃ r, q % d = r := ⟨_, rfl⟩
          have r2 : Int.tmod (q : Int) (d : Int) = (r : Int) := by rw [← hr]; rfl
          have r3 : ((r : Int) == 0) = false := by simp; omega
          have r4 : ¬ (r : Int) = 0 := by omega
          have HI2 : Hid (∀ e, 2 ≤ e → e < d + 1 → ¬ (a % e = 0 ∧ q % e = 0)) := fun e h4 h5 h6 => by
            by_cases e1 : e = d
            · subst e1; exact h3 h6.2
            · exact HI.out e h4 (by omega) h6
          clear HI h1 h3 hr
          go_wp2
          go_roundw
          case rel => exact ⟨d + 1, by go_num, by omega, by omega, HI2, by first | rfl | trivial⟩
          case measure => simp [intOf]; omega
      · obtain ⟨r, hr⟩ : ∃ r, a % d = r := ⟨_, rfl⟩
        have r2 : Int.tmod (a : Int) (d : Int) = (r : Int) := by rw [← hr]; rfl
        have r3 : ((r : Int) == 0) = false := by simp; omega
        have r4 : ¬ (r : Int) = 0 := by omega
        have HI2 : Hid (∀ e, 2 ≤ e → e < d + 1 → ¬ (a % e = 0 ∧ q % e = 0)) := fun e h4 h5 h6 => by
          by_cases e1 : e = d
          · subst e1; exact h1 h6.1
          · exact HI.out e h4 (by omega) h6
        clear HI h1 hr
        go_wp2
        go_roundw
        case rel => exact ⟨d + 1, by go_num, by omega, by omega, HI2, by first | rfl | trivial⟩
        case measure => simp [intOf]; omega
    · have HG : Hid (Nat.gcd a q = 1) := cop_trial HA.out fun d' h4 h5 => HI.out d' h4 (by omega)
      have hle : ¬ (d : Int) ≤ (a : Int) := by omega
      clear HI
      go_wp2
      go_ret
      exact ⟨ret_b (by rw [HG.out]; rfl), 0, rfl⟩
/-- The document's Fits. -/
theorem dfit_any (n a : Int) (hn : n ≤ 16777216) : Ans 24 #[.int .i64 n, .int .i64 a] (.bool (fitQ n a)) := by
  by_cases h : 1 < a
  · by_cases h2 : a < n
    · obtain ⟨i, rfl⟩ := Int.eq_ofNat_of_zero_le (show 0 ≤ a by omega)
      obtain ⟨m, rfl⟩ := Int.eq_ofNat_of_zero_le (show 0 ≤ n by omega)
      by_cases h3 : m % i = 0
      · rw [fit_nat (by omega) (by omega) h3]
        exact dfit_four m i (m / i) (by omega) (by omega) (by omega) (by rw [← Int.ofNat_tmod, h3]; rfl) rfl (wrN (by have := Nat.div_le_self m i; omega)) (by omega)
      · rw [fit_no3 (by omega)]
        exact dfit_three m i (m % i) (by omega) (by omega) rfl (by omega) (by omega)
    · rw [fit_no2 h2]; exact dfit_two n a h h2
  · rw [fit_no1 h]; exact dfit_one n a h
end Go.Proofs.YtpjfapibjihbbaaGreatDoor
/-
  Rows of ints of one's own, where there is no Order. No condition.
-/
namespace Go.Proofs.YtpjfapibjihbbaaGreatDoor
set_option linter.unusedVariables false
open Go.RowKit

end Go.Proofs.YtpjfapibjihbbaaGreatDoor
/-
  What coprime.In answers: the numbers of a table's places. No condition.
-/
namespace Go.Proofs.YtpjfapibjihbbaaGreatDoor
set_option linter.unusedVariables false
open Go.RowKit

theorem zcells_ints (l : List Nat) (x : Nat) : zcells (ints (l ++ [x])) = zcells (ints l) ++ [.int .i64 (x : Int)] := by rw [← zcells_snoc]; simp [ints]
theorem cp_take {l : List Nat} {k x : Nat} (h : l[k]? = some x) : l.take (k + 1) = l.take k ++ [x] := by rw [List.take_add_one, h]; rfl
theorem inL_snoc {a b k : Nat} (h : k < a * b) : (inL a b).take (k + 1) = (inL a b).take k ++ [inS a b k] := cp_take (inL_get h)
theorem inL_lt {a b : Nat} (hT : Tab a b) : ∀ z ∈ ints (inL a b), I64 z := fun z hz => by
  obtain ⟨r, hr, rfl⟩ := List.mem_map.1 hz
  obtain ⟨k, _, rfl⟩ := List.mem_map.1 hr
  have := inS_lt (a := a) (b := b) (by have := hT.a2; omega) (by have := hT.b2; omega) k
  have := hT.max
  exact i64_small (by omega)
theorem in_no (W : World) (a b : Int) (h : tabQ a b = false) : AnsB W 12 #[.int .i64 a, .int .i64 b] (.slice none 0 0) := by
  intro w hw
  have HI := ctab_any a b
  rw [h] at HI
  go_enter Tryz.func12, Tryz.ntmps12
  go_wp2_with (go_at_call 31; with_reducible refine Ans.use HI _ fun n2 => ?_)
  go_ret
  exact ⟨rfl, below_drewN _ _⟩
theorem wrSum {x y : Nat} (hx : x ≤ 1024) (hy : y ≤ 1024) : wrap64 ((x : Int) + (y : Int)) = (x : Int) + (y : Int) := by unfold wrap64; omega
theorem sumM {x y n z : Nat} (h : (x + y) % n = z) : Int.tmod ((x : Int) + (y : Int)) (n : Int) = (z : Int) := by rw [← h]; rfl

set_option maxRecDepth 100000 in
set_option maxHeartbeats 2000000 in
/-- In, of a table. -/
theorem in_yes (W : World) {a b : Nat} (hT : Tab a b) : NewRow W 12 #[.int .i64 (a : Int), .int .i64 (b : Int)] (ints (inL a b)) := by
  intro w hw
  obtain ⟨ii, hii, hzi, hsi, hbi⟩ := info_parts infoZ
  have HI := ctab_any a b
  rw [hT.q] at HI
  obtain ⟨hal, hbl⟩ := hT.le
  have HT : Hid (Tab a b) := hT
  have hT2 := hT.max
  have ha2 := hT.a2
  have hb2 := hT.b2
  obtain ⟨n, hn⟩ : ∃ n, a * b = n := ⟨_, rfl⟩
  have hm := mulW hn (by omega)
  have hn1 : n ≤ 1024 := by omega
  have hn0 : ¬ (n : Int) = 0 := by
    have := Nat.mul_le_mul ha2 hb2
    omega
  have HN : Hid (a * b = n) := hn
  clear hT hT2 hn hw
  go_enter Tryz.func12, Tryz.ntmps12
  go_wp2_with (first
    | (go_at_call 31; with_reducible refine Ans.use HI _ fun n2 => ?_)
    | (at_make; refine Hid.out ?_))
  unfold Hid
  refine wpList_make_own _ rfl _ _ 39 rfl w.heap.size 3 ii _ 1 Tryz.underlying39 hii hzi hsi .i64 .i64 _ n rfl rfl hm (by rw [hbi]; omega) (by unfold maxLen; omega) (Nat.le_refl _) ?_
  intro w1 hR hG1
  have hB1 : Below w.heap.size w w1 := (below_drewN w n2).grown hG1 (Nat.le_refl _) (fun k ek => by cases ek)
  have HR1 : Hid (w1.ownsRow w.heap.size 3 1 (.slice (some ⟨w.heap.size, 0, none⟩) 0 n) 0 (zcells (ints ((inL a b).take 0)))) := hR
  clear hR hG1 HI
  go_wp2
  go_loopw [5, 17] (fun out v wr => ∃ (i L : Nat), v = .int .i64 (i : Int) ∧ i ≤ a ∧ Hid (L = i * b) ∧ Hid (wr.ownsRow w.heap.size 3 1 out L (zcells (ints ((inL a b).take L)))) ∧ Below w.heap.size w wr) (fun _ v _ => a - (intOf v).toNat)
  case atStart => exact ⟨0, 0, rfl, by omega, (Nat.zero_mul b).symm, HR1, hB1⟩
  case round =>
    clear HR1 hB1
    rename_i out _
    obtain ⟨i, L, rfl, hi, HL, HO, hB⟩ := hrel
    by_cases hlt : i < a
    · obtain ⟨x, hx⟩ : ∃ x, b * i = x := ⟨_, rfl⟩
      have hxm := mulW hx (by have := Nat.mul_le_mul_left b (Nat.le_of_lt hlt); rw [Nat.mul_comm b a, HN.out] at this; omega)
      have hxl : x ≤ 1024 := by have := Nat.mul_le_mul_left b (Nat.le_of_lt hlt); rw [Nat.mul_comm b a, HN.out] at this; omega
      have HX : Hid (b * i = x) := hx
      clear hx
      go_wp2
      go_loopw [5, 21] (fun out v wi => ∃ (j K : Nat), v = .int .i64 (j : Int) ∧ j ≤ b ∧ Hid (K = i * b + j) ∧ Hid (wi.ownsRow w.heap.size 3 1 out K (zcells (ints ((inL a b).take K)))) ∧ Below w.heap.size w wi) (fun _ v _ => b - (intOf v).toNat)
      case atStart => exact ⟨0, L, rfl, by omega, HL, HO, hB⟩
      case round =>
        clear HL HO hB
        rename_i out _
        obtain ⟨j, K, rfl, hj, HK, HO, hB⟩ := hrel
        by_cases hlj : j < b
        · have hK : K < n := by rw [HK.out, ← HN.out]; exact place_lt hlt hlj
          obtain ⟨y, hy⟩ : ∃ y, a * j = y := ⟨_, rfl⟩
          have hyl : y ≤ 1024 := by have := Nat.mul_le_mul_left a (Nat.le_of_lt hlj); rw [HN.out] at this; omega
          have hym := mulW hy (by omega)
          obtain ⟨z, hz⟩ : ∃ z, (x + y) % n = z := ⟨_, rfl⟩
          have hzm := sumM hz
          have hzn : z < n := by rw [← hz]; exact Nat.mod_lt _ (by omega)
          have HZ : Hid (zcells (ints ((inL a b).take (K + 1))) = zcells (ints ((inL a b).take K)) ++ [.int .i64 (z : Int)]) := by
            unfold Hid
            rw [inL_snoc (by rw [HN.out]; exact hK), zcells_ints]
            have : inS a b K = z := by rw [HK.out, inS_at hlj, HX.out, hy, HN.out, hz]
            rw [this]
          have HK2 : Hid (K + 1 = i * b + (j + 1)) := by unfold Hid; rw [HK.out]; omega
          have hO2 := World.ownsRow.alloc HO.out (.cells #[.int .i64 (z : Int)] 3)
          have hnews := one_new wr (.int .i64 (z : Int)) 3
          have hBa : Below w.heap.size w (wr.alloc (.cells #[.int .i64 (z : Int)] 3)) := bb hB (below_alloc _ _)
          have hzw : wrap64 (z : Int) = (z : Int) := wrN (by omega)
          have HKN : Hid (K < n ∧ n ≤ 1024) := ⟨hK, hn1⟩
          have hm0 : ¬ wrap64 ((a : Int) * (b : Int)) = 0 := by rw [hm]; exact hn0
          have hraw : Int.tmod (wrap64 (wrap64 ((b : Int) * (i : Int)) + wrap64 ((a : Int) * (j : Int)))) (wrap64 ((a : Int) * (b : Int))) = (z : Int) := by
            rw [hxm, hym, hm, wrSum hxl hyl]; exact hzm
          clear hy hz HO hB hxm hym hm
          go_wp2_with (at_builtin; refine Hid.out ?_)
          unfold Hid
          refine (wpList_append_own _ rfl _ _ 39 rfl w.heap.size 3 ii _ 1 8 Tryz.underlying39 hii hzi hsi hbi rfl (by omega) _ K _ rfl hO2 ⟨wr.heap.size, 0, none⟩ 1 1 [.int .i64 (z : Int)] rfl rfl hnews (by simp [Value.oneCell']) (by have := HKN.out; unfold maxLen; omega) (by have := HKN.out; omega) hBa.size ?_)
          intro v' w5 hO3 hG _
          have HO3 : Hid (w5.ownsRow w.heap.size 3 1 v' (K + 1) (zcells (ints ((inL a b).take (K + 1))))) := by unfold Hid; rw [HZ.out]; exact hO3
          have hB5 : Below w.heap.size w w5 := hBa.grown hG hBa.size (fun k hk => (hO2.lt k hk).1)
          clear hO3 hG hO2 hBa hnews HZ
          go_wp2
          go_roundw
          case rel => exact ⟨j + 1, K + 1, by go_num, by omega, HK2, HO3, hB5⟩
          case measure => simp [intOf]; omega
        · obtain rfl : j = b := by omega
          have HL2 : Hid (K = (i + 1) * j) := by unfold Hid; rw [HK.out, Nat.add_mul, Nat.one_mul]
          go_wp2
          go_roundw
          case rel => exact ⟨i + 1, K, by go_num, by omega, HL2, HO, hB⟩
          case measure => simp [intOf]; omega
    · obtain rfl : i = a := by omega
      have hLn : L = n := by rw [HL.out, HN.out]
      subst hLn
      have hO4 := HO.out
      rw [List.take_of_length_le (by rw [inL_len, HN.out]; exact Nat.le_refl _)] at hO4
      have hil : (ints (inL i b)).length = L := by rw [ints_len, inL_len]; exact HN.out
      obtain ⟨A1, C1, hv, hz⟩ := own_ints (zs := ints (inL i b)) (by rw [hil]; exact hO4) (inL_lt HT.out)
      subst hv
      have HZ1 : Hid (ZAt wr A1 C1 (ints (inL i b))) := hz
      clear HO hO4 hz
      go_wp2
      go_ret
      exact ⟨A1, C1, rfl, HZ1.out, hB⟩
end Go.Proofs.YtpjfapibjihbbaaGreatDoor
/-
  What coprime's count and Out answer: a map of the places of a table by their pairs; the places of numbers. No condition.
-/
namespace Go.Proofs.YtpjfapibjihbbaaGreatDoor
set_option linter.unusedVariables false
open Go.RowKit Go.Maps Go.WideMaps

theorem pairArr : ArrKey Tryz.prog 64 3 2 := ⟨Tryz.underlying64, by kernel_rfl, by kernel_rfl, by kernel_rfl⟩
theorem pairKeyed : Keyed Tryz.prog 64 := Keyed.of_law pairArr.law
theorem typesPos : ∃ m, Tryz.prog.types.size = m + 1 := ⟨Tryz.prog.types.size - 1, by have : 0 < Tryz.prog.types.size := of_decide_eq_true (by kernel_rfl); omega⟩
theorem wf_sm {x : Nat} (h : x ≤ 16777216) : (Lit.int .i64 ((x : Nat) : Int)).wf = true := by
  simp [Lit.wf, IntKind.min, IntKind.max, IntKind.signed, IntKind.bits]; omega
/-- A place, as a key. -/
def keyP (i j : Nat) : Lit := .string (keyBytes [.int .i64 (i : Int), .int .i64 (j : Int)])
theorem keyOf_P {i j : Nat} (hi : i ≤ 1024) (hj : j ≤ 1024) : keyOf Tryz.prog 64 (.agg #[.int .i64 (i : Int), .int .i64 (j : Int)]) = some (keyP i j) :=
  keyOf_pair pairArr Tryz.underlying3 typesPos (wf_sm (by omega)) (wf_sm (by omega))
theorem keyP_inj {i j k l : Nat} (hi : i ≤ 1024) (hj : j ≤ 1024) (hk : k ≤ 1024) (hl : l ≤ 1024) (h : keyP i j = keyP k l) : i = k ∧ j = l := by
  have := pairKeyed.inj (keyOf_P hi hj) (h ▸ keyOf_P hk hl)
  simp only [Value.agg.injEq, Array.mk.injEq, List.cons.injEq, Value.int.injEq, true_and, and_true] at this
  omega
/-- A map of the first K places of a table of b columns lies there. -/
def PMap (w : World) (g n b K : Nat) : Prop := ∃ D : DataW Unit, w.ownsMap Tryz.prog 64 (plainElem Tryz.prog 3) g n D ∧
  ∀ i j : Nat, i ≤ 1024 → j < b → j ≤ 1024 → D.atKey (keyP i j) (.lit (.int .i64 0)) = .lit (.int .i64 (((if i * b + j < K then i * b + j else 0 : Nat)) : Int))
theorem pmap_new (w : World) (b : Nat) : PMap (w.alloc (.map #[] 0)) w.heap.size 0 b 0 := ⟨.map [], World.ownsMap_made w _ _ _, fun i j _ _ _ => rfl⟩
theorem PMap.below {w w' : World} {g n b K : Nat} (h : PMap w g n b K) (hb : Below w.heap.size w w') : PMap w' g n b K := by
  obtain ⟨D, hown, h5⟩ := h
  have hlt := hown.lt
  obtain ⟨es, clock, h1, h2, h3, h4⟩ := hown
  exact ⟨D, ⟨es, clock, (hb.block g hlt).trans h1, h2, h3, h4⟩, h5⟩
theorem PMap.kept {w w' : World} {row : Option Nat} {g n b K : Nat} (h : PMap w g n b K) (hg : w.grownBy w' row) (hne : some g ≠ row) : PMap w' g n b K := by
  obtain ⟨D, hown, h5⟩ := h
  exact ⟨D, hown.kept hg hne, h5⟩
theorem place_inj {b i j k l : Nat} (hj : j < b) (hl : l < b) (h : i * b + j = k * b + l) : i = k ∧ j = l := by
  have e1 := congrArg (· / b) h
  have e2 := congrArg (· % b) h
  rw [Nat.add_comm (i * b), Nat.add_comm (k * b), Nat.add_mul_div_right _ _ (by omega), Nat.add_mul_div_right _ _ (by omega), Nat.div_eq_of_lt hj, Nat.div_eq_of_lt hl] at e1
  rw [Nat.add_comm (i * b), Nat.add_comm (k * b), Nat.add_mul_mod_self_right, Nat.add_mul_mod_self_right, Nat.mod_eq_of_lt hj, Nat.mod_eq_of_lt hl] at e2
  omega
theorem pmap_put {w' : World} {g n b K i j : Nat} {D : DataW Unit} {d : DataW Unit} (hD : IsMap D) (ha : ∀ i j : Nat, i ≤ 1024 → j < b → j ≤ 1024 → D.atKey (keyP i j) (.lit (.int .i64 0)) = .lit (.int .i64 (((if i * b + j < K then i * b + j else 0 : Nat)) : Int)))
    (hi : i ≤ 1024) (hj : j < b) (hj2 : j ≤ 1024) (hK : i * b + j = K) (hd : d = .lit (.int .i64 (K : Int)))
    (h : w'.ownsMap Tryz.prog 64 (plainElem Tryz.prog 3) g n (D.put (keyP i j) d)) : PMap w' g n b (K + 1) := by
  refine ⟨_, h, fun k l hk hl hl2 => ?_⟩
  subst hd
  by_cases e : k = i ∧ l = j
  · obtain ⟨rfl, rfl⟩ := e
    rw [atKey_put_same hD (show WideAt.IsKeyLit (keyP k l) from trivial), if_pos (by omega), hK]
  · have hne : k * b + l ≠ K := fun e' => e (place_inj hl hj (e'.trans hK.symm))
    rw [atKey_put_other (fun e' => e (keyP_inj hk hl2 hi hj2 e')), ha k l hk hl hl2]
    by_cases h2 : k * b + l < K
    · rw [if_pos h2, if_pos (by omega)]
    · rw [if_neg h2, if_neg (by omega)]
theorem run_makeHint {P : Program} {t k e : TypeId} (ht : P.underlying t = some (.map k e)) (z : Int) (w : World) : (Instr.makeMap t (some (.int .i64 z))).run P w = .ok (.map (some w.heap.size)) (w.alloc (.map #[] 0)) := by
  simp [Instr.makeMap, run_underlying ht, Result.andThen]
  rfl

set_option maxHeartbeats 2000000 in
set_option maxRecDepth 100000 in
/-- count. -/
theorem count_any {a b : Nat} (hT : Tab a b) (w : World) :
    Calls Tryz.prog 32 #[.int .i64 (a : Int), .int .i64 (b : Int)] w fun e w' => e = .returned (.map (some w.heap.size)) ∧ PMap w' w.heap.size 1025 b (a * b) ∧ Below w.heap.size w w' := by
  have hmm := fun z w => run_makeHint (P := Tryz.prog) Tryz.underlying61 z w
  obtain ⟨hal, hbl⟩ := hT.le
  have hmax := hT.max
  have HN : Hid (a * b ≤ 1024) := hmax
  clear hT hmax
  go_enter Tryz.func32, Tryz.ntmps32
  go_wp2
  clear hmm
  go_loopw [13] (fun v wr => ∃ (i L : Nat), v = .int .i64 (i : Int) ∧ i ≤ a ∧ Hid (L = i * b) ∧ L ≤ 1024 ∧ Hid (PMap wr w.heap.size L b L) ∧ Below w.heap.size w wr) (fun v _ => a - (intOf v).toNat)
  case atStart => exact ⟨0, 0, rfl, by omega, (Nat.zero_mul b).symm, by omega, pmap_new w b, below_alloc _ _⟩
  case round =>
    obtain ⟨i, L, rfl, hi, HL, hL2, HO, hB⟩ := hrel
    by_cases hlt : i < a
    · obtain ⟨x, hx⟩ : ∃ x, i * b = x := ⟨_, rfl⟩
      have hxl : x ≤ 1024 := by have := Nat.mul_le_mul_right b (Nat.le_of_lt hlt); have := HN.out; omega
      have hxm := mulW hx (by omega)
      have HX : Hid (i * b = x) := hx
      clear hx
      go_wp2
      go_loopw [17] (fun v wi => ∃ (j K : Nat), v = .int .i64 (j : Int) ∧ j ≤ b ∧ Hid (K = i * b + j) ∧ K ≤ 1024 ∧ Hid (PMap wi w.heap.size K b K) ∧ Below w.heap.size w wi) (fun v _ => b - (intOf v).toNat)
      case atStart => exact ⟨0, L, rfl, by omega, HL, hL2, HO, hB⟩
      case round =>
        clear HL HO hB hL2
        obtain ⟨j, K, rfl, hj, HK, hK2, HO, hB⟩ := hrel
        by_cases hlj : j < b
        · have hK : K < 1024 := by
            have h1 := place_lt hlt hlj
            have h2 := HN.out
            have h3 := HK.out
            omega
          have HK2 : Hid (K + 1 = i * b + (j + 1)) := by unfold Hid; rw [HK.out]; omega
          have HKi : Hid (i * b + j = K) := HK.out.symm
          have hraw : wrap64 (wrap64 ((i : Int) * (b : Int)) + (j : Int)) = (K : Int) := by
            rw [hxm, wrSum hxl (by omega), HK.out, HX.out]; rfl
          have HRW : Hid (wrap64 (wrap64 ((i : Int) * (b : Int)) + (j : Int)) = (K : Int)) := hraw
          have HWF : Hid ((Lit.int .i64 (wrap64 (wrap64 ((i : Int) * (b : Int)) + (j : Int)))).wf = true) := by unfold Hid; rw [hraw]; exact wf_sm (by omega)
          obtain ⟨D, hown, ha⟩ := HO.out
          have HA : Hid (∀ i j : Nat, i ≤ 1024 → j < b → j ≤ 1024 → D.atKey (keyP i j) (.lit (.int .i64 0)) = .lit (.int .i64 (((if i * b + j < K then i * b + j else 0 : Nat)) : Int))) := ha
          have HKQ : Hid (keyOf Tryz.prog 64 (.agg #[.int .i64 (i : Int), .int .i64 (j : Int)]) = some (keyP i j)) := keyOf_P (by omega) (by omega)
          have HNM : Hid (K < maxLen) := by unfold Hid maxLen; omega
          clear ha HO hraw hxm
          go_wp2_with (at_mapUpdate; refine wpList_mapUpdate_own _ rfl _ _ _ 61 rfl 64 3 pairKeyed Tryz.underlying61 _ w.heap.size K _ rfl hown HNM.out _ _ _ rfl rfl HKQ.out _ [] (plainElem_int Tryz.underlying3 HWF.out) ?_; intro w1 hown1 hgrow1)
          have HM2 : Hid (PMap w1 w.heap.size (K + 1) b (K + 1)) := pmap_put hown.isMap HA.out (by omega) hlj (by omega) HKi.out (by rw [HRW.out]) hown1
          have hB1 : Below w.heap.size w w1 := hB.grown hgrow1 hB.size (fun k hk => by cases hk; exact Nat.le_refl _)
          clear hown1 hgrow1 hown
          go_wp2
          go_roundw
          case rel => exact ⟨j + 1, K + 1, by go_num, by omega, HK2, by omega, HM2, hB1⟩
          case measure => simp [intOf]; omega
        · obtain rfl : j = b := by omega
          have HL2 : Hid (K = (i + 1) * j) := by unfold Hid; rw [HK.out, Nat.add_mul, Nat.one_mul]
          go_wp2
          go_roundw
          case rel => exact ⟨i + 1, K, by go_num, by omega, HL2, hK2, HO, hB⟩
          case measure => simp [intOf]; omega
    · obtain rfl : i = a := by omega
      have HO4 : Hid (PMap wr w.heap.size 1025 b (i * b)) := by
        obtain ⟨D, h1, h2⟩ := HO.out
        exact ⟨D, h1.mono (by omega), by rw [HL.out] at h2; exact h2⟩
      clear HO
      go_wp2
      go_ret
      exact ⟨rfl, HO4.out, hB⟩
end Go.Proofs.YtpjfapibjihbbaaGreatDoor
/-
  What coprime.Out answers: the places of numbers. No condition.
-/
namespace Go.Proofs.YtpjfapibjihbbaaGreatDoor
set_option linter.unusedVariables false
open Go.RowKit Go.Maps Go.WideMaps

theorem out_no (W : World) (a b : Int) (h : tabQ a b = false) : AnsB W 13 #[.int .i64 a, .int .i64 b] (.slice none 0 0) := by
  intro w hw
  have HI := ctab_any a b
  rw [h] at HI
  go_enter Tryz.func13, Tryz.ntmps13
  go_wp2_with (go_at_call 31; with_reducible refine Ans.use HI _ fun n2 => ?_)
  go_ret
  exact ⟨rfl, below_drewN _ _⟩
theorem ouL_lt {a b : Nat} (hT : Tab a b) : ∀ z ∈ ints (ouL a b), I64 z := fun z hz => by
  obtain ⟨r, hr, rfl⟩ := List.mem_map.1 hz
  obtain ⟨k, _, rfl⟩ := List.mem_map.1 hr
  have := ouS_lt (a := a) (b := b) (by have := hT.a2; omega) (by have := hT.b2; omega) k
  have := hT.max
  exact i64_small (by omega)
theorem zcells_at' {zs : List Int} {j : Nat} {z : Int} (h : zs[j]? = some z) : (zcells zs)[j]? = some (.int .i64 z) := by unfold zcells; rw [List.getElem?_map, h]; rfl
theorem zcells_set (zs : List Int) (k : Nat) (z : Int) : zcells (zs.set k z) = (zcells zs).set k (.int .i64 z) := by simp [zcells, List.map_set]
/-- A look-up in the map, as the walk meets it. -/
theorem pmap_look {w : World} {g n b K i j : Nat} (h : PMap w g n b K) (hi : i ≤ 1024) (hj : j < b) (hj2 : j ≤ 1024) (hK : i * b + j < K) :
    ∀ x : Nat, (Instr.lookup 61 (.map (some g)) (.agg #[.int .i64 (i : Int), .int .i64 (j : Int)]) false).run Tryz.prog (w.drewN x) = .ok (.int .i64 ((i * b + j : Nat) : Int)) (w.drewN x) := by
  intro x
  obtain ⟨D, hown, ha⟩ := h
  have hown' : (w.drewN x).ownsMap Tryz.prog 64 (plainElem Tryz.prog 3) g n D := hown
  obtain ⟨c, hrun, hat, _⟩ := hown'.lookup_int pairKeyed Tryz.underlying61 Tryz.underlying3 (by kernel_rfl) (keyOf_P hi (by omega : j ≤ 1024))
  rw [ha i j hi hj hj2, if_pos hK] at hat
  simp only [DataW.lit.injEq, Lit.int.injEq, true_and] at hat
  rw [hrun, ← hat]

set_option maxRecDepth 100000 in
set_option maxHeartbeats 2000000 in
/-- Out, of a table. -/
theorem out_yes (W : World) {a b : Nat} (hT : Tab a b) : NewRow W 13 #[.int .i64 (a : Int), .int .i64 (b : Int)] (ints (ouL a b)) := by
  intro w hw
  obtain ⟨ii, hii, hzi, hsi, hbi⟩ := info_parts infoZ
  have HI := ctab_any a b
  rw [hT.q] at HI
  have HC := fun w => count_any hT w
  obtain ⟨hal, hbl⟩ := hT.le
  have HT : Hid (Tab a b) := hT
  have hT2 := hT.max
  have ha2 := hT.a2
  have hb2 := hT.b2
  have ha0 : ¬ (a : Int) = 0 := by omega
  have hb0 : ¬ (b : Int) = 0 := by omega
  obtain ⟨n, hn⟩ : ∃ n, a * b = n := ⟨_, rfl⟩
  have hm := mulW hn (by omega)
  have hn1 : n ≤ 1024 := by omega
  rw [hn] at HC
  have HN : Hid (a * b = n) := hn
  have HCu : Hid (∀ (w1 : World) {R : Ending → World → Prop}, (∀ w', PMap w' w1.heap.size 1025 b n → Below w1.heap.size w1 w' → R (.returned (.map (some w1.heap.size))) w') → Calls Tryz.prog 32 #[.int .i64 (a : Int), .int .i64 (b : Int)] w1 R) :=
    fun w1 R k => (HC w1).mono fun _ _ ⟨he, h1, h2⟩ => by subst he; exact k _ h1 h2
  clear hT hT2 hn hw HC
  go_enter Tryz.func13, Tryz.ntmps13
  go_wp2_with (first
    | (go_at_call 31; with_reducible refine Ans.use HI _ fun n2 => ?_)
    | (go_at_call 32; with_reducible refine HCu.out _ fun w1 hM1 hb1 => ?_)
    | (at_make; refine Hid.out ?_))
  unfold Hid
  have hB1 : Below w.heap.size w w1 := bb (below_drewN w n2) hb1
  have hM0 : PMap w1 w.heap.size 1025 b n := hM1
  obtain ⟨gm, hgm⟩ : ∃ gm, w.heap.size = gm := ⟨_, rfl⟩
  have HGM : Hid (w.heap.size = gm) := hgm
  clear hM1
  have hM1 : PMap w1 gm 1025 b n := hgm ▸ hM0
  rw [show Value.map (some w.heap.size) = Value.map (some gm) by rw [hgm]]
  have hgl : gm < w1.heap.size := by obtain ⟨D, hown, _⟩ := hM1; exact hown.lt
  have HM1 : Hid (PMap w1 gm 1025 b n) := hM1
  clear hgm hM0 hM1 hb1 HCu HI
  refine wpList_make_full _ rfl _ _ 39 rfl w1.heap.size 3 ii _ 1 Tryz.underlying39 hii hzi hsi .i64 .i64 _ _ n rfl rfl hm hm (by rw [hbi]; omega) (by unfold maxLen; omega) (Nat.le_refl _) ?_
  intro w2 hR hG2
  have HS0 := wfl_zero (0 : Nat) n (ouS a b)
  have hR2 : w2.ownsRow w1.heap.size 3 1 (.slice (some ⟨w1.heap.size, 0, none⟩) n n) n (zcells (ints (wfl 0 n 0 (ouS a b)))) := by
    have e : (madeCells (Value.int .i64 0).cells (n * 1)).toList = zcells (ints (wfl 0 n 0 (ouS a b))) := by
      rw [made_list rfl, HS0]; simp [zcells, ints]
    rw [← e]; exact hR
  have hB2 : Below w.heap.size w w2 := hB1.grown hG2 hB1.size (fun k ek => by cases ek)
  have HM2 : Hid (PMap w2 gm 1025 b n) := HM1.out.kept hG2 (by simp)
  obtain ⟨gc, hgc⟩ : ∃ gc, w1.heap.size = gc := ⟨_, rfl⟩
  rw [hgc] at hR2 hgl
  rw [show (Value.slice (some ⟨w1.heap.size, 0, none⟩) n n) = .slice (some ⟨gc, 0, none⟩) n n by rw [hgc]]
  have HGC : Hid (w.heap.size ≤ gc) := by unfold Hid; rw [← hgc]; exact hB1.size
  have HR2 : Hid (w2.ownsRow gc 3 1 (.slice (some ⟨gc, 0, none⟩) n n) n (zcells (ints (wfl 0 n 0 (ouS a b))))) := hR2
  clear hR hR2 hG2 hgc HS0 HM1 hB1
  go_wp2
  go_loopw [21] (fun v wr => ∃ k : Nat, v = .int .i64 (k : Int) ∧ k ≤ n ∧ Hid (wr.ownsRow gc 3 1 (.slice (some ⟨gc, 0, none⟩) n n) n (zcells (ints (wfl 0 n k (ouS a b))))) ∧ Hid (PMap wr gm 1025 b n) ∧ Below w.heap.size w wr) (fun v _ => n - (intOf v).toNat)
  case atStart => exact ⟨0, rfl, by omega, HR2, HM2, hB2⟩
  case round =>
    clear HR2 hB2 HM2
    obtain ⟨k, rfl, hk, HO, HM, hB⟩ := hrel
    by_cases hlt : k < n
    · obtain ⟨i, hi⟩ : ∃ i, k % a = i := ⟨_, rfl⟩
      obtain ⟨j, hj⟩ : ∃ j, k % b = j := ⟨_, rfl⟩
      have hia : i < a := by rw [← hi]; exact Nat.mod_lt _ (by omega)
      have hjb : j < b := by rw [← hj]; exact Nat.mod_lt _ (by omega)
      have him : Int.tmod (k : Int) (a : Int) = (i : Int) := by rw [← hi]; rfl
      have hjm : Int.tmod (k : Int) (b : Int) = (j : Int) := by rw [← hj]; rfl
      obtain ⟨x, hx⟩ : ∃ x, i * b + j = x := ⟨_, rfl⟩
      have hxn : x < n := by rw [← hx, ← HN.out]; exact place_lt hia hjb
      have hlook := pmap_look HM.out (by omega) hjb (by omega) (show i * b + j < n by rw [hx]; exact hxn)
      rw [hx] at hlook
      have hxo : ouS a b k = x := by unfold ouS; rw [hi, hj, hx]
      obtain ⟨y, hy⟩ : ∃ y, (ints (wfl 0 n k (ouS a b)))[k]? = some y := ⟨_, List.getElem?_eq_getElem (by rw [ints_len, wfl_len]; exact hlt)⟩
      have hck : wr.cell? ⟨gc, k, none⟩ = some (.int .i64 y) := (World.ownsRow.cellAt HO.out k (by omega)).trans (zcells_at' hy)
      have hfz : wr.frozen? ⟨gc, k, none⟩ = false := World.ownsRow.frozenAt HO.out k
      obtain ⟨hO3, hG3⟩ := World.ownsRow.stored HO.out k (.int .i64 (x : Int))
      have hne : gm ≠ gc := by omega
      have HO3 : Hid (∀ m, ((wr.drewN m).setCell ⟨gc, k, none⟩ (.int .i64 (x : Int))).ownsRow gc 3 1 (.slice (some ⟨gc, 0, none⟩) n n) n (zcells (ints (wfl 0 n (k + 1) (ouS a b))))) := by
        intro m
        have e : zcells (ints (wfl 0 n (k + 1) (ouS a b))) = (zcells (ints (wfl 0 n k (ouS a b)))).set k (.int .i64 (x : Int)) := by
          rw [← wfl_set, hxo, ← zcells_set]; simp [ints, List.map_set]
        rw [e]; exact hO3
      have HM3 : Hid (∀ m, PMap ((wr.drewN m).setCell ⟨gc, k, none⟩ (.int .i64 (x : Int))) gm 1025 b n) := fun m => by
        have h1 : PMap (wr.drewN m) gm 1025 b n := HM.out
        exact h1.kept (grownBy_set _ gc k _) (by simpa using hne)
      have HB3 : Hid (∀ m, Below w.heap.size w ((wr.drewN m).setCell ⟨gc, k, none⟩ (.int .i64 (x : Int)))) := fun m => (bb hB (below_drewN wr m)).setCell (p := ⟨gc, k, none⟩) HGC.out _
      clear hO3 hG3 HO HM hy hi hj hx hxo
      go_wp2
      refine wp_region_tail_lit 12 (by kernel_rfl) (by kernel_rfl) ?_
      simp only [List.take_succ_cons, List.take_zero, List.drop_succ_cons, List.drop_zero]
      repeat (go_big_quiet_step (fail))
      refine wpQuiet_nil ?_
      rintro _ ⟨n9, rfl⟩
      clear hlook
      all_goals go_wp2
      all_goals go_roundw
      case rel => exact ⟨k + 1, by go_num, by omega, HO3.out _, HM3.out _, HB3.out _⟩
      case measure => simp [intOf]; omega
    · obtain rfl : k = n := by omega
      have HO4 := HO.out
      rw [wfl_all] at HO4
      have hil : (ints (ouL a b)).length = k := by rw [ints_len, ouL_len]; exact HN.out
      have hO5 : wr.ownsRow gc 3 1 (.slice (some ⟨gc, 0, none⟩) k k) (ints (ouL a b)).length (zcells (ints (ouL a b))) := by
        rw [hil]
        unfold ouL
        rw [HN.out]
        exact HO4
      obtain ⟨A1, C1, hv, hz⟩ := own_ints hO5 (ouL_lt HT.out)
      rw [hil] at hv
      simp only [Value.slice.injEq, true_and] at hv
      obtain ⟨rfl, rfl⟩ := hv
      have HZ1 : Hid (ZAt wr (some ⟨gc, 0, none⟩) k (ints (ouL a b))) := hz
      have HIL : Hid ((ints (ouL a b)).length = k) := hil
      clear HO HO4 hO5 hz HM hil
      go_wp2
      go_ret
      exact ⟨_, _, by rw [HIL.out]; rfl, HZ1.out, hB⟩
end Go.Proofs.YtpjfapibjihbbaaGreatDoor

/-
  What modular.Gcd and Coprime, coprime's Fits and isTable, the document's Fits and Table answer. No condition.
-/
import Derived.Test.YtpjfapibjihbbaaCp0
namespace Go.Proofs.Ytpjfapibjihbbaa
set_option linter.unusedVariables false
open Go.RowKit

theorem gcd_step (a b : Nat) : Nat.gcd b (a % b) = Nat.gcd a b := by
  rw [Nat.gcd_comm b, ← Nat.gcd_rec, Nat.gcd_comm]
set_option maxHeartbeats 1000000 in
/-- The greatest number that divides both. -/
theorem gcd_any (a b : Nat) (ha : a < 18446744073709551616) (hb : b < 18446744073709551616) :
    Ans 15 #[.int .u64 a, .int .u64 b] (.int .u64 ((Nat.gcd a b : Nat) : Int)) := by
  intro w
  go_enter Try.func15, Try.ntmps15
  go_wp2
  go_loopw [0, 1] (fun x y W => ∃ c d n : Nat, x = .int .u64 c ∧ y = .int .u64 d ∧ c < 18446744073709551616 ∧ d < 18446744073709551616 ∧ Hid (Nat.gcd c d = Nat.gcd a b) ∧ W = w.drewN n) (fun _ y _ => (intOf y).toNat)
  case atStart => exact ⟨a, b, 0, rfl, rfl, ha, hb, rfl, rfl⟩
  case round =>
    obtain ⟨c, d, n, rfl, rfl, hc, hd, HI, HW⟩ := hrel
    by_cases h0 : 0 < d
    · have h1 : ((d : Int) == 0) = false := by simp; omega
      have hlt := Nat.mod_lt c h0
      go_wp2
      go_region
      go_wp2
      go_roundw
      case rel => exact ⟨d, c % d, n + 1, rfl, by go_num, hd, by omega, (gcd_step c d).trans HI.out, rfl⟩
      case measure => simp [intOf]; omega
    · obtain rfl : d = 0 := by omega
      have HE : Hid (c = Nat.gcd a b) := by
        have h := HI.out
        rw [Nat.gcd_zero_right] at h
        exact h
      clear HI
      go_wp2
      go_ret
      exact ⟨ret_int (by rw [HE.out]), n, rfl⟩
theorem coprime_walk (a b : Int) (g : Int) (HG : Ans 15 #[.int .u64 a, .int .u64 b] (.int .u64 g)) : Ans 12 #[.int .u64 a, .int .u64 b] (.bool (g == 1)) := by
  intro w
  go_enter Try.func12, Try.ntmps12
  go_wp2_with (go_at_call 15; with_reducible refine Ans.use HG _ fun n2 => ?_)
  go_ret
  exact ⟨rfl, _, rfl⟩
theorem coprime_any (a b : Nat) (ha : a < 18446744073709551616) (hb : b < 18446744073709551616) : Ans 12 #[.int .u64 a, .int .u64 b] (.bool (Nat.gcd a b == 1)) := by
  refine (coprime_walk a b _ (gcd_any a b ha hb)).to ?_
  congr 1
  rw [Bool.eq_iff_iff]
  simp
  omega

/-! ### Fits -/
theorem cfit_one (n a : Int) (h : ¬ 1 < a) : Ans 6 #[.int .i64 n, .int .i64 a] (.bool false) := by
  intro w
  go_enter Try.func6, Try.ntmps6
  go_wp2
  go_ret
  exact ⟨rfl, 0, rfl⟩
theorem cfit_two (n a : Int) (h : 1 < a) (h2 : ¬ a < n) : Ans 6 #[.int .i64 n, .int .i64 a] (.bool false) := by
  intro w
  go_enter Try.func6, Try.ntmps6
  go_wp2
  go_ret
  exact ⟨rfl, 0, rfl⟩
theorem cfit_three (n a : Nat) (r : Nat) (h : (1 : Int) < (a : Int)) (h2 : (a : Int) < (n : Int)) (hm : Int.tmod (n : Int) (a : Int) = (r : Int)) (h3 : ¬ (r : Int) = 0) (ha : ¬ (a : Int) = 0) : Ans 6 #[.int .i64 (n : Int), .int .i64 (a : Int)] (.bool false) := by
  intro w
  have h4 : ((r : Int) == 0) = false := by simp; omega
  go_enter Try.func6, Try.ntmps6
  go_wp2
  go_ret
  exact ⟨rfl, 0, rfl⟩
theorem cfit_four (n a q : Nat) (g : Bool) (h : (1 : Int) < (a : Int)) (h2 : (a : Int) < (n : Int)) (hn : (n : Int) < 9223372036854775808) (hm : Int.tmod (n : Int) (a : Int) = 0) (hq : Int.tdiv (n : Int) (a : Int) = (q : Int)) (hql : (q : Int) ≤ (n : Int)) (ha : ¬ (a : Int) = 0)
    (HC : Ans 12 #[.int .u64 (a : Int), .int .u64 (q : Int)] (.bool g)) : Ans 6 #[.int .i64 (n : Int), .int .i64 (a : Int)] (.bool g) := by
  intro w
  go_enter Try.func6, Try.ntmps6
  go_wp2_with (go_at_call 12; with_reducible refine Ans.use HC _ fun n2 => ?_)
  go_ret
  exact ⟨rfl, _, rfl⟩
/-- Fits. -/
theorem cfit_any (n a : Int) (hn : n < 9223372036854775808) : Ans 6 #[.int .i64 n, .int .i64 a] (.bool (fitQ n a)) := by
  by_cases h : 1 < a
  · by_cases h2 : a < n
    · obtain ⟨i, rfl⟩ := Int.eq_ofNat_of_zero_le (show 0 ≤ a by omega)
      obtain ⟨m, rfl⟩ := Int.eq_ofNat_of_zero_le (show 0 ≤ n by omega)
      by_cases h3 : m % i = 0
      · rw [fit_nat (by omega) (by omega) h3]
        have hd := Nat.div_le_self m i
        exact cfit_four m i (m / i) _ h h2 hn (by rw [← Int.ofNat_tmod, h3]; rfl) rfl (by omega) (by omega) (coprime_any i (m / i) (by omega) (by omega))
      · rw [fit_no3 (by omega)]
        exact cfit_three m i (m % i) h h2 rfl (by omega) (by omega)
    · rw [fit_no2 h2]; exact cfit_two n a h h2
  · rw [fit_no1 h]; exact cfit_one n a h

/-! ### isTable -/
theorem ctab_one (a b : Int) (h : ¬ 0 < a) : Ans 13 #[.int .i64 a, .int .i64 b] (.bool false) := by
  intro w
  go_enter Try.func13, Try.ntmps13
  go_wp2
  go_ret
  exact ⟨rfl, 0, rfl⟩
theorem ctab_two (a b : Int) (h : 0 < a) (h2 : ¬ 0 < b) : Ans 13 #[.int .i64 a, .int .i64 b] (.bool false) := by
  intro w
  go_enter Try.func13, Try.ntmps13
  go_wp2
  go_ret
  exact ⟨rfl, 0, rfl⟩
theorem ctab_three (a b q : Nat) (h : (0 : Int) < (a : Int)) (h2 : (0 : Int) < (b : Int)) (hb : ¬ (b : Int) = 0) (hq : Int.tdiv 1024 (b : Int) = (q : Int)) (hqw : wrap64 (q : Int) = (q : Int)) (h3 : ¬ (a : Int) ≤ (q : Int)) : Ans 13 #[.int .i64 (a : Int), .int .i64 (b : Int)] (.bool false) := by
  intro w
  go_enter Try.func13, Try.ntmps13
  go_wp2
  go_ret
  exact ⟨rfl, 0, rfl⟩
theorem ctab_four (a b q m : Nat) (g : Bool) (h : (0 : Int) < (a : Int)) (h2 : (0 : Int) < (b : Int)) (hb : ¬ (b : Int) = 0) (hq : Int.tdiv 1024 (b : Int) = (q : Int)) (hqw : wrap64 (q : Int) = (q : Int)) (h3 : (a : Int) ≤ (q : Int)) (hm : wrap64 ((a : Int) * (b : Int)) = (m : Int))
    (HF : Ans 6 #[.int .i64 (m : Int), .int .i64 (a : Int)] (.bool g)) : Ans 13 #[.int .i64 (a : Int), .int .i64 (b : Int)] (.bool g) := by
  intro w
  go_enter Try.func13, Try.ntmps13
  go_wp2_with (go_at_call 6; with_reducible refine Ans.use HF _ fun n2 => ?_)
  go_ret
  exact ⟨rfl, _, rfl⟩
theorem mulW {a b m : Nat} (h : a * b = m) (hm : m ≤ 16777216) : wrap64 ((a : Int) * (b : Int)) = (m : Int) := by
  rw [← Int.natCast_mul, h]; exact wrN hm
/-- isTable. -/
theorem ctab_any (a b : Int) : Ans 13 #[.int .i64 a, .int .i64 b] (.bool (tabQ a b)) := by
  by_cases h : 0 < a
  · by_cases h2 : 0 < b
    · obtain ⟨i, rfl⟩ := Int.eq_ofNat_of_zero_le (show 0 ≤ a by omega)
      obtain ⟨j, rfl⟩ := Int.eq_ofNat_of_zero_le (show 0 ≤ b by omega)
      have hiff := Nat.le_div_iff_mul_le (x := i) (y := 1024) (k := j) (by omega)
      by_cases h3 : i ≤ 1024 / j
      · have hm := hiff.1 h3
        rw [tab_nat hm (by omega)]
        exact ctab_four i j (1024 / j) (i * j) _ h h2 (by omega) rfl (wrN (by have := Nat.div_le_self 1024 j; omega)) (by omega) (mulW rfl (by omega)) (cfit_any _ _ (by omega))
      · rw [tab_no3 (by rw [← Int.natCast_mul]; intro h4; exact h3 (hiff.2 (by omega)))]
        exact ctab_three i j (1024 / j) h h2 (by omega) rfl (wrN (by have := Nat.div_le_self 1024 j; omega)) (by omega)
    · rw [tab_no2 h2]; exact ctab_two a b h h2
  · rw [tab_no1 h]; exact ctab_one a b h

/-! ### The document's -/
theorem dfit_one (n a : Int) (h : ¬ 1 < a) : Ans 7 #[.int .i64 n, .int .i64 a] (.bool false) := by
  intro w
  have h1 : a ≤ 1 := by omega
  go_enter Try.func7, Try.ntmps7
  go_wp2
  go_ret
  exact ⟨rfl, 0, rfl⟩
theorem dfit_two (n a : Int) (h : 1 < a) (h2 : ¬ a < n) : Ans 7 #[.int .i64 n, .int .i64 a] (.bool false) := by
  intro w
  have h1 : ¬ a ≤ 1 := by omega
  have h3 : n ≤ a := by omega
  go_enter Try.func7, Try.ntmps7
  go_wp2
  go_ret
  exact ⟨rfl, 0, rfl⟩
theorem dfit_three (n a : Nat) (r : Nat) (h : ¬ (a : Int) ≤ 1) (h2 : ¬ (n : Int) ≤ (a : Int)) (hm : Int.tmod (n : Int) (a : Int) = (r : Int)) (h3 : ¬ (r : Int) = 0) (ha : ¬ (a : Int) = 0) : Ans 7 #[.int .i64 (n : Int), .int .i64 (a : Int)] (.bool false) := by
  intro w
  have h4 : ((r : Int) != 0) = true := by simp; omega
  go_enter Try.func7, Try.ntmps7
  go_wp2
  go_ret
  exact ⟨rfl, 0, rfl⟩
set_option maxHeartbeats 1000000 in
theorem dfit_four (n a q : Nat) (h : ¬ (a : Int) ≤ 1) (h2 : ¬ (n : Int) ≤ (a : Int)) (hal : a ≤ 16777216) (hm : Int.tmod (n : Int) (a : Int) = 0) (hq : Int.tdiv (n : Int) (a : Int) = (q : Int)) (hqw : wrap64 (q : Int) = (q : Int)) (ha : ¬ (a : Int) = 0) : Ans 7 #[.int .i64 (n : Int), .int .i64 (a : Int)] (.bool (Nat.gcd a q == 1)) := by
  intro w
  have HA : Hid (2 ≤ a) := by unfold Hid; omega
  go_enter Try.func7, Try.ntmps7
  go_wp2
  clear hm h h2
  go_loopw [5] (fun v W => ∃ d : Nat, v = .int .i64 (d : Int) ∧ 2 ≤ d ∧ d ≤ a + 1 ∧ Hid (∀ e, 2 ≤ e → e < d → ¬ (a % e = 0 ∧ q % e = 0)) ∧ W = w) (fun v _ => a + 1 - (intOf v).toNat)
  case atStart => exact ⟨2, rfl, by omega, by have := HA.out; omega, fun e h1 h2 => absurd h2 (by omega), rfl⟩
  case round =>
    obtain ⟨d, rfl, hd2, hda, HI, rfl⟩ := hrel
    by_cases hlt : d ≤ a
    · have hd0 : ¬ (d : Int) = 0 := by omega
      have hle : (d : Int) ≤ (a : Int) := by omega
      by_cases h1 : a % d = 0
      · have r1 : Int.tmod (a : Int) (d : Int) = 0 := by rw [← Int.ofNat_tmod, h1]; rfl
        by_cases h3 : q % d = 0
        · have r2 : Int.tmod (q : Int) (d : Int) = 0 := by rw [← Int.ofNat_tmod, h3]; rfl
          have HN : Hid (¬ Nat.gcd a q = 1) := not_cop (by have := HA.out; omega) hd2 h1 h3
          clear HI h1 h3
          go_wp2
          go_ret
          exact ⟨ret_b (beq_false_of_ne HN.out).symm, 0, rfl⟩
        · obtain ⟨r, hr⟩ : ∃ r, q % d = r := ⟨_, rfl⟩
          have r2 : Int.tmod (q : Int) (d : Int) = (r : Int) := by rw [← hr]; rfl
          have r3 : ((r : Int) == 0) = false := by simp; omega
          have r4 : ¬ (r : Int) = 0 := by omega
          have HI2 : Hid (∀ e, 2 ≤ e → e < d + 1 → ¬ (a % e = 0 ∧ q % e = 0)) := fun e h4 h5 h6 => by
            by_cases e1 : e = d
            · subst e1; exact h3 h6.2
            · exact HI.out e h4 (by omega) h6
          clear HI h1 h3 hr
          go_wp2
          go_roundw
          case rel => exact ⟨d + 1, by go_num, by omega, by omega, HI2, by first | rfl | trivial⟩
          case measure => simp [intOf]; omega
      · obtain ⟨r, hr⟩ : ∃ r, a % d = r := ⟨_, rfl⟩
        have r2 : Int.tmod (a : Int) (d : Int) = (r : Int) := by rw [← hr]; rfl
        have r3 : ((r : Int) == 0) = false := by simp; omega
        have r4 : ¬ (r : Int) = 0 := by omega
        have HI2 : Hid (∀ e, 2 ≤ e → e < d + 1 → ¬ (a % e = 0 ∧ q % e = 0)) := fun e h4 h5 h6 => by
          by_cases e1 : e = d
          · subst e1; exact h1 h6.1
          · exact HI.out e h4 (by omega) h6
        clear HI h1 hr
        go_wp2
        go_roundw
        case rel => exact ⟨d + 1, by go_num, by omega, by omega, HI2, by first | rfl | trivial⟩
        case measure => simp [intOf]; omega
    · have HG : Hid (Nat.gcd a q = 1) := cop_trial HA.out fun d' h4 h5 => HI.out d' h4 (by omega)
      have hle : ¬ (d : Int) ≤ (a : Int) := by omega
      clear HI
      go_wp2
      go_ret
      exact ⟨ret_b (by rw [HG.out]; rfl), 0, rfl⟩
/-- The document's Fits. -/
theorem dfit_any (n a : Int) (hn : n ≤ 16777216) : Ans 7 #[.int .i64 n, .int .i64 a] (.bool (fitQ n a)) := by
  by_cases h : 1 < a
  · by_cases h2 : a < n
    · obtain ⟨i, rfl⟩ := Int.eq_ofNat_of_zero_le (show 0 ≤ a by omega)
      obtain ⟨m, rfl⟩ := Int.eq_ofNat_of_zero_le (show 0 ≤ n by omega)
      by_cases h3 : m % i = 0
      · rw [fit_nat (by omega) (by omega) h3]
        exact dfit_four m i (m / i) (by omega) (by omega) (by omega) (by rw [← Int.ofNat_tmod, h3]; rfl) rfl (wrN (by have := Nat.div_le_self m i; omega)) (by omega)
      · rw [fit_no3 (by omega)]
        exact dfit_three m i (m % i) (by omega) (by omega) rfl (by omega) (by omega)
    · rw [fit_no2 h2]; exact dfit_two n a h h2
  · rw [fit_no1 h]; exact dfit_one n a h
theorem dtab_one (a b : Int) (h : ¬ 0 < a) : Ans 10 #[.int .i64 a, .int .i64 b] (.bool false) := by
  intro w
  go_enter Try.func10, Try.ntmps10
  go_wp2
  go_ret
  exact ⟨rfl, 0, rfl⟩
theorem dtab_two (a b : Int) (h : 0 < a) (h2 : ¬ 0 < b) : Ans 10 #[.int .i64 a, .int .i64 b] (.bool false) := by
  intro w
  go_enter Try.func10, Try.ntmps10
  go_wp2
  go_ret
  exact ⟨rfl, 0, rfl⟩
theorem dtab_wide (a b : Int) (h : 0 < a) (h2 : 0 < b) (h3 : ¬ a ≤ 1024) : Ans 10 #[.int .i64 a, .int .i64 b] (.bool false) := by
  intro w
  go_enter Try.func10, Try.ntmps10
  go_wp2
  go_ret
  exact ⟨rfl, 0, rfl⟩
theorem dtab_long (a b : Int) (h : 0 < a) (h2 : 0 < b) (h3 : a ≤ 1024) (h4 : ¬ b ≤ 1024) : Ans 10 #[.int .i64 a, .int .i64 b] (.bool false) := by
  intro w
  go_enter Try.func10, Try.ntmps10
  go_wp2
  go_ret
  exact ⟨rfl, 0, rfl⟩
theorem dtab_three (a b m : Nat) (h : (0 : Int) < (a : Int)) (h2 : (0 : Int) < (b : Int)) (h3 : (a : Int) ≤ 1024) (h4 : (b : Int) ≤ 1024) (hm : wrap64 ((a : Int) * (b : Int)) = (m : Int)) (h5 : ¬ (m : Int) ≤ 1024) : Ans 10 #[.int .i64 (a : Int), .int .i64 (b : Int)] (.bool false) := by
  intro w
  go_enter Try.func10, Try.ntmps10
  go_wp2
  go_ret
  exact ⟨rfl, 0, rfl⟩
theorem dtab_four (a b m : Nat) (g : Bool) (h : (0 : Int) < (a : Int)) (h2 : (0 : Int) < (b : Int)) (h3 : (a : Int) ≤ 1024) (h4 : (b : Int) ≤ 1024) (hm : wrap64 ((a : Int) * (b : Int)) = (m : Int)) (h5 : (m : Int) ≤ 1024)
    (HF : Ans 7 #[.int .i64 (m : Int), .int .i64 (a : Int)] (.bool g)) : Ans 10 #[.int .i64 (a : Int), .int .i64 (b : Int)] (.bool g) := by
  intro w
  go_enter Try.func10, Try.ntmps10
  go_wp2_with (go_at_call 7; with_reducible refine Ans.use HF _ fun n2 => ?_)
  go_ret
  exact ⟨rfl, _, rfl⟩
/-- The document's Table. -/
theorem dtab_any (a b : Int) : Ans 10 #[.int .i64 a, .int .i64 b] (.bool (tabQ a b)) := by
  by_cases h : 0 < a
  · by_cases h2 : 0 < b
    · obtain ⟨i, rfl⟩ := Int.eq_ofNat_of_zero_le (show 0 ≤ a by omega)
      obtain ⟨j, rfl⟩ := Int.eq_ofNat_of_zero_le (show 0 ≤ b by omega)
      have g1 := Nat.mul_le_mul_left i (show 1 ≤ j by omega)
      have g2 := Nat.mul_le_mul_right j (show 1 ≤ i by omega)
      by_cases h3 : i ≤ 1024
      · by_cases h4 : j ≤ 1024
        · have g3 := Nat.mul_le_mul h3 h4
          by_cases h5 : i * j ≤ 1024
          · rw [tab_nat h5 (by omega)]
            exact dtab_four i j (i * j) _ h h2 (by omega) (by omega) (mulW rfl (by omega)) (by omega) (dfit_any _ _ (by omega))
          · rw [tab_no3 (by rw [← Int.natCast_mul]; omega)]
            exact dtab_three i j (i * j) h h2 (by omega) (by omega) (mulW rfl (by omega)) (by omega)
        · rw [tab_no3 (by rw [← Int.natCast_mul]; omega)]
          exact dtab_long _ _ h h2 (by omega) (by omega)
      · rw [tab_no3 (by rw [← Int.natCast_mul]; omega)]
        exact dtab_wide _ _ h h2 (by omega)
    · rw [tab_no2 h2]; exact dtab_two a b h h2
  · rw [tab_no1 h]; exact dtab_one a b h
end Go.Proofs.Ytpjfapibjihbbaa

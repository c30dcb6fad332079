/-
  Contracts of the document's own answers of layer 2: sums, products and powers. No condition but that arguments are words, and a modulus is not 0.
-/
import Derived.Test.YtafmmkhegkceiaaBase
namespace Go.Proofs.Ytafmmkhegkceiaa
set_option linter.unusedVariables false
open Go.RowKit

/-! ### The document's sums -/
theorem radd_walkA (a b m x y : Int) (ha0 : 0 ≤ a) (ha : a < 18446744073709551616) (hb0 : 0 ≤ b) (hb : b < 18446744073709551616) (hm0 : 0 < m) (hm : m < 18446744073709551616) (hx : a % m = x) (hy : b % m = y) (x0 : 0 ≤ x) (x1 : x < m) (y0 : 0 ≤ y) (y1 : y < m) (h : m - y ≤ x) :
    Ans 41 #[.int .u64 a, .int .u64 b, .int .u64 m] (.int .u64 (x - (m - y))) := by
  intro w
  have hm1 : (m == 0) = false := by simp; omega
  go_enter Try.func41, Try.ntmps41
  go_wp2
  go_ret
  exact ⟨rfl, 0, rfl⟩
theorem radd_walkB (a b m x y : Int) (ha0 : 0 ≤ a) (ha : a < 18446744073709551616) (hb0 : 0 ≤ b) (hb : b < 18446744073709551616) (hm0 : 0 < m) (hm : m < 18446744073709551616) (hx : a % m = x) (hy : b % m = y) (x0 : 0 ≤ x) (x1 : x < m) (y0 : 0 ≤ y) (y1 : y < m) (h : ¬ m - y ≤ x) :
    Ans 41 #[.int .u64 a, .int .u64 b, .int .u64 m] (.int .u64 (x + y)) := by
  intro w
  have hm1 : (m == 0) = false := by simp; omega
  go_enter Try.func41, Try.ntmps41
  go_wp2
  go_ret
  exact ⟨rfl, 0, rfl⟩
/-- The document's sum. -/
theorem radd_any (a b m : Nat) (ha : a < 18446744073709551616) (hb : b < 18446744073709551616) (hm : m < 18446744073709551616) (hm0 : 0 < m) :
    Ans 41 #[.int .u64 a, .int .u64 b, .int .u64 m] (.int .u64 (((a + b) % m : Nat) : Int)) := by
  have h1 := Nat.mod_lt a hm0
  have h2 := Nat.mod_lt b hm0
  have e : (a + b) % m = if m - b % m ≤ a % m then a % m - (m - b % m) else a % m + b % m := by
    rw [Nat.add_mod]
    split
    · rw [Nat.mod_eq_sub_mod (by omega), Nat.mod_eq_of_lt (by omega)]; omega
    · rw [Nat.mod_eq_of_lt (by omega)]
  by_cases h : m - b % m ≤ a % m
  · refine ans_int (radd_walkA a b m _ _ (by omega) (by omega) (by omega) (by omega) (by omega) (by omega) rfl rfl (by omega) (by omega) (by omega) (by omega) (by omega)) ?_
    rw [e, if_pos h]; omega
  · refine ans_int (radd_walkB a b m _ _ (by omega) (by omega) (by omega) (by omega) (by omega) (by omega) rfl rfl (by omega) (by omega) (by omega) (by omega) (by omega)) ?_
    rw [e, if_neg h]; omega

/-! ### The document's products -/
theorem rmul_step_odd (o x y m : Nat) (h : y % 2 = 1) : ((o + x) % m + (x + x) % m * (y / 2)) % m = (o + x * y) % m := by
  conv => rhs; rw [show y = 2 * (y / 2) + 1 by omega]
  rw [Nat.add_mod, Nat.mod_mod, Nat.mul_mod, Nat.mod_mod, ← Nat.mul_mod, ← Nat.add_mod]
  congr 1
  rw [Nat.mul_add, ← Nat.mul_assoc, Nat.mul_two, Nat.mul_one]; omega
theorem rmul_step_even (o x y m : Nat) (h : ¬ y % 2 = 1) : (o + (x + x) % m * (y / 2)) % m = (o + x * y) % m := by
  conv => rhs; rw [show y = 2 * (y / 2) by omega]
  rw [Nat.add_mod, Nat.mul_mod, Nat.mod_mod, ← Nat.mul_mod, ← Nat.add_mod, ← Nat.mul_assoc, Nat.mul_two]

set_option maxHeartbeats 1000000 in
/-- The document's product. -/
theorem rmul_any (a b m : Nat) (ha : a < 18446744073709551616) (hb : b < 18446744073709551616) (hm : m < 18446744073709551616) (hm0 : 0 < m) :
    Ans 28 #[.int .u64 a, .int .u64 b, .int .u64 m] (.int .u64 ((a * b % m : Nat) : Int)) := by
  intro w
  have hm1 : ((m : Int) == 0) = false := by simp; omega
  have hlt := Nat.mod_lt a hm0
  go_enter Try.func28, Try.ntmps28
  go_wp2
  go_loopw [0, 1, 7] (fun x y z W => ∃ c d o n : Nat, x = .int .u64 c ∧ y = .int .u64 d ∧ z = .int .u64 o ∧ c < m ∧ d < 18446744073709551616 ∧ o < m ∧ Hid ((o + c * d) % m = a * b % m) ∧ W = w.drewN n) (fun _ y _ _ => (intOf y).toNat)
  case atStart => exact ⟨a % m, b, 0, 0, by go_num, rfl, rfl, hlt, hb, hm0, by unfold Hid; rw [Nat.zero_add, Nat.mod_mul_mod], rfl⟩
  case round =>
    obtain ⟨c, d, o, n, rfl, rfl, rfl, hc, hd, ho, HI, HW⟩ := hrel
    by_cases h0 : 0 < d
    · obtain ⟨t, ht⟩ : ∃ t, (c + c) % m = t := ⟨_, rfl⟩
      have HQ : Ans 41 #[.int .u64 c, .int .u64 c, .int .u64 m] (.int .u64 (t : Int)) := ht ▸ radd_any c c m (by omega) (by omega) hm hm0
      have htl : t < m := ht ▸ Nat.mod_lt _ hm0
      by_cases h1 : d % 2 = 1
      · have h2 : ((d : Int) % 2 == 1) = true := by simp; omega
        have HS := rmul_step_odd o c d m h1
        obtain ⟨q, hq⟩ : ∃ q, (o + c) % m = q := ⟨_, rfl⟩
        have HM : Ans 41 #[.int .u64 o, .int .u64 c, .int .u64 m] (.int .u64 (q : Int)) := hq ▸ radd_any o c m (by omega) (by omega) hm hm0
        rw [hq, ht] at HS
        replace HS : Hid ((q + t * (d / 2)) % m = a * b % m) := HS.trans HI.out
        have hql : q < m := hq ▸ Nat.mod_lt _ hm0
        clear hq ht
        go_wp2_with (first | (go_at_call 41; with_reducible refine Ans.use HM _ fun n1 => ?_) | (go_at_call 41; with_reducible refine Ans.use HQ _ fun n2 => ?_))
        go_roundw
        case rel => exact ⟨t, d / 2, q, n + n1 + n2, rfl, by go_num, rfl, htl, by omega, hql, HS, rfl⟩
        case measure => simp [intOf]; omega
      · have h2 : ((d : Int) % 2 == 1) = false := by simp; omega
        have HS := rmul_step_even o c d m h1
        rw [ht] at HS
        replace HS : Hid ((o + t * (d / 2)) % m = a * b % m) := HS.trans HI.out
        clear ht
        go_wp2_with (go_at_call 41; with_reducible refine Ans.use HQ _ fun n2 => ?_)
        go_roundw
        case rel => exact ⟨t, d / 2, o, n + n2, rfl, by go_num, rfl, htl, by omega, ho, HS, rfl⟩
        case measure => simp [intOf]; omega
    · obtain rfl : d = 0 := by omega
      have HE : Hid (o = a * b % m) := by
        have h := HI.out
        rw [Nat.mul_zero, Nat.add_zero, Nat.mod_eq_of_lt ho] at h
        exact h
      clear HI
      go_wp2
      go_ret
      exact ⟨ret_int (by rw [HE.out]), n, rfl⟩

/-! ### The document's powers -/
theorem rpow_walk0 (a m : Int) (hm0 : 0 < m) (hm : m < 18446744073709551616) : Ans 16 #[.int .u64 a, .int .u64 0, .int .u64 m] (.int .u64 (1 % m)) := by
  intro w
  have hm1 : (m == 0) = false := by simp; omega
  go_enter Try.func16, Try.ntmps16
  go_wp2
  go_ret
  exact ⟨rfl, 0, rfl⟩
theorem rpow_walkO (a e m h s r : Int) (he0 : 0 < e) (he : e < 18446744073709551616) (hodd : (e % 2 == 1) = true)
    (HP : Ans 16 #[.int .u64 a, .int .u64 (e / 2), .int .u64 m] (.int .u64 h))
    (HM : Ans 28 #[.int .u64 h, .int .u64 h, .int .u64 m] (.int .u64 s))
    (HQ : Ans 28 #[.int .u64 s, .int .u64 a, .int .u64 m] (.int .u64 r)) : Ans 16 #[.int .u64 a, .int .u64 e, .int .u64 m] (.int .u64 r) := by
  intro w
  have he1 : (e == 0) = false := by simp; omega
  go_enter Try.func16, Try.ntmps16
  go_wp2_with (first | (go_at_call 16; with_reducible refine Ans.use HP _ fun n1 => ?_) | (go_at_call 28; with_reducible refine Ans.use HM _ fun n2 => ?_) | (go_at_call 28; with_reducible refine Ans.use HQ _ fun n3 => ?_))
  go_ret
  exact ⟨rfl, _, rfl⟩
theorem rpow_walkE (a e m h s : Int) (he0 : 0 < e) (he : e < 18446744073709551616) (hodd : (e % 2 == 1) = false)
    (HP : Ans 16 #[.int .u64 a, .int .u64 (e / 2), .int .u64 m] (.int .u64 h))
    (HM : Ans 28 #[.int .u64 h, .int .u64 h, .int .u64 m] (.int .u64 s)) : Ans 16 #[.int .u64 a, .int .u64 e, .int .u64 m] (.int .u64 s) := by
  intro w
  have he1 : (e == 0) = false := by simp; omega
  go_enter Try.func16, Try.ntmps16
  go_wp2_with (first | (go_at_call 16; with_reducible refine Ans.use HP _ fun n1 => ?_) | (go_at_call 28; with_reducible refine Ans.use HM _ fun n2 => ?_))
  go_ret
  exact ⟨rfl, _, rfl⟩
theorem rpow_odd (a e m : Nat) (h : e % 2 = 1) : ((a ^ (e / 2) % m) * (a ^ (e / 2) % m) % m) * a % m = a ^ e % m := by
  conv => rhs; rw [show e = e / 2 + e / 2 + 1 by omega]
  rw [Nat.pow_succ, Nat.pow_add, ← Nat.mul_mod, Nat.mod_mul_mod]
theorem rpow_even (a e m : Nat) (h : ¬ e % 2 = 1) : (a ^ (e / 2) % m) * (a ^ (e / 2) % m) % m = a ^ e % m := by
  conv => rhs; rw [show e = e / 2 + e / 2 by omega]
  rw [Nat.pow_add, ← Nat.mul_mod]
/-- The document's power. -/
theorem rpow_any (a m : Nat) (ha : a < 18446744073709551616) (hm : m < 18446744073709551616) (hm0 : 0 < m) : ∀ (e : Nat), e < 18446744073709551616 →
    Ans 16 #[.int .u64 a, .int .u64 e, .int .u64 m] (.int .u64 ((a ^ e % m : Nat) : Int)) := by
  intro e
  induction e using Nat.strongRecOn with
  | ind e ih =>
    intro he
    by_cases h0 : e = 0
    · subst h0
      exact ans_int (rpow_walk0 a m (by omega) (by omega)) (by simp)
    · have HP := ih (e / 2) (by omega) (by omega)
      have l1 := Nat.mod_lt (a ^ (e / 2)) hm0
      have l2 := Nat.mod_lt ((a ^ (e / 2) % m) * (a ^ (e / 2) % m)) hm0
      have HM := rmul_any (a ^ (e / 2) % m) (a ^ (e / 2) % m) m (by omega) (by omega) hm hm0
      have HP' : Ans 16 #[.int .u64 a, .int .u64 ((e : Int) / 2), .int .u64 m] (.int .u64 ((a ^ (e / 2) % m : Nat) : Int)) := by
        rw [show (e : Int) / 2 = ((e / 2 : Nat) : Int) by omega]; exact HP
      by_cases h1 : e % 2 = 1
      · have HQ := rmul_any ((a ^ (e / 2) % m) * (a ^ (e / 2) % m) % m) a m (by omega) ha hm hm0
        exact ans_int (rpow_walkO a e m _ _ _ (by omega) (by omega) (by simp; omega) HP' HM HQ) (by rw [rpow_odd a e m h1])
      · exact ans_int (rpow_walkE a e m _ _ (by omega) (by omega) (by simp; omega) HP' HM) (by rw [rpow_even a e m h1])

end Go.Proofs.Ytafmmkhegkceiaa

/-
  Contracts of the document's own answers of layer 3: which moduli can be, halves, doubles. No condition but that arguments are words (of Half and Down: a rest of an odd modulus).
-/
import Derived.Test.YthlaedebgiccgaaDoc02
import Derived.Test.YthlaedebgiccgaaMontM
namespace Go.Proofs.Ythlaedebgiccgaa
set_option linter.unusedVariables false
open Go.RowKit

/-- What can be a modulus. -/
def Gd (m : Nat) : Prop := m % 2 = 1 ∧ 1 < m ∧ m < 9223372036854775808
theorem good_yes (m : Int) (h0 : 0 ≤ m) (h : (m % 2 == 1) = true) (h1 : 1 < m) (h2 : m < 9223372036854775808) : Ans 10 #[.int .u64 m] (.bool true) := by
  intro w
  go_enter Try.func10, Try.ntmps10
  go_wp2
  go_ret
  exact ⟨by simp, 0, rfl⟩
theorem good_no0 (m : Int) (h0 : 0 ≤ m) (h3 : m < 18446744073709551616) (h : (m % 2 == 1) = false) : Ans 10 #[.int .u64 m] (.bool false) := by
  intro w
  go_enter Try.func10, Try.ntmps10
  go_wp2
  go_ret
  exact ⟨by simp, 0, rfl⟩
theorem good_no1 (m : Int) (h0 : 0 ≤ m) (h3 : m < 18446744073709551616) (h : (m % 2 == 1) = true) (h1 : ¬ 1 < m) : Ans 10 #[.int .u64 m] (.bool false) := by
  intro w
  go_enter Try.func10, Try.ntmps10
  go_wp2
  go_ret
  exact ⟨by simp, 0, rfl⟩
theorem good_no2 (m : Int) (h0 : 0 ≤ m) (h3 : m < 18446744073709551616) (h : (m % 2 == 1) = true) (h1 : 1 < m) (h2 : ¬ m < 9223372036854775808) : Ans 10 #[.int .u64 m] (.bool false) := by
  intro w
  go_enter Try.func10, Try.ntmps10
  go_wp2
  go_ret
  exact ⟨by simp, 0, rfl⟩
theorem good_any (m : Nat) (h : Gd m) : Ans 10 #[.int .u64 m] (.bool true) :=
  good_yes m (by omega) (by have := h.1; simp; omega) (by have := h.2.1; omega) (by have := h.2.2; omega)
theorem bad_any (m : Nat) (hm : m < 18446744073709551616) (h : ¬ Gd m) : Ans 10 #[.int .u64 m] (.bool false) := by
  unfold Gd at h
  by_cases a : m % 2 = 1
  · have a' : ((m : Int) % 2 == 1) = true := by simp; omega
    by_cases b : 1 < m
    · exact good_no2 m (by omega) (by omega) a' (by omega) (by omega)
    · exact good_no1 m (by omega) (by omega) a' (by omega)
  · exact good_no0 m (by omega) (by omega) (by simp; omega)

theorem half_walk0 (a m : Int) (h0 : 0 ≤ a) (h1 : a < 18446744073709551616) (h : (a % 2 == 0) = true) : Ans 33 #[.int .u64 a, .int .u64 m] (.int .u64 (a / 2)) := by
  intro w
  go_enter Try.func33, Try.ntmps33
  go_wp2
  go_ret
  exact ⟨rfl, 0, rfl⟩
theorem half_walk1 (a m : Int) (h0 : 0 ≤ a) (h1 : a < 9223372036854775808) (m0 : 0 ≤ m) (m1 : m < 9223372036854775808) (h : (a % 2 == 0) = false) : Ans 33 #[.int .u64 a, .int .u64 m] (.int .u64 (a / 2 + m / 2 + 1)) := by
  intro w
  go_enter Try.func33, Try.ntmps33
  go_wp2
  go_ret
  exact ⟨rfl, 0, rfl⟩
theorem half_any (a m : Nat) (h : Gd m) (ha : a < m) : Ans 33 #[.int .u64 a, .int .u64 m] (.int .u64 ((a * ((m + 1) / 2) % m : Nat) : Int)) := by
  obtain ⟨h1, h2, h3⟩ := h
  rw [half_dn a m h1 ha]
  split
  · next e => exact ans_int (half_walk0 a m (by omega) (by omega) (by simp; omega)) (by omega)
  · next e => exact ans_int (half_walk1 a m (by omega) (by omega) (by omega) (by omega) (by simp; omega)) (by omega)

set_option maxHeartbeats 1000000 in
/-- Down. -/
theorem down_any (a m : Nat) (h : Gd m) (ha : a < m) : Ans 21 #[.int .u64 a, .int .u64 m] (.int .u64 ((dn a m : Nat) : Int)) := by
  intro w
  have h2 := h.2.2
  go_enter Try.func21, Try.ntmps21
  go_wp2
  go_loopw [0, 5] (fun x y W => ∃ c k j : Nat, x = .int .u64 c ∧ y = .int .i64 k ∧ k ≤ 64 ∧ c < m ∧ Hid (c = a * ((m + 1) / 2) ^ k % m) ∧ W = w.drewN j) (fun _ y _ => 64 - (intOf y).toNat)
  case atStart => exact ⟨a, 0, 0, rfl, rfl, by omega, ha, by unfold Hid; rw [Nat.pow_zero, Nat.mul_one, Nat.mod_eq_of_lt ha], rfl⟩
  case round =>
    obtain ⟨c, k, j, rfl, rfl, hk, hc, HI, HW⟩ := hrel
    by_cases hlt : k < 64
    · obtain ⟨d, hd⟩ : ∃ d, c * ((m + 1) / 2) % m = d := ⟨_, rfl⟩
      have HQ := half_any c m h hc
      rw [hd] at HQ
      have hdl : d < m := hd ▸ Nat.mod_lt _ (by omega)
      have HS : Hid (d = a * ((m + 1) / 2) ^ (k + 1) % m) := by unfold Hid; rw [← hd, HI.out, dn_step]
      clear hd HI
      go_wp2_with (go_at_call 33; with_reducible refine Ans.use HQ _ fun n2 => ?_)
      go_roundw
      case rel => exact ⟨d, k + 1, j + n2, rfl, by go_num, by omega, hdl, HS, rfl⟩
      case measure => simp [intOf]; omega
    · obtain rfl : k = 64 := by omega
      go_wp2
      go_ret
      exact ⟨ret_int (by rw [HI.out]; rfl), j, rfl⟩
set_option maxHeartbeats 1000000 in
/-- Up. -/
theorem up_any (a m : Nat) (hm0 : 0 < m) (hm : m < 18446744073709551616) (ha : a < 18446744073709551616) : Ans 20 #[.int .u64 a, .int .u64 m] (.int .u64 ((up a m : Nat) : Int)) := by
  intro w
  have hm1 : ((m : Int) == 0) = false := by simp; omega
  have hlt := Nat.mod_lt a hm0
  go_enter Try.func20, Try.ntmps20
  go_wp2
  go_loopw [0, 5] (fun x y W => ∃ c k j : Nat, x = .int .u64 c ∧ y = .int .i64 k ∧ k ≤ 64 ∧ c < m ∧ Hid (c = a * 2 ^ k % m) ∧ W = w.drewN j) (fun _ y _ => 64 - (intOf y).toNat)
  case atStart => exact ⟨a % m, 0, 0, by go_num, rfl, by omega, hlt, by unfold Hid; rw [Nat.pow_zero, Nat.mul_one], rfl⟩
  case round =>
    obtain ⟨c, k, j, rfl, rfl, hk, hc, HI, HW⟩ := hrel
    by_cases hlt : k < 64
    · obtain ⟨d, hd⟩ : ∃ d, (c + c) % m = d := ⟨_, rfl⟩
      have HQ := radd_any c c m (by omega) (by omega) hm hm0
      rw [hd] at HQ
      have hdl : d < m := hd ▸ Nat.mod_lt _ (by omega)
      have HS : Hid (d = a * 2 ^ (k + 1) % m) := by unfold Hid; rw [← hd, HI.out, up_step]
      clear hd HI
      go_wp2_with (go_at_call 23; with_reducible refine Ans.use HQ _ fun n2 => ?_)
      go_roundw
      case rel => exact ⟨d, k + 1, j + n2, rfl, by go_num, by omega, hdl, HS, rfl⟩
      case measure => simp [intOf]; omega
    · obtain rfl : k = 64 := by omega
      have HU : Hid (c = up a m) := by
        unfold Hid up; rw [HI.out, show (2 : Nat) ^ 64 = 18446744073709551616 by decide]
      clear HI
      go_wp2
      go_ret
      exact ⟨ret_int (by rw [HU.out]), j, rfl⟩
end Go.Proofs.Ythlaedebgiccgaa

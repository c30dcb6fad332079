/-
  Contracts of package mont's plain functions: once, doubled, against. No condition but that arguments are words, and a modulus below 2^63.
-/
import Derived.Test.YtafmmkhegkceiaaBMul
import Derived.Test.YtafmmkhegkceiaaBAdd
import Derived.Test.YtafmmkhegkceiaaBLen
import Derived.Test.YtafmmkhegkceiaaMontM
namespace Go.Proofs.Ytafmmkhegkceiaa
set_option linter.unusedVariables false
open Go.RowKit

theorem once_walk0 (a m : Int) (h0 : 0 ≤ m) (h : m ≤ a) (ha : a < 18446744073709551616) : Ans 73 #[.int .u64 a, .int .u64 m] (.int .u64 (a - m)) := by
  intro w
  go_enter Try.func73, Try.ntmps73
  go_wp2
  go_ret
  exact ⟨rfl, 0, rfl⟩
theorem once_walk1 (a m : Int) (h0 : 0 ≤ a) (h : ¬ m ≤ a) (ha : m < 18446744073709551616) : Ans 73 #[.int .u64 a, .int .u64 m] (.int .u64 a) := by
  intro w
  go_enter Try.func73, Try.ntmps73
  go_wp2
  go_ret
  exact ⟨rfl, 0, rfl⟩
/-- once: the rest of a number below 2 m. -/
theorem once_any (a m : Nat) (ha : a < 18446744073709551616) (hm : m < 18446744073709551616) (h : a < 2 * m) : Ans 73 #[.int .u64 a, .int .u64 m] (.int .u64 ((a % m : Nat) : Int)) := by
  by_cases hle : m ≤ a
  · refine ans_int (once_walk0 a m (by omega) (by omega) (by omega)) ?_
    rw [Nat.mod_eq_sub_mod hle, Nat.mod_eq_of_lt (by omega)]; omega
  · refine ans_int (once_walk1 a m (by omega) (by omega) (by omega)) ?_
    rw [Nat.mod_eq_of_lt (by omega)]
theorem once_if (a m : Nat) (ha : a < 18446744073709551616) (hm : m < 18446744073709551616) : Ans 73 #[.int .u64 a, .int .u64 m] (.int .u64 ((if m ≤ a then a - m else a : Nat) : Int)) := by
  split
  · next h => exact ans_int (once_walk0 a m (by omega) (by omega) (by omega)) (by omega)
  · next h => exact once_walk1 a m (by omega) (by omega) (by omega)

set_option maxHeartbeats 1000000 in
/-- doubled: so many doubles. -/
theorem doubled_any (a m n : Nat) (ha : a < m) (hm : m < 9223372036854775808) (hn : n < 1000) : Ans 52 #[.int .u64 a, .int .u64 m, .int .i64 n] (.int .u64 ((a * 2 ^ n % m : Nat) : Int)) := by
  intro w
  go_enter Try.func52, Try.ntmps52
  go_wp2
  go_loopw [0, 8] (fun x y W => ∃ c k j : Nat, x = .int .u64 c ∧ y = .int .i64 k ∧ k ≤ n ∧ c < m ∧ Hid (c = a * 2 ^ k % m) ∧ W = w.drewN j) (fun _ y _ => n - (intOf y).toNat)
  case atStart => exact ⟨a, 0, 0, rfl, rfl, by omega, ha, by unfold Hid; rw [Nat.pow_zero, Nat.mul_one, Nat.mod_eq_of_lt ha], rfl⟩
  case round =>
    obtain ⟨c, k, j, rfl, rfl, hk, hc, HI, HW⟩ := hrel
    by_cases hlt : k < n
    · obtain ⟨d, hd⟩ : ∃ d, (c + c) % m = d := ⟨_, rfl⟩
      have HQ : Ans 73 #[.int .u64 ((c : Int) + c), .int .u64 m] (.int .u64 (d : Int)) := by
        have := once_any (c + c) m (by omega) (by omega) (by omega)
        rw [hd] at this; rw [Int.natCast_add] at this; exact this
      have hdl : d < m := hd ▸ Nat.mod_lt _ (by omega)
      have HS : Hid (d = a * 2 ^ (k + 1) % m) := by unfold Hid; rw [← hd, HI.out, up_step]
      clear hd HI
      go_wp2_with (go_at_call 73; with_reducible refine Ans.use HQ _ fun n2 => ?_)
      go_roundw
      case rel => exact ⟨d, k + 1, j + n2, rfl, by go_num, by omega, hdl, HS, rfl⟩
      case measure => simp [intOf]; omega
    · obtain rfl : k = n := by omega
      go_wp2
      go_ret
      exact ⟨ret_int (by rw [HI.out]), j, rfl⟩

/-- Newton's numbers. -/
def nwt (m : Nat) : Nat → Nat
  | 0 => m
  | k + 1 => ((nwt m k : Int) * (2 - m * nwt m k) % 18446744073709551616).toNat
theorem nwt_lt (m k : Nat) (h : m < 18446744073709551616) : nwt m k < 18446744073709551616 := by
  cases k with
  | zero => exact h
  | succ k => unfold nwt; omega
theorem nwt_int (m k : Nat) : ((nwt m (k + 1) : Nat) : Int) = (nwt m k : Int) * (2 - m * nwt m k) % 18446744073709551616 := by
  rw [nwt]; omega
theorem nwt_right (m : Nat) (ho : m % 2 = 1) : ∀ k, k ≤ 5 → right k ∣ 1 - (m : Int) * nwt m k
  | 0, _ => newton_start m (by omega)
  | k + 1, h => by rw [nwt_int]; exact newton_at m _ k (nwt_right m ho k (by omega)) (by omega)

theorem newton_wrap (c m : Int) : IntKind.u64.wrap (c * IntKind.u64.wrap (2 - IntKind.u64.wrap (m * c))) = c * (2 - m * c) % 18446744073709551616 := by
  rw [IntKind.wrap_u64, IntKind.wrap_u64, IntKind.wrap_u64]
  generalize m * c = d
  rw [Int.mul_emod, Int.emod_emod_of_dvd _ (Int.dvd_refl _), Int.sub_emod, Int.emod_emod_of_dvd _ (Int.dvd_refl _), ← Int.sub_emod, ← Int.mul_emod]
theorem neg_wrap (c : Nat) (h : c < 18446744073709551616) : IntKind.u64.wrap (-(c : Int)) = (((18446744073709551616 - c) % 18446744073709551616 : Nat) : Int) := by
  rw [IntKind.wrap_u64]; omega

set_option maxHeartbeats 1000000 in
theorem against_walk (m : Nat) (hm : m < 18446744073709551616) : Ans 53 #[.int .u64 m] (.int .u64 (((18446744073709551616 - nwt m 5) % 18446744073709551616 : Nat) : Int)) := by
  intro w
  go_enter Try.func53, Try.ntmps53
  go_wp2
  go_loopw [3, 5] (fun x y W => ∃ c k : Nat, x = .int .u64 c ∧ y = .int .i64 k ∧ k ≤ 5 ∧ c < 18446744073709551616 ∧ Hid (c = nwt m k) ∧ W = w) (fun _ y _ => 5 - (intOf y).toNat)
  case atStart => exact ⟨m, 0, rfl, rfl, by omega, hm, rfl, rfl⟩
  case round =>
    obtain ⟨c, k, rfl, rfl, hk, hc, HI, HW⟩ := hrel
    by_cases hlt : k < 5
    · go_wp2
      go_roundw
      case rel => exact ⟨nwt m (k + 1), k + 1, by rw [newton_wrap, nwt_int, HI.out], by go_num, by omega, nwt_lt m _ hm, rfl, trivial⟩
      case measure => simp [intOf]; omega
    · obtain rfl : k = 5 := by omega
      go_wp2
      go_ret
      exact ⟨ret_int (by rw [neg_wrap c hc, HI.out]), 0, rfl⟩

/-- against: what makes -1 with an odd number, modulo 2^64. -/
theorem against_any (m : Nat) (hm : m < 18446744073709551616) (ho : m % 2 = 1) : ∃ g : Nat, g < 18446744073709551616 ∧ (m * g + 1) % 18446744073709551616 = 0 ∧ Ans 53 #[.int .u64 m] (.int .u64 (g : Int)) :=
  ⟨_, by omega, newton_end m _ (nwt_right m ho 5 (by omega)) (nwt_lt m 5 hm), against_walk m hm⟩
end Go.Proofs.Ytafmmkhegkceiaa

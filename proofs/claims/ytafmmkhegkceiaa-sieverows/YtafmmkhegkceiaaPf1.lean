/-
  Contracts of proof's small functions.
-/
import Derived.Test.YtafmmkhegkceiaaPfD
import Derived.Test.YtafmmkhegkceiaaPfN
namespace Go.Proofs.Ytafmmkhegkceiaa
set_option linter.unusedVariables false
open Go.RowKit

theorem climbs0 (w : World) (A : Option Addr) (C : Nat) (p : Int) : AnsB w 44 #[.slice A 0 C, .int .u64 p] (.bool true) := by
  intro w1 hw
  go_enter Try.func44, Try.ntmps44
  go_wp2
  go_ret
  exact ⟨rfl, Below.refl _ _⟩
theorem climbs1 (w : World) (b o L n C : Nat) (p q : Int) (h0 : ((L : Int) == 0) = false) (hn : (L : Int) - 1 = n) (hl : (n : Int) < L) (hm : (L : Int) ≤ 9223372036854775807) (hc : w.cell? ⟨b, o + n * 3, none⟩ = some (.int .u64 q)) (hb : b < w.heap.size) : AnsB w 44 #[.slice (some ⟨b, o, none⟩) L C, .int .u64 p] (.bool (decide (q < p))) := by
  intro w1 hw
  obtain ⟨k1, k2⟩ := bcell hw
  have k := k1 b (o + n * 3) hb
  rw [hc] at k
  clear k1 k2
  go_enter Try.func44, Try.ntmps44
  go_wp2
  go_ret
  exact ⟨rfl, Below.refl _ _⟩

/-! ### without -/
theorem without_walk0 (W : World) (n q e : Int) (h : e < 1) : AnsB W 55 #[.int .u64 n, .agg #[.int .u64 q, .int .i64 e]] (.tuple #[.int .u64 0, .bool false]) := by
  intro w hw
  go_enter Try.func55, Try.ntmps55
  go_wp2
  go_ret2
  exact ⟨rfl, below_alloc _ _⟩
theorem without_walk1 (W : World) (n q e : Int) (h1 : 1 ≤ e) (h : 62 < e) : AnsB W 55 #[.int .u64 n, .agg #[.int .u64 q, .int .i64 e]] (.tuple #[.int .u64 0, .bool false]) := by
  intro w hw
  go_enter Try.func55, Try.ntmps55
  go_wp2
  go_ret2
  exact ⟨rfl, below_alloc _ _⟩
def woV (r : Option Nat) : Value := match r with
  | none => .tuple #[.int .u64 0, .bool false]
  | some r => .tuple #[.int .u64 (r : Int), .bool true]
set_option maxHeartbeats 1000000 in
theorem without_walk2 (W : World) (n q : Nat) (e : Int) (hn : n < 18446744073709551616) (hq0 : 0 < q) (hq : q < 18446744073709551616) (h1 : 1 ≤ e) (h2 : e ≤ 62) : AnsB W 55 #[.int .u64 n, .agg #[.int .u64 q, .int .i64 e]] (woV (without n q e)) := by
  intro w hw
  have hq1 : ((q : Int) == 0) = false := by simp; omega
  go_enter Try.func55, Try.ntmps55
  go_wp2
  go_loop [0, 16] (fun s k => ∃ m i : Nat, s = .int .u64 m ∧ k = .int .i64 i ∧ (i : Int) ≤ e ∧ m < 18446744073709551616 ∧ Hid (m * q ^ i = n)) (fun _ k => e.toNat - (intOf k).toNat)
  case atStart => exact ⟨n, 0, rfl, rfl, by omega, hn, by unfold Hid; rw [Nat.pow_zero, Nat.mul_one]⟩
  case round =>
    obtain ⟨m, i, rfl, rfl, hi, hm, HI⟩ := hrel
    by_cases hlt : (i : Int) < e
    · obtain ⟨r, hr⟩ : ∃ r, m % q = r := ⟨_, rfl⟩
      have hr' : (m : Int) % (q : Int) = (r : Int) := by rw [← hr]; simp
      by_cases h0 : r = 0
      · subst h0
        obtain ⟨d, hd⟩ : ∃ d, m / q = d := ⟨_, rfl⟩
        have hd' : (m : Int) / (q : Int) = (d : Int) := by rw [← hd]; simp
        have hdm : d ≤ m := hd ▸ Nat.div_le_self _ _
        have HS : Hid (d * q ^ (i + 1) = n) := by
          unfold Hid
          rw [Nat.pow_succ, Nat.mul_comm (q ^ i), ← Nat.mul_assoc, ← HI.out]
          congr 1
          rw [← hd]; exact Nat.div_mul_cancel (Nat.dvd_of_mod_eq_zero hr)
        clear hr hd HI
        go_wp2
        go_round
        case rel => exact ⟨d, i + 1, rfl, by go_num, by omega, by omega, HS⟩
        case measure => simp [intOf]; omega
      · have hr0 : ((r : Int) == 0) = false := by simp; omega
        have HE : Hid (woV (without n q e) = .tuple #[.int .u64 0, .bool false]) := by
          unfold Hid; rw [without_stop n q m i e h1 hlt hq0 HI.out (by omega)]; rfl
        clear hr HI
        go_wp2
        go_ret2
        exact ⟨congrArg Ending.returned HE.out.symm, below_alloc _ _⟩
    · have HE : Hid (woV (without n q e) = .tuple #[.int .u64 (m : Int), .bool true]) := by
        unfold Hid
        rw [without_done n q m e h1 h2 hq0 (by rw [← HI.out]; congr 2; omega)]; rfl
      clear HI
      go_wp2
      go_ret2
      exact ⟨congrArg Ending.returned HE.out.symm, below_alloc _ _⟩
/-- without. -/
theorem without_any (W : World) (n q : Nat) (e : Int) (hn : n < 18446744073709551616) (hq0 : 0 < q) (hq : q < 18446744073709551616) : AnsB W 55 #[.int .u64 n, .agg #[.int .u64 q, .int .i64 e]] (woV (without n q e)) := by
  by_cases h1 : 1 ≤ e
  · by_cases h2 : e ≤ 62
    · exact without_walk2 W n q e hn hq0 hq h1 h2
    · rw [without_bad n q e (by omega)]; exact without_walk1 W n q e h1 (by omega)
  · rw [without_bad n q e (by omega)]; exact without_walk0 W n q e (by omega)
end Go.Proofs.Ytafmmkhegkceiaa

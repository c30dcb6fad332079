/-
  Contracts of the document's Prime and Odd (layer 5): trials come to the primes. No condition but that arguments are words.
-/
import Derived.Test.YtafmmkhegkceiaaFacM
import Derived.Test.YtafmmkhegkceiaaGenM
namespace Go.Proofs.Ytafmmkhegkceiaa
set_option linter.unusedVariables false
open Go.RowKit

theorem rbool {a b : Bool} (h : a = b) : Ending.returned (.bool a) = .returned (.bool b) := by rw [h]
/-- A prime up to 2^32. -/
noncomputable def prm32 (n : Nat) : Bool := prmB n && decide (n ≤ 4294967296)
theorem wrap_sq {d s : Nat} (hs : d * d = s) (hd : d ≤ 4294967295) : IntKind.u64.wrap ((d : Int) * (d : Int)) = (s : Int) := by
  have h1 : d * d ≤ 4294967295 * 4294967295 := Nat.mul_le_mul hd hd
  rw [← Int.natCast_mul, hs]
  rw [IntKind.wrap_u64]
  omega
theorem sq_root {d : Nat} (h : d * d ≤ 4294967296) : d ≤ 65536 := by
  refine Nat.le_of_not_lt fun hl => ?_
  have := Nat.mul_le_mul (show 65537 ≤ d from hl) (show 65537 ≤ d from hl)
  omega
theorem rprime_few (n : Nat) (h : n < 2) : Ans 10 #[.int .u64 n] (.bool false) := by
  intro w
  go_enter Try.func10, Try.ntmps10
  go_wp2
  go_ret
  exact ⟨rfl, 0, rfl⟩
theorem rprime_great (n : Nat) (h2 : 2 ≤ n) (h : 4294967296 < n) (hn : n < 18446744073709551616) : Ans 10 #[.int .u64 n] (.bool false) := by
  intro w
  go_enter Try.func10, Try.ntmps10
  go_wp2
  go_ret
  exact ⟨rfl, 0, rfl⟩
set_option maxHeartbeats 1000000 in
theorem rprime_walk (n : Nat) (h2 : 2 ≤ n) (h : n ≤ 4294967296) : Ans 10 #[.int .u64 n] (.bool (prmB n)) := by
  intro w
  go_enter Try.func10, Try.ntmps10
  go_wp2
  go_loopw [3] (fun x wr => ∃ d : Nat, x = .int .u64 d ∧ 2 ≤ d ∧ d ≤ 65537 ∧ Hid (∀ r, Prm r → r < d → ¬ r ∣ n) ∧ wr = w) (fun x _ => 65537 - (intOf x).toNat)
  case atStart => exact ⟨2, rfl, by omega, by omega, fun r hr hl => absurd hr.1 (by omega), rfl⟩
  case round =>
    obtain ⟨d, rfl, hd2, hd, HI, rfl⟩ := hrel
    obtain ⟨s, hs⟩ : ∃ s, d * d = s := ⟨_, rfl⟩
    have hm := wrap_sq hs (by omega)
    have HS : Hid (d * d = s) := hs
    by_cases hle : s ≤ n
    · have hd6 : d ≤ 65536 := sq_root (by omega)
      have hd1 : d < n := by
        have : d * 2 ≤ d * d := Nat.mul_le_mul_left d hd2
        omega
      clear hs
      by_cases hr : n % d = 0
      · have hr' : ((n : Int) % (d : Int) == 0) = true := by rw [beq_iff_eq]; omega
        have HE : Hid (prmB n = false) := prmB_no (not_prm_dvd hd2 hd1 hr)
        clear hr
        go_wp2
        go_ret
        exact ⟨rbool HE.out.symm, 0, rfl⟩
      · have hr' : ((n : Int) % (d : Int) == 0) = false := by rw [beq_eq_false_iff_ne]; omega
        have HJ : Hid (∀ r, Prm r → r < d + 1 → ¬ r ∣ n) := by
          intro r pr hl hdv
          by_cases e : r = d
          · exact hr (Nat.mod_eq_zero_of_dvd (e ▸ hdv))
          · exact HI.out r pr (by omega) hdv
        clear hr HI
        go_wp2
        go_roundw
        case rel => exact ⟨d + 1, by go_num, by omega, by omega, HJ, by first | rfl | trivial⟩
        case measure => simp [intOf]; omega
    · have HE : Hid (prmB n = true) := prmB_yes (prm_of_root h2 (by omega) HI.out)
      clear hs HI
      go_wp2
      go_ret
      exact ⟨rbool HE.out.symm, 0, rfl⟩
/-- The document's Prime. -/
theorem rprime_any (n : Nat) (hn : n < 18446744073709551616) : Ans 10 #[.int .u64 n] (.bool (prm32 n)) := by
  unfold prm32
  by_cases h2 : n < 2
  · rw [prmB_no (fun h => by have := h.1; omega)]; exact rprime_few n h2
  · by_cases h : n ≤ 4294967296
    · rw [decide_eq_true h, Bool.and_true]; exact rprime_walk n (by omega) h
    · rw [decide_eq_false h, Bool.and_false]; exact rprime_great n (by omega) (by omega) hn
noncomputable def oddB (p : Nat) : Bool := prmB p && decide (3 ≤ p) && decide (p ≤ 65536)
theorem oddB_iff {p : Nat} : oddB p = true ↔ Odd16 p := by
  unfold oddB Odd16
  rw [Bool.and_eq_true, Bool.and_eq_true, prmB_iff, decide_eq_true_iff, decide_eq_true_iff, and_assoc]
theorem rodd_walk0 (p : Nat) (hn : p < 18446744073709551616) (h : p ≤ 2) : Ans 18 #[.int .u64 p] (.bool false) := by
  intro w
  go_enter Try.func18, Try.ntmps18
  go_wp2
  go_ret
  exact ⟨rfl, 0, rfl⟩
theorem rodd_walk1 (p : Nat) (hn : p < 18446744073709551616) (h : 2 < p) (h' : 65536 < p) : Ans 18 #[.int .u64 p] (.bool false) := by
  intro w
  go_enter Try.func18, Try.ntmps18
  go_wp2
  go_ret
  exact ⟨rfl, 0, rfl⟩
theorem rodd_walk2 (p : Nat) (h : 2 < p) (h' : p ≤ 65536) (b : Bool) (HP : Ans 10 #[.int .u64 p] (.bool b)) : Ans 18 #[.int .u64 p] (.bool b) := by
  intro w
  go_enter Try.func18, Try.ntmps18
  go_wp2_with (go_at_call 10; with_reducible refine Ans.use HP _ fun n1 => ?_)
  go_ret
  exact ⟨rfl, n1, rfl⟩
/-- The document's Odd. -/
theorem rodd_any (p : Nat) (hn : p < 18446744073709551616) : Ans 18 #[.int .u64 p] (.bool (oddB p)) := by
  unfold oddB
  by_cases h : p ≤ 2
  · rw [decide_eq_false (show ¬ 3 ≤ p by omega), Bool.and_false, Bool.false_and]; exact rodd_walk0 p hn h
  · by_cases h' : p ≤ 65536
    · rw [decide_eq_true (show 3 ≤ p by omega), decide_eq_true h', Bool.and_true, Bool.and_true]
      have := rprime_any p hn
      unfold prm32 at this
      rw [decide_eq_true (show p ≤ 4294967296 by omega), Bool.and_true] at this
      exact rodd_walk2 p (by omega) h' _ this
    · rw [decide_eq_false h', Bool.and_false]; exact rodd_walk1 p hn (by omega) (by omega)
end Go.Proofs.Ytafmmkhegkceiaa

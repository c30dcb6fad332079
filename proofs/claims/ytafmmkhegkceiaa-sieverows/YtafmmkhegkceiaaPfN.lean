/-
  Plain mathematics of layer 4: what is left of a number, divided by powers; products; which rows of entries are right.
-/
import Derived.Test.YtafmmkhegkceiaaLucas
namespace Go.Proofs.Ytafmmkhegkceiaa

/-- A number without a power: what is left, or that it can't be. -/
def without (n q : Nat) (e : Int) : Option Nat := if e < 1 ∨ 62 < e then none else if n % q ^ e.toNat = 0 then some (n / q ^ e.toNat) else none
theorem without_bad (n q : Nat) (e : Int) (h : e < 1 ∨ 62 < e) : without n q e = none := by unfold without; rw [if_pos h]
theorem without_stop (n q m i : Nat) (e : Int) (h1 : 1 ≤ e) (hi : (i : Int) < e) (hq : 0 < q) (hn : m * q ^ i = n) (hm : m % q ≠ 0) : without n q e = none := by
  unfold without
  by_cases h : e < 1 ∨ 62 < e
  · rw [if_pos h]
  · rw [if_neg h, if_neg]
    intro hd
    apply hm
    obtain ⟨k, hk⟩ := Nat.dvd_of_mod_eq_zero hd
    have he : e.toNat = i + 1 + (e.toNat - i - 1) := by omega
    rw [he, Nat.pow_add, Nat.pow_succ, ← hn] at hk
    have hp : 0 < q ^ i := Nat.pow_pos hq
    have e2 : q ^ i * m = q ^ i * (q * (q ^ (e.toNat - i - 1) * k)) := by
      rw [Nat.mul_comm (q ^ i) m, hk]; simp only [Nat.mul_assoc]
    have e3 := Nat.eq_of_mul_eq_mul_left hp e2
    rw [e3, Nat.mul_mod_right]
theorem without_done (n q m : Nat) (e : Int) (h1 : 1 ≤ e) (h2 : e ≤ 62) (hq : 0 < q) (hn : m * q ^ e.toNat = n) : without n q e = some m := by
  unfold without
  have hp : 0 < q ^ e.toNat := Nat.pow_pos hq
  rw [if_neg (by omega), ← hn, Nat.mul_mod_left, if_pos rfl, Nat.mul_div_cancel _ hp]
end Go.Proofs.Ytafmmkhegkceiaa

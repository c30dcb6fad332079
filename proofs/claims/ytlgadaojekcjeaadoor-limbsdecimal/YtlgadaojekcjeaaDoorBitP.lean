/-
  Plain laws of bits (no Go in sight).
-/
import Derived.Laws.Rows
namespace Go.Proofs.YtlgadaojekcjeaaDoor.Plain

theorem two_pow_pos (i : Nat) : 0 < 2 ^ i := Nat.two_pow_pos i
theorem bit01 (x i : Nat) : x / 2 ^ i % 2 = 0 ∨ x / 2 ^ i % 2 = 1 := by omega
theorem tb (x i : Nat) : x.testBit i = decide (x / 2 ^ i % 2 = 1) := by
  rw [Nat.testBit_eq_decide_div_mod_eq]
theorem mod_succ (x i : Nat) : x % 2 ^ (i + 1) = x % 2 ^ i + 2 ^ i * (x / 2 ^ i % 2) := by
  rw [Nat.pow_succ, Nat.mod_mul]

theorem add_bit (x y i : Nat) : (x + y) / 2 ^ i % 2 = (x / 2 ^ i % 2 + y / 2 ^ i % 2 + (if 2 ^ i ≤ x % 2 ^ i + y % 2 ^ i then 1 else 0)) % 2 := by
  have hp := Nat.two_pow_pos i
  have e1 := Nat.div_add_mod x (2 ^ i)
  have e2 := Nat.div_add_mod y (2 ^ i)
  have l1 := Nat.mod_lt x hp
  have l2 := Nat.mod_lt y hp
  have e3 : (x + y) / 2 ^ i = x / 2 ^ i + y / 2 ^ i + (if 2 ^ i ≤ x % 2 ^ i + y % 2 ^ i then 1 else 0) := by
    generalize 2 ^ i = P at *
    generalize x / P = p at *
    generalize y / P = q at *
    generalize x % P = r at *
    generalize y % P = s at *
    subst e1 e2
    split
    · rw [show P * p + r + (P * q + s) = (r + s - P) + P * (p + q + 1) by rw [Nat.mul_add, Nat.mul_add]; omega, Nat.add_mul_div_left _ _ hp, Nat.div_eq_of_lt (by omega)]; omega
    · rw [show P * p + r + (P * q + s) = (r + s) + P * (p + q) by rw [Nat.mul_add]; omega, Nat.add_mul_div_left _ _ hp, Nat.div_eq_of_lt (by omega)]; omega
  rw [e3]
  omega
end Go.Proofs.YtlgadaojekcjeaaDoor.Plain

/-
  limbs.Left and limbs.Right in terms of numbers.
-/
import Derived.Test.YtlgadaojekcjeaaDoorMovesP
import Derived.Laws.Bits64b
namespace Go.Proofs.YtlgadaojekcjeaaDoor
open Go.RowKit

theorem two64 (p : Nat) (hp : p < 64) : 2 ^ p * 2 ^ (64 - p) = 18446744073709551616 := by
  rw [← Nat.pow_add, show p + (64 - p) = 64 by omega]
theorem pw_pos (p : Nat) : 0 < 2 ^ p := Nat.pow_pos (by omega)
theorem shl_nat (a P R : Nat) (h : P * R = 18446744073709551616) : IntKind.u64.wrap ((a : Int) * (P : Nat)) = ((a % R * P : Nat) : Int) := by
  rw [IntKind.wrap_u64, ← Nat.mul_mod_mul_right, Nat.mul_comm R P, h]
  simp
theorem or_nat (x y P : Nat) (p : Nat) (hP : P = 2 ^ p) (hy : y < P) (hs : x * P + P ≤ 18446744073709551616) : bits .or .u64 ((x * P : Nat) : Int) ((y : Nat) : Int) = ((x * P + y : Nat) : Int) := by
  rw [bits_or_u64_nat _ _ (by omega) (by omega)]
  subst hP
  rw [← Nat.shiftLeft_eq, Nat.shiftLeft_add_eq_or_of_lt hy]
theorem or_nat' (x y P : Nat) (p : Nat) (hP : P = 2 ^ p) (hy : y < P) (hs : x * P + P ≤ 18446744073709551616) : bits .or .u64 ((y : Nat) : Int) ((x * P : Nat) : Int) = ((x * P + y : Nat) : Int) := by
  rw [bits_or_u64_nat _ _ (by omega) (by omega), Nat.or_comm]
  subst hP
  rw [← Nat.shiftLeft_eq, Nat.shiftLeft_add_eq_or_of_lt hy]
/-- A word, cut in two, and moved. -/
theorem cut (n P R : Nat) (h : P * R = 18446744073709551616) (hn : n < 18446744073709551616) (_hP : 0 < P) (hR : 0 < R) : n * P = n / R * 18446744073709551616 + n % R * P ∧ n / R < P ∧ n % R * P + P ≤ 18446744073709551616 := by
  refine ⟨?_, ?_, ?_⟩
  · rw [← h, ← Nat.mul_assoc, Nat.mul_right_comm, ← Nat.add_mul, Nat.mul_comm (n / R) R, Nat.div_add_mod]
  · exact Nat.div_lt_of_lt_mul (by rw [Nat.mul_comm R P, h]; exact hn)
  · have : n % R + 1 ≤ R := Nat.mod_lt n hR
    calc n % R * P + P = (n % R + 1) * P := by rw [Nat.add_mul, Nat.one_mul]
      _ ≤ R * P := Nat.mul_le_mul_right P this
      _ = 18446744073709551616 := by rw [Nat.mul_comm, h]
theorem wrd_up (X : Nat) : wrd (X * 18446744073709551616) 0 = 0 ∧ wrd (X * 18446744073709551616) 64 = wrd X 0 ∧ wrd (X * 18446744073709551616) 128 = wrd X 64 := by
  unfold wrd
  have e1 : X * 18446744073709551616 / 2 ^ 0 % 2 ^ 64 = 0 := by simp only [Nat.reducePow, Nat.div_one]; omega
  have e2 : X * 18446744073709551616 / 2 ^ 64 % 2 ^ 64 = X / 2 ^ 0 % 2 ^ 64 := by simp only [Nat.reducePow, Nat.div_one]; omega
  have e3 : X * 18446744073709551616 / 2 ^ 128 % 2 ^ 64 = X / 2 ^ 64 % 2 ^ 64 := by simp only [Nat.reducePow]; omega
  rw [e1, e2, e3]
  exact ⟨rfl, rfl, rfl⟩
theorem wrd_down (X : Nat) : wrd (X / 18446744073709551616) 0 = wrd X 64 ∧ wrd (X / 18446744073709551616) 64 = wrd X 128 ∧ wrd (X / 18446744073709551616) 128 = wrd X 192 := by
  unfold wrd
  rw [show (18446744073709551616 : Nat) = 2 ^ 64 from rfl]
  simp only [Nat.div_div_eq_div_mul, ← Nat.pow_add, Nat.reduceAdd]
  exact ⟨trivial, trivial, trivial⟩
theorem wd_nat {n : Nat} (h : n < 18446744073709551616) : Wd (n : Int) := ⟨by omega, by omega⟩

theorem four_wrd' (s0 s1 s2 t V : Nat) (h0 : s0 < 18446744073709551616) (h1 : s1 < 18446744073709551616) (h2 : s2 < 18446744073709551616) (e : V = s0 + 18446744073709551616 * s1 + 340282366920938463463374607431768211456 * s2 + 6277101735386680763835789423207666416102355444464034512896 * t) :
    ((s0 : Nat) : Int) = wrd V 0 ∧ ((s1 : Nat) : Int) = wrd V 64 ∧ ((s2 : Nat) : Int) = wrd V 128 := by
  unfold wrd
  simp only [Nat.reducePow, Nat.div_one]
  refine ⟨?_, ?_, ?_⟩ <;> omega
theorem left_words (n0 n1 n2 p : Nat) (hp : p < 64) (k0 : n0 < 18446744073709551616) (k1 : n1 < 18446744073709551616) (k2 : n2 < 18446744073709551616) :
    ((n0 % 2 ^ (64 - p) * 2 ^ p : Nat) : Int) = wrd (nat3 n0 n1 n2 * 2 ^ p) 0 ∧ ((n1 % 2 ^ (64 - p) * 2 ^ p + n0 / 2 ^ (64 - p) : Nat) : Int) = wrd (nat3 n0 n1 n2 * 2 ^ p) 64 ∧ ((n2 % 2 ^ (64 - p) * 2 ^ p + n1 / 2 ^ (64 - p) : Nat) : Int) = wrd (nat3 n0 n1 n2 * 2 ^ p) 128 := by
  have h := two64 p hp
  have hP := pw_pos p
  have hR := pw_pos (64 - p)
  generalize 2 ^ p = P at *
  generalize 2 ^ (64 - p) = R at *
  obtain ⟨x0, y0, z0⟩ := cut n0 P R h k0 hP hR
  obtain ⟨x1, y1, z1⟩ := cut n1 P R h k1 hP hR
  obtain ⟨x2, y2, z2⟩ := cut n2 P R h k2 hP hR
  have hP2 : P ≤ 18446744073709551616 := by omega
  have e : nat3 n0 n1 n2 * P = n0 * P + 18446744073709551616 * (n1 * P) + 340282366920938463463374607431768211456 * (n2 * P) := by
    have : nat3 n0 n1 n2 = n0 + 18446744073709551616 * n1 + 340282366920938463463374607431768211456 * n2 := by unfold nat3 val; omega
    rw [this, Nat.add_mul, Nat.add_mul, Nat.mul_assoc, Nat.mul_assoc]
  have := four_wrd' (n0 % R * P) (n1 % R * P + n0 / R) (n2 % R * P + n1 / R) (n2 / R) (nat3 n0 n1 n2 * P) (by omega) (by omega) (by omega) (by rw [e, x0, x1, x2]; omega)
  exact ⟨this.1, this.2.1, this.2.2⟩

theorem right_words (n0 n1 n2 p : Nat) (hp : p < 64) (k0 : n0 < 18446744073709551616) (k1 : n1 < 18446744073709551616) (k2 : n2 < 18446744073709551616) :
    ((n1 % 2 ^ p * 2 ^ (64 - p) + n0 / 2 ^ p : Nat) : Int) = wrd (nat3 n0 n1 n2 / 2 ^ p) 0 ∧ ((n2 % 2 ^ p * 2 ^ (64 - p) + n1 / 2 ^ p : Nat) : Int) = wrd (nat3 n0 n1 n2 / 2 ^ p) 64 ∧ ((n2 / 2 ^ p : Nat) : Int) = wrd (nat3 n0 n1 n2 / 2 ^ p) 128 ∧ 0 = wrd (nat3 n0 n1 n2 / 2 ^ p) 192 := by
  have h := two64 p hp
  have hP := pw_pos p
  have hR := pw_pos (64 - p)
  generalize 2 ^ p = P at *
  generalize 2 ^ (64 - p) = R at *
  have h' : R * P = 18446744073709551616 := by rw [Nat.mul_comm]; exact h
  obtain ⟨x0, y0, z0⟩ := cut n0 R P h' k0 hR hP
  obtain ⟨x1, y1, z1⟩ := cut n1 R P h' k1 hR hP
  obtain ⟨x2, y2, z2⟩ := cut n2 R P h' k2 hR hP
  have hn : nat3 n0 n1 n2 = n0 + P * (n1 * R + 18446744073709551616 * (n2 * R)) := by
    have : nat3 n0 n1 n2 = n0 + 18446744073709551616 * n1 + 340282366920938463463374607431768211456 * n2 := by unfold nat3 val; omega
    rw [this, Nat.mul_add, Nat.mul_left_comm P 18446744073709551616, Nat.mul_comm n1 R, Nat.mul_comm n2 R, ← Nat.mul_assoc P R n1, ← Nat.mul_assoc P R n2, h]
    omega
  have e : nat3 n0 n1 n2 / P = n0 / P + (n1 * R + 18446744073709551616 * (n2 * R)) := by rw [hn, Nat.add_mul_div_left _ _ hP]
  have hR2 : R ≤ 18446744073709551616 := by omega
  have hu : n2 / P ≤ n2 := Nat.div_le_self _ _
  have e2 : nat3 n0 n1 n2 / P = (n1 % P * R + n0 / P) + 18446744073709551616 * (n2 % P * R + n1 / P) + 340282366920938463463374607431768211456 * (n2 / P) + 6277101735386680763835789423207666416102355444464034512896 * 0 := by rw [e, x1, x2]; omega
  have := four_wrd' (n1 % P * R + n0 / P) (n2 % P * R + n1 / P) (n2 / P) 0 (nat3 n0 n1 n2 / P) (by omega) (by omega) (by omega) e2
  refine ⟨this.1, this.2.1, this.2.2, ?_⟩
  have hlt : nat3 n0 n1 n2 / P < 2 ^ 192 := by
    rw [show (2 : Nat) ^ 192 = 6277101735386680763835789423207666416102355444464034512896 from rfl]
    omega
  unfold wrd
  rw [Nat.div_eq_of_lt hlt]
  rfl
end Go.Proofs.YtlgadaojekcjeaaDoor

/-
  Plain mathematics of bits turned about: math/bits' way, by masks and shifts, is the digits by radices of 2. No condition.
-/
import Derived.Test.YtgmjbagomfegeaaDg0
namespace Go.Proofs.Ytgmjbagomfegeaa
set_option linter.unusedVariables false

def two (n : Nat) : List Nat := List.replicate n 2
theorem two_pr (n : Nat) : pr (two n) = 2 ^ n := by
  induction n with
  | zero => rfl
  | succ n ih => unfold two at *; rw [List.replicate_succ, pr, ih, Nat.pow_succ, Nat.mul_comm]
theorem two_one (n : Nat) : ∀ r ∈ two n, 1 ≤ r := fun r hr => by
  unfold two at hr; rw [List.eq_of_mem_replicate hr]; omega
theorem two_lt (n u : Nat) : tn (two n) u < 2 ^ n := by rw [← two_pr]; exact tn_lt _ _ (two_one n)
theorem two_rev (n : Nat) : (two n).reverse = two n := by unfold two; rw [List.reverse_replicate]
theorem two_back (n u : Nat) : tn (two n) (tn (two n) u) = u % 2 ^ n := by
  have h1 := tn_mod (two n) (u / 2 ^ n) (u % 2 ^ n) (two_one n)
  rw [two_pr, Nat.mul_comm, Nat.div_add_mod] at h1
  rw [h1]
  have h2 := tn_back (two n) (u % 2 ^ n) (two_one n) (by rw [two_pr]; exact Nat.mod_lt _ (Nat.two_pow_pos n))
  rw [two_rev] at h2
  exact h2
theorem two_step (n u : Nat) : tn (two (n + 1)) u = u % 2 * 2 ^ n + tn (two n) (u / 2) := by
  rw [← two_pr]; exact tn_cons 2 (two n) u
theorem two_last (n u : Nat) : tn (two (n + 1)) u = tn (two n) u * 2 + u / 2 ^ n % 2 := by
  have e : two (n + 1) = two n ++ [2] := by unfold two; rw [List.replicate_succ', ]
  rw [e, tn_append, two_pr]
  simp [tn, tnA, pr]
theorem two_bit : ∀ (n u j : Nat), j < n → (tn (two n) u).testBit j = u.testBit (n - 1 - j)
  | 0, u, j, h => by omega
  | n + 1, u, j, h => by
    rw [two_step, Nat.mul_comm, Nat.testBit_two_pow_mul_add _ (two_lt n _)]
    by_cases hj : j < n
    · rw [if_pos hj, two_bit n (u / 2) j hj, ← Nat.testBit_succ]
      congr 1
      omega
    · obtain rfl : j = n := by omega
      rw [if_neg hj, Nat.sub_self]
      have : j + 1 - 1 - j = 0 := by omega
      rw [this]
      simp [Nat.testBit_zero]
theorem two_cut (n k u : Nat) (h : k ≤ n) : tn (two n) u / 2 ^ (n - k) = tn (two k) u := by
  have e : two n = two k ++ two (n - k) := by unfold two; rw [List.replicate_append_replicate]; congr 1; omega
  rw [e, tn_append, two_pr, Nat.mul_comm, Nat.mul_add_div (Nat.two_pow_pos _), Nat.div_eq_of_lt (two_lt _ _), Nat.add_zero]

/-! ### By masks -/
def stp (s m x : Nat) : Nat := (x >>> s &&& m) ||| ((x &&& m) <<< s)
/-- A mask: what is in it, moved by s, isn't. -/
def Mask (s m : Nat) : Prop := m < 2 ^ (64 - s) ∧ ∀ j : Fin 64, if m.testBit j then j + s < 64 ∧ (s ≤ j → m.testBit (j - s) = false) else s ≤ j ∧ m.testBit (j - s) = true
def sg (s m j : Nat) : Nat := if m.testBit j then j + s else j - s
theorem sg_lt {s m j : Nat} (h : Mask s m) (hj : j < 64) : sg s m j < 64 := by
  have := h.2 ⟨j, hj⟩
  unfold sg
  split at this
  · rename_i h1; rw [if_pos h1]; exact this.1
  · rename_i h1; rw [if_neg h1]; omega
theorem stp_bit {s m : Nat} (h : Mask s m) (x : Nat) {j : Nat} (hj : j < 64) : (stp s m x).testBit j = x.testBit (sg s m j) := by
  have := h.2 ⟨j, hj⟩
  unfold stp sg
  rw [Nat.testBit_or, Nat.testBit_and, Nat.testBit_shiftRight, Nat.testBit_shiftLeft, Nat.testBit_and]
  split at this
  · rename_i h1
    simp only at h1 this
    rw [if_pos h1, h1, Nat.add_comm s j]
    by_cases h2 : s ≤ j
    · rw [this.2 h2]; simp
    · simp [h2]
  · rename_i h1
    simp only at h1 this
    rw [if_neg h1, this.2]
    simp [h1, this.1]
theorem stp_lt {s m x : Nat} (h : Mask s m) (hs : s ≤ 64) : stp s m x < 2 ^ 64 ∧ (x >>> s &&& m) < 2 ^ 64 ∧ (x &&& m) <<< s < 2 ^ 64 ∧ (x &&& m) * 2 ^ s < 2 ^ 64 := by
  have h1 : (x >>> s &&& m) < 2 ^ 64 := Nat.lt_of_le_of_lt Nat.and_le_right (Nat.lt_of_lt_of_le h.1 (Nat.pow_le_pow_right (by omega) (by omega)))
  have h2 : (x &&& m) * 2 ^ s < 2 ^ 64 := by
    have e : 2 ^ 64 = 2 ^ (64 - s) * 2 ^ s := by rw [← Nat.pow_add]; congr 1; omega
    rw [e]
    exact Nat.mul_lt_mul_of_pos_right (Nat.lt_of_le_of_lt Nat.and_le_right h.1) (Nat.two_pow_pos s)
  have h3 : (x &&& m) <<< s < 2 ^ 64 := by rw [Nat.shiftLeft_eq]; exact h2
  exact ⟨Nat.or_lt_two_pow h1 h3, h1, h3, h2⟩
def m1 : Nat := 6148914691236517205
def m2 : Nat := 3689348814741910323
def m4 : Nat := 1085102592571150095
def m8 : Nat := 71777214294589695
def m16 : Nat := 281470681808895
theorem mask1 : Mask 1 m1 := by unfold Mask; decide +kernel
theorem mask2 : Mask 2 m2 := by unfold Mask; decide +kernel
theorem mask4 : Mask 4 m4 := by unfold Mask; decide +kernel
theorem mask8 : Mask 8 m8 := by unfold Mask; decide +kernel
theorem mask16 : Mask 16 m16 := by unfold Mask; decide +kernel
def half (x : Nat) : Nat := x >>> 32 ||| (x <<< 32 % 2 ^ 64)
theorem half_bit {x : Nat} (hx : x < 2 ^ 64) {j : Nat} (hj : j < 64) : (half x).testBit j = x.testBit (if j < 32 then j + 32 else j - 32) := by
  unfold half
  rw [Nat.testBit_or, Nat.testBit_shiftRight, Nat.testBit_mod_two_pow, Nat.testBit_shiftLeft]
  by_cases h : j < 32
  · rw [if_pos h, Nat.add_comm]
    simp
    omega
  · rw [if_neg h]
    have h1 : x.testBit (32 + j) = false := Nat.testBit_lt_two_pow (Nat.lt_of_lt_of_le hx (Nat.pow_le_pow_right (by omega) (by omega)))
    rw [h1]
    have h2 : 32 ≤ j := by omega
    simp [hj, h2]
theorem all_sg : ∀ j : Fin 64, sg 1 m1 (sg 2 m2 (sg 4 m4 (sg 8 m8 (sg 16 m16 (if (j : Nat) < 32 then j + 32 else j - 32))))) = 63 - j := by decide +kernel
theorem rev_masks (x : Nat) (hx : x < 2 ^ 64) : half (stp 16 m16 (stp 8 m8 (stp 4 m4 (stp 2 m2 (stp 1 m1 x))))) = tn (two 64) x := by
  apply Nat.eq_of_testBit_eq
  intro j
  have hl := (stp_lt (x := stp 8 m8 (stp 4 m4 (stp 2 m2 (stp 1 m1 x)))) mask16 (by omega)).1
  by_cases hj : j < 64
  · have h32 : (if j < 32 then j + 32 else j - 32) < 64 := by split <;> omega
    have h16 := sg_lt mask16 h32
    have h8 := sg_lt mask8 h16
    have h4 := sg_lt mask4 h8
    have h2 := sg_lt mask2 h4
    rw [half_bit hl hj, stp_bit mask16 _ h32, stp_bit mask8 _ h16, stp_bit mask4 _ h8, stp_bit mask2 _ h4, stp_bit mask1 _ h2, two_bit 64 x j hj]
    have := all_sg ⟨j, hj⟩
    simp only at this
    rw [this]
  · have hp : 2 ^ 64 ≤ 2 ^ j := Nat.pow_le_pow_right (by omega) (by omega)
    have hh : half (stp 16 m16 (stp 8 m8 (stp 4 m4 (stp 2 m2 (stp 1 m1 x))))) < 2 ^ 64 := by
      unfold half
      exact Nat.or_lt_two_pow (Nat.lt_of_le_of_lt (by rw [Nat.shiftRight_eq_div_pow]; exact Nat.div_le_self _ _) hl) (Nat.mod_lt _ (by decide))
    rw [Nat.testBit_lt_two_pow (Nat.lt_of_lt_of_le hh hp), Nat.testBit_lt_two_pow (Nat.lt_of_lt_of_le (two_lt 64 x) hp)]
end Go.Proofs.Ytgmjbagomfegeaa

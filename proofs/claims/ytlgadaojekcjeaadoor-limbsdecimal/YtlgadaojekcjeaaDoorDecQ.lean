/-
  Digits of a doubled number.
-/
import Derived.Test.YtlgadaojekcjeaaDoorDec
import Derived.Laws.OwnMore
namespace Go.Proofs.YtlgadaojekcjeaaDoor
open Go.RowKit

/-- What is carried to place k, when X is doubled and c added. -/
def carry (X c k : Nat) : Nat := (2 * (X % 10 ^ k) + c) / 10 ^ k
theorem ten_pos (k : Nat) : 0 < 10 ^ k := Nat.pow_pos (by omega)
theorem carry_zero (X c : Nat) : carry X c 0 = c := by simp [carry, Nat.mod_one]
theorem carry_le (X c k : Nat) (hc : c ≤ 1) : carry X c k ≤ 1 := by
  unfold carry
  have h := Nat.mod_lt X (ten_pos k)
  have : (2 * (X % 10 ^ k) + c) / 10 ^ k < 2 := Nat.div_lt_of_lt_mul (by omega)
  omega
theorem carry_quo (X c k : Nat) : (2 * (X / 10 ^ k % 10) + carry X c k) / 10 = carry X c (k + 1) := by
  unfold carry
  rw [Nat.mod_pow_succ, Nat.pow_succ, ← Nat.div_div_eq_div_mul]
  have e : 2 * (X % 10 ^ k + 10 ^ k * (X / 10 ^ k % 10)) + c = (2 * (X % 10 ^ k) + c) + 10 ^ k * (2 * (X / 10 ^ k % 10)) := by
    rw [Nat.mul_add, Nat.mul_left_comm]; omega
  rw [e, Nat.add_mul_div_left _ _ (ten_pos k), Nat.add_comm]
theorem carry_rem (X c k : Nat) : (2 * (X / 10 ^ k % 10) + carry X c k) % 10 = (2 * X + c) / 10 ^ k % 10 := by
  unfold carry
  have e : 2 * X + c = (2 * (X % 10 ^ k) + c) + 10 ^ k * (2 * (X / 10 ^ k)) := by
    have := Nat.mod_add_div X (10 ^ k)
    rw [Nat.mul_left_comm]
    omega
  rw [e, Nat.add_mul_div_left _ _ (ten_pos k)]
  omega
theorem carry_end (X c n : Nat) (h : X < 10 ^ n) : carry X c n = (2 * X + c) / 10 ^ n := by
  unfold carry
  rw [Nat.mod_eq_of_lt h]

/-- Digits, the first k of them doubled. -/
def rowk (X Y n k : Nat) : List Value := (List.range n).map fun j => Value.int .u8 ((if j < k then Y / 10 ^ j % 10 else X / 10 ^ j % 10 : Nat) : Int)
def row (X n : Nat) : List Value := (List.range n).map fun j => Value.int .u8 ((X / 10 ^ j % 10 : Nat) : Int)
theorem rowk_length (X Y n k : Nat) : (rowk X Y n k).length = n := by simp [rowk]
theorem row_length (X n : Nat) : (row X n).length = n := by simp [row]
theorem rowk_zero (X Y n : Nat) : rowk X Y n 0 = row X n := by simp [rowk, row]
theorem rowk_end (X Y n : Nat) : rowk X Y n n = row Y n := by
  unfold rowk row
  apply List.map_congr_left
  intro j hj
  rw [if_pos (by simpa using hj)]
theorem rowk_get (X Y n k : Nat) (h : k < n) : (rowk X Y n k)[k]? = some (.int .u8 ((X / 10 ^ k % 10 : Nat) : Int)) := by simp [rowk, h]
theorem row_get (X n k : Nat) (h : k < n) : (row X n)[k]? = some (.int .u8 ((X / 10 ^ k % 10 : Nat) : Int)) := by simp [row, h]
theorem rowk_set (X Y n k : Nat) (_h : k < n) : (rowk X Y n k).set k (.int .u8 ((Y / 10 ^ k % 10 : Nat) : Int)) = rowk X Y n (k + 1) := by
  apply List.ext_getElem?
  intro j
  by_cases hj : j < n
  · by_cases e : k = j
    · subst e
      simp [rowk, hj]
    · have h2 : (j < k + 1) = (j < k) := by simp; omega
      simp [rowk, hj, e, h2]
  · simp [rowk, hj]
theorem row_more (Y n : Nat) (h : Y / 10 ^ n < 10) : row Y n ++ [.int .u8 ((Y / 10 ^ n : Nat) : Int)] = row Y (n + 1) := by
  unfold row
  rw [List.range_succ, List.map_append]
  simp only [List.map_cons, List.map_nil]
  rw [Nat.mod_eq_of_lt h]

/-- What the digits are, and how many. -/
def Fits (X n : Nat) : Prop := X < 10 ^ n ∧ (n = 1 ∨ 10 ^ (n - 1) ≤ X)
theorem fits_one : Fits 0 1 := ⟨by decide, .inl rfl⟩
theorem fits_same {X n c : Nat} (h : Fits X n) (hc : (2 * X + c) / 10 ^ n = 0) : Fits (2 * X + c) n := by
  refine ⟨?_, ?_⟩
  · rcases Nat.lt_or_ge (2 * X + c) (10 ^ n) with h1 | h1
    · exact h1
    · have := Nat.div_pos h1 (ten_pos n)
      omega
  · rcases h.2 with h1 | h1
    · exact .inl h1
    · exact .inr (by omega)
theorem fits_more {X n c : Nat} (h : Fits X n) (_hn : 1 ≤ n) (hc1 : c ≤ 1) (hc : (2 * X + c) / 10 ^ n ≠ 0) : Fits (2 * X + c) (n + 1) := by
  refine ⟨?_, .inr ?_⟩
  · rw [Nat.pow_succ]
    have := h.1
    omega
  · rw [Nat.add_sub_cancel]
    rcases Nat.lt_or_ge (2 * X + c) (10 ^ n) with h1 | h1
    · exact absurd (Nat.div_eq_of_lt h1) hc
    · exact h1
theorem dec_step {X n j : Nat} {T : List UInt8} (h : Fits X n) (hj : j + 1 < n) (e : Lib.decDigits X = Lib.decDigits (X / 10 ^ j) ++ T) :
    Lib.decDigits X = Lib.decDigits (X / 10 ^ (j + 1)) ++ (UInt8.ofNat (48 + X / 10 ^ j % 10) :: T) := by
  have h1 : 10 ^ (n - 1) ≤ X := by
    rcases h.2 with h1 | h1
    · omega
    · exact h1
  have h2 : 10 ≤ X / 10 ^ j := by
    rw [Nat.le_div_iff_mul_le (ten_pos j), Nat.mul_comm, ← Nat.pow_succ]
    exact Nat.le_trans (Nat.pow_le_pow_right (by omega) (by omega)) h1
  rw [e, Lib.decDigits, dif_neg (by omega), Nat.pow_succ, Nat.div_div_eq_div_mul]
  simp
theorem dec_last {X n j : Nat} {T : List UInt8} (h : Fits X n) (hj : j + 1 = n) (e : Lib.decDigits X = Lib.decDigits (X / 10 ^ j) ++ T) :
    Lib.decDigits X = UInt8.ofNat (48 + X / 10 ^ j % 10) :: T := by
  have h2 : X / 10 ^ j < 10 := by
    apply Nat.div_lt_of_lt_mul
    have e2 : 10 ^ j * 10 = 10 ^ n := by rw [← hj, Nat.pow_succ]
    rw [e2]
    exact h.1
  rw [e, Lib.decDigits, dif_pos h2, Nat.mod_eq_of_lt h2]
  simp
end Go.Proofs.YtlgadaojekcjeaaDoor

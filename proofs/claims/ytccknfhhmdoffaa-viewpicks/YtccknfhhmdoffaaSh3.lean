/-
  Plain mathematics of indexes and numbers: of at most four axes. No condition.
-/
import Derived.Test.YtccknfhhmdoffaaSh2V
namespace Go.Proofs.Ytccknfhhmdoffaa
set_option linter.unusedVariables false

/-- The product of the first lengths. -/
def ppr (ds : List Nat) : Nat → Nat
  | 0 => 1
  | k + 1 => ppr ds k * ln ds k
theorem pr_four {ds : List Nat} (h : Shp ds) : ppr ds 4 = pr ds := by
  have hf := h.few
  match ds, hf with
  | [], _ => rfl
  | [a], _ => simp [ppr, ln, pr]
  | [a, b], _ => simp [ppr, ln, pr]
  | [a, b, c], _ => simp [ppr, ln, pr, Nat.mul_assoc]
  | [a, b, c, d], _ => simp [ppr, ln, pr, Nat.mul_assoc]
  | _ :: _ :: _ :: _ :: _ :: _, hf => simp at hf
theorem ppr_pos {ds : List Nat} (h : Shp ds) : ∀ k, 1 ≤ ppr ds k
  | 0 => Nat.le_refl _
  | k + 1 => Nat.mul_le_mul (ppr_pos h k) (ln_pos h k)
theorem ppr_up {ds : List Nat} (h : Shp ds) (k : Nat) : ∀ m, ppr ds k ≤ ppr ds (k + m)
  | 0 => Nat.le_refl _
  | m + 1 => Nat.le_trans (ppr_up h k m) (Nat.le_mul_of_pos_right _ (ln_pos h _))
theorem ppr_le {ds : List Nat} (h : Shp ds) {k : Nat} (hk : k ≤ 4) : ppr ds k ≤ 4096 := by
  have h1 := ppr_up h k (4 - k)
  rw [show k + (4 - k) = 4 by omega, pr_four h] at h1
  exact Nat.le_trans h1 h.max
/-- The number of the first places. -/
def hor (ds : List Nat) (i : Nat → Nat) : Nat → Nat
  | 0 => 0
  | k + 1 => hor ds i k * ln ds k + i k
theorem hor_lt {ds : List Nat} {i : Nat → Nat} : ∀ (k : Nat), (∀ j, j < k → i j < ln ds j) → hor ds i k < ppr ds k
  | 0, _ => by simp [hor, ppr]
  | k + 1, h => by
    have h1 := hor_lt k fun j hj => h j (by omega)
    have h2 := h k (by omega)
    have h3 : (hor ds i k + 1) * ln ds k ≤ ppr ds k * ln ds k := Nat.mul_le_mul_right _ h1
    rw [Nat.add_mul, Nat.one_mul] at h3
    simp only [hor, ppr]
    omega
theorem hor_le {ds : List Nat} (hS : Shp ds) {i : Nat → Nat} {k : Nat} (hk : k ≤ 4) (h : ∀ j, j < k → i j < ln ds j) : hor ds i k < 4096 :=
  Nat.lt_of_lt_of_le (hor_lt k h) (ppr_le hS hk)
/-- The index of a number. -/
def ix (ds : List Nat) (n : Nat) : Nat → Nat
  | 0 => n / ln ds 3 / ln ds 2 / ln ds 1 % ln ds 0
  | 1 => n / ln ds 3 / ln ds 2 % ln ds 1
  | 2 => n / ln ds 3 % ln ds 2
  | 3 => n % ln ds 3
  | _ => 0
theorem ix_lt {ds : List Nat} (hS : Shp ds) (n : Nat) {j : Nat} (hj : j < 4) : ix ds n j < ln ds j := by
  match j, hj with
  | 0, _ => exact Nat.mod_lt _ (ln_pos hS 0)
  | 1, _ => exact Nat.mod_lt _ (ln_pos hS 1)
  | 2, _ => exact Nat.mod_lt _ (ln_pos hS 2)
  | 3, _ => exact Nat.mod_lt _ (ln_pos hS 3)
theorem mul_add_div_lt {m d i : Nat} (h : i < d) : (m * d + i) / d = m := by
  have hd : 0 < d := by omega
  rw [Nat.mul_comm, Nat.mul_add_div hd, Nat.div_eq_of_lt h, Nat.add_zero]
theorem mul_add_mod_lt {m d i : Nat} (h : i < d) : (m * d + i) % d = i := by
  rw [Nat.mul_comm, Nat.mul_add_mod, Nat.mod_eq_of_lt h]
/-- From the index to its number, and back. -/
theorem ix_hor {ds : List Nat} (hS : Shp ds) {i : Nat → Nat} (h : ∀ j, j < 4 → i j < ln ds j) : ∀ j, j < 4 → ix ds (hor ds i 4) j = i j := by
  have h0 := h 0 (by omega); have h1 := h 1 (by omega); have h2 := h 2 (by omega); have h3 := h 3 (by omega)
  intro j hj
  match j, hj with
  | 0, _ => simp only [ix, hor]; rw [mul_add_div_lt h3, mul_add_div_lt h2, mul_add_div_lt h1, mul_add_mod_lt h0]
  | 1, _ => simp only [ix, hor]; rw [mul_add_div_lt h3, mul_add_div_lt h2, mul_add_mod_lt h1]
  | 2, _ => simp only [ix, hor]; rw [mul_add_div_lt h3, mul_add_mod_lt h2]
  | 3, _ => simp only [ix, hor]; rw [mul_add_mod_lt h3]
/-- From the number to its index, and back. -/
theorem hor_ix {ds : List Nat} (hS : Shp ds) {n : Nat} (h : n < pr ds) : hor ds (ix ds n) 4 = n := by
  rw [← pr_four hS] at h
  simp only [ppr, Nat.one_mul] at h
  have e : n / ln ds 3 / ln ds 2 / ln ds 1 < ln ds 0 := by
    rw [Nat.div_lt_iff_lt_mul (ln_pos hS 1), Nat.div_lt_iff_lt_mul (ln_pos hS 2), Nat.div_lt_iff_lt_mul (ln_pos hS 3)]
    exact h
  simp only [hor, ix, Nat.zero_mul, Nat.zero_add]
  rw [Nat.mod_eq_of_lt e]
  have f := fun a b : Nat => Nat.div_add_mod' a b
  rw [f, f, f]
theorem strd_four {ds : List Nat} (h : Shp ds) : (0 < ds.length → strd ds 0 = ln ds 1 * ln ds 2 * ln ds 3) ∧ (1 < ds.length → strd ds 1 = ln ds 2 * ln ds 3) ∧ (2 < ds.length → strd ds 2 = ln ds 3) ∧ (3 < ds.length → strd ds 3 = 1) := by
  have hf := h.few
  match ds, hf with
  | [], _ => simp
  | [a], _ => simp [strd, ln, pr]
  | [a, b], _ => simp [strd, ln, pr]
  | [a, b, c], _ => simp [strd, ln, pr]
  | [a, b, c, d], _ => simp [strd, ln, pr, Nat.mul_assoc]
  | _ :: _ :: _ :: _ :: _ :: _, hf => simp at hf
/-- The document's way to an index. -/
theorem ix_strd {ds : List Nat} (h : Shp ds) (n : Nat) {k : Nat} (hk : k < ds.length) : n / strd ds k % ln ds k = ix ds n k := by
  have hf := h.few
  obtain ⟨s0, s1, s2, s3⟩ := strd_four h
  have d0 := ln_pos h 0
  match k, hk with
  | 0, hk => rw [s0 hk, Nat.mul_comm, ← Nat.div_div_eq_div_mul, Nat.mul_comm, ← Nat.div_div_eq_div_mul]; rfl
  | 1, hk => rw [s1 hk, Nat.mul_comm, ← Nat.div_div_eq_div_mul]; rfl
  | 2, hk => rw [s2 hk]; rfl
  | 3, hk => rw [s3 hk, Nat.div_one]; rfl
  | k + 4, hk => omega
theorem ix_out {ds : List Nat} (n : Nat) {k : Nat} (hk : ds.length ≤ k) (h4 : k < 4) : ix ds n k = 0 := by
  match k, h4 with
  | 0, _ => simp only [ix]; rw [ln_out (k := 0) hk, Nat.mod_one]
  | 1, _ => simp only [ix]; rw [ln_out (k := 1) hk, Nat.mod_one]
  | 2, _ => simp only [ix]; rw [ln_out (k := 2) hk, Nat.mod_one]
  | 3, _ => simp only [ix]; rw [ln_out (k := 3) hk, Nat.mod_one]
/-- The document's way to a number. -/
def sm (ds : List Nat) (i : Nat → Nat) : Nat → Nat
  | 0 => 0
  | k + 1 => sm ds i k + i k * strd ds k
theorem sm_up (ds : List Nat) (i : Nat → Nat) (k : Nat) : ∀ m, sm ds i k ≤ sm ds i (k + m)
  | 0 => Nat.le_refl _
  | m + 1 => Nat.le_trans (sm_up ds i k m) (Nat.le_add_right _ _)
theorem sm_hor {ds : List Nat} (h : Shp ds) {i : Nat → Nat} (hi : ∀ j, j < 4 → i j < ln ds j) : sm ds i ds.length = hor ds i 4 := by
  have hf := h.few
  have i0 := hi 0 (by omega); have i1 := hi 1 (by omega); have i2 := hi 2 (by omega); have i3 := hi 3 (by omega)
  match ds, hf with
  | [], _ => simp [ln] at i0 i1 i2 i3; simp [sm, hor, ln, i0, i1, i2, i3]
  | [a], _ => simp [ln] at i0 i1 i2 i3; simp [sm, hor, ln, strd, pr, i1, i2, i3]
  | [a, b], _ => simp [ln] at i0 i1 i2 i3; simp [sm, hor, ln, strd, pr, i2, i3]
  | [a, b, c], _ => simp [ln] at i0 i1 i2 i3; simp [sm, hor, ln, strd, pr, i3, Nat.add_mul, Nat.mul_assoc]
  | [a, b, c, d], _ => simp [sm, hor, ln, strd, pr, Nat.add_mul, Nat.mul_assoc]
  | _ :: _ :: _ :: _ :: _ :: _, hf => simp at hf
theorem sm_le {ds : List Nat} (h : Shp ds) {i : Nat → Nat} (hi : ∀ j, j < 4 → i j < ln ds j) {k : Nat} (hk : k ≤ ds.length) : sm ds i k < 4096 := by
  have := sm_up ds i k (ds.length - k)
  rw [show k + (ds.length - k) = ds.length by omega, sm_hor h hi] at this
  exact Nat.lt_of_le_of_lt this (hor_le h (Nat.le_refl _) hi)
end Go.Proofs.Ytccknfhhmdoffaa

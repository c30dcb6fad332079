/-
  Plain mathematics of views: an index's cell, whether all are among so many, whether two are the same. No condition.
-/
import Derived.Test.YtccknfhhmdoffaaSh4V
namespace Go.Proofs.Ytccknfhhmdoffaa
set_option linter.unusedVariables false

/-- A stride. -/
def sg (ss : List Int) (k : Nat) : Int := ss[k]?.getD 0
theorem sg_in {ss : List Int} {k : Nat} {z : Int} (h : ss[k]? = some z) : sg ss k = z := by simp [sg, h]
/-- The cell of an index, by the first axes. -/
def cl (o : Int) (ss : List Int) (p : Nat → Int) : Nat → Int
  | 0 => o
  | k + 1 => cl o ss p k + p k * sg ss k
theorem cl_congr {o o' : Int} {ss ss' : List Int} {p q : Nat → Int} (ho : o = o') : ∀ k, (∀ j, j < k → p j * sg ss j = q j * sg ss' j) → cl o ss p k = cl o' ss' q k
  | 0, _ => ho
  | k + 1, h => by simp only [cl]; rw [cl_congr ho k fun j hj => h j (by omega), h k (by omega)]
/-- The cell of a number's index. -/
def ce (o : Int) (ss : List Int) (ds : List Nat) (n : Nat) : Int := cl o ss (fun j => (ix ds n j : Int)) ds.length
def Among (o : Int) (ss : List Int) (ds : List Nat) (c : Int) : Prop := ∀ n, n < pr ds → 0 ≤ ce o ss ds n ∧ ce o ss ds n < c
def Twice (o : Int) (ss : List Int) (ds : List Nat) : Prop := ∃ m n, m < n ∧ n < pr ds ∧ ce o ss ds m = ce o ss ds n
theorem idx_num {ds : List Nat} (hS : Shp ds) {i : Nat → Nat} (hi : ∀ j, j < 4 → i j < ln ds j) : ∃ n, n < pr ds ∧ ∀ j, j < 4 → ix ds n j = i j :=
  ⟨hor ds i 4, by rw [← pr_four hS]; exact hor_lt 4 hi, ix_hor hS hi⟩
theorem ce_idx {o : Int} {ss : List Int} {ds : List Nat} (hS : Shp ds) {i : Nat → Nat} {n : Nat} (h : ∀ j, j < 4 → ix ds n j = i j) : ce o ss ds n = cl o ss (fun j => (i j : Int)) ds.length :=
  cl_congr rfl _ fun j hj => by rw [h j (by have := hS.few; omega)]
/-- The least, and the greatest cell. -/
def lo (o : Int) (ss : List Int) (ds : List Nat) : Nat → Int
  | 0 => o
  | k + 1 => lo o ss ds k + min (((ln ds k : Int) - 1) * sg ss k) 0
def hi (o : Int) (ss : List Int) (ds : List Nat) : Nat → Int
  | 0 => o
  | k + 1 => hi o ss ds k + max (((ln ds k : Int) - 1) * sg ss k) 0
theorem mul_mid {p m s : Int} (h0 : 0 ≤ p) (h1 : p ≤ m) : min (m * s) 0 ≤ p * s ∧ p * s ≤ max (m * s) 0 := by
  rcases Int.lt_or_le s 0 with hs | hs
  · have a := Int.mul_le_mul_of_nonpos_right h1 (Int.le_of_lt hs)
    have b := Int.mul_le_mul_of_nonpos_right h0 (Int.le_of_lt hs)
    rw [Int.zero_mul] at b
    omega
  · have a := Int.mul_le_mul_of_nonneg_right h1 hs
    have b := Int.mul_le_mul_of_nonneg_right h0 hs
    rw [Int.zero_mul] at b
    omega
theorem cl_mid {o : Int} {ss : List Int} {ds : List Nat} {i : Nat → Nat} : ∀ k, (∀ j, j < k → i j < ln ds j) → lo o ss ds k ≤ cl o ss (fun j => (i j : Int)) k ∧ cl o ss (fun j => (i j : Int)) k ≤ hi o ss ds k
  | 0, _ => ⟨Int.le_refl _, Int.le_refl _⟩
  | k + 1, h => by
    have a := cl_mid (o := o) (ss := ss) k fun j hj => h j (by omega)
    have hk := h k (by omega)
    have b := mul_mid (p := (i k : Int)) (m := (ln ds k : Int) - 1) (s := sg ss k) (by omega) (by omega)
    simp only [cl, lo, hi]
    omega
theorem lo_idx {o : Int} {ss : List Int} {ds : List Nat} (hS : Shp ds) : ∀ k, cl o ss (fun j => ((if sg ss j < 0 then ln ds j - 1 else 0 : Nat) : Int)) k = lo o ss ds k
  | 0 => rfl
  | k + 1 => by
    have hp := ln_pos hS k
    simp only [cl, lo]
    rw [lo_idx hS k]
    split
    · rename_i hs
      have a := Int.mul_le_mul_of_nonpos_right (show (0 : Int) ≤ (ln ds k : Int) - 1 by omega) (Int.le_of_lt hs)
      rw [Int.zero_mul] at a
      rw [show ((ln ds k - 1 : Nat) : Int) = (ln ds k : Int) - 1 by omega]
      omega
    · rename_i hs
      have a := Int.mul_le_mul_of_nonneg_right (show (0 : Int) ≤ (ln ds k : Int) - 1 by omega) (Int.not_lt.1 hs)
      rw [Int.zero_mul] at a
      rw [show ((0 : Nat) : Int) * sg ss k = 0 by simp]
      omega
theorem hi_idx {o : Int} {ss : List Int} {ds : List Nat} (hS : Shp ds) : ∀ k, cl o ss (fun j => ((if sg ss j < 0 then 0 else ln ds j - 1 : Nat) : Int)) k = hi o ss ds k
  | 0 => rfl
  | k + 1 => by
    have hp := ln_pos hS k
    simp only [cl, hi]
    rw [hi_idx hS k]
    split
    · rename_i hs
      have a := Int.mul_le_mul_of_nonpos_right (show (0 : Int) ≤ (ln ds k : Int) - 1 by omega) (Int.le_of_lt hs)
      rw [Int.zero_mul] at a
      rw [show ((0 : Nat) : Int) * sg ss k = 0 by simp]
      omega
    · rename_i hs
      have a := Int.mul_le_mul_of_nonneg_right (show (0 : Int) ≤ (ln ds k : Int) - 1 by omega) (Int.not_lt.1 hs)
      rw [Int.zero_mul] at a
      rw [show ((ln ds k - 1 : Nat) : Int) = (ln ds k : Int) - 1 by omega]
      omega
theorem cl_zero (o : Int) (ss : List Int) : ∀ k, cl o ss (fun _ => ((0 : Nat) : Int)) k = o
  | 0 => rfl
  | k + 1 => by simp only [cl]; rw [cl_zero o ss k]; simp
theorem cl_one (o : Int) (ss : List Int) (k : Nat) : ∀ m, cl o ss (fun j => ((if j = k then 1 else 0 : Nat) : Int)) m = if k < m then o + sg ss k else o
  | 0 => by simp [cl]
  | m + 1 => by
    simp only [cl]
    rw [cl_one o ss k m]
    by_cases h : m = k
    · subst h; simp
    · rw [if_neg h]
      by_cases h2 : k < m
      · rw [if_pos h2, if_pos (by omega)]; simp
      · rw [if_neg h2, if_neg (by omega)]; simp
/-- Whether all cells are among so many: the program's way. -/
structure Way (o : Int) (ss : List Int) (ds : List Nat) (c : Int) : Prop where
  off : 0 ≤ o ∧ o < c
  str : ∀ k, k < ds.length → ln ds k ≠ 1 → -c < sg ss k ∧ sg ss k < c
  low : 0 ≤ lo o ss ds ds.length
  top : hi o ss ds ds.length < c
theorem way_of {o : Int} {ss : List Int} {ds : List Nat} (hS : Shp ds) {c : Int} (h : Among o ss ds c) : Way o ss ds c := by
  have h4 := hS.few
  have get : ∀ i : Nat → Nat, (∀ j, j < 4 → i j < ln ds j) → 0 ≤ cl o ss (fun j => (i j : Int)) ds.length ∧ cl o ss (fun j => (i j : Int)) ds.length < c := fun i hi => by
    obtain ⟨n, hn, he⟩ := idx_num hS hi
    have := h n hn
    rwa [ce_idx hS he] at this
  have h0 := get (fun _ => 0) fun j _ => ln_pos hS j
  rw [cl_zero] at h0
  refine ⟨h0, fun k hk hl => ?_, ?_, ?_⟩
  · have hp := ln_pos hS k
    have h1 := get (fun j => if j = k then 1 else 0) fun j _ => by
      show (if j = k then 1 else 0) < ln ds j
      split
      · rename_i e; subst e; omega
      · exact ln_pos hS j
    rw [cl_one, if_pos hk] at h1
    omega
  · have h1 := get (fun j => if sg ss j < 0 then ln ds j - 1 else 0) fun j _ => by
      have hp := ln_pos hS j
      show (if sg ss j < 0 then ln ds j - 1 else 0) < ln ds j
      split <;> omega
    rw [lo_idx hS] at h1
    exact h1.1
  · have h1 := get (fun j => if sg ss j < 0 then 0 else ln ds j - 1) fun j _ => by
      have hp := ln_pos hS j
      show (if sg ss j < 0 then 0 else ln ds j - 1) < ln ds j
      split <;> omega
    rw [hi_idx hS] at h1
    exact h1.2
theorem Way.among {o : Int} {ss : List Int} {ds : List Nat} (hS : Shp ds) {c : Int} (h : Way o ss ds c) : Among o ss ds c := fun n hn => by
  have a := cl_mid (o := o) (ss := ss) (i := ix ds n) ds.length fun j hj => ix_lt hS n (by have := hS.few; omega)
  have := h.low
  have := h.top
  unfold ce
  omega
/-! ### What the document cuts -/
def ct (z : Int) : Int := if 1099511627776 < z then 1099511627776 else if z < -1099511627776 then -1099511627776 else z
theorem ct_mid {z c : Int} (hc : c ≤ 4096) (h : -c < z ∧ z < c) : ct z = z := by unfold ct; split <;> (try split) <;> omega
theorem ct_back {z c : Int} (hc : c ≤ 4096) (h : -c < ct z ∧ ct z < c) : -c < z ∧ z < c := by unfold ct at h; split at h <;> (try split at h) <;> omega
theorem ct_off {o c : Int} (hc : c ≤ 4096) (h : 0 ≤ ct o ∧ ct o < c) : 0 ≤ o ∧ o < c := by unfold ct at h; split at h <;> (try split at h) <;> omega
theorem ct_off' {o c : Int} (hc : c ≤ 4096) (h : 0 ≤ o ∧ o < c) : ct o = o := ct_mid hc (by omega)
theorem ct_abs (z : Int) : -1099511627776 ≤ ct z ∧ ct z ≤ 1099511627776 := by unfold ct; split <;> (try split) <;> omega
theorem sg_ct (ss : List Int) (k : Nat) : sg (ss.map ct) k = ct (sg ss k) := by
  unfold sg
  rw [List.getElem?_map]
  cases ss[k]? <;> rfl
theorem lo_congr {o : Int} {ss ss' : List Int} {ds : List Nat} : ∀ k, (∀ j, j < k → ln ds j ≠ 1 → sg ss j = sg ss' j) → lo o ss ds k = lo o ss' ds k
  | 0, _ => rfl
  | k + 1, h => by
    simp only [lo]
    rw [lo_congr k fun j hj => h j (by omega)]
    by_cases hl : ln ds k = 1
    · rw [hl]; simp
    · rw [h k (by omega) hl]
theorem hi_congr {o : Int} {ss ss' : List Int} {ds : List Nat} : ∀ k, (∀ j, j < k → ln ds j ≠ 1 → sg ss j = sg ss' j) → hi o ss ds k = hi o ss' ds k
  | 0, _ => rfl
  | k + 1, h => by
    simp only [hi]
    rw [hi_congr k fun j hj => h j (by omega)]
    by_cases hl : ln ds k = 1
    · rw [hl]; simp
    · rw [h k (by omega) hl]
theorem Way.cut {o : Int} {ss : List Int} {ds : List Nat} {c : Int} (hc : c ≤ 4096) (h : Way o ss ds c) : Way (ct o) (ss.map ct) ds c := by
  have e : ∀ j, j < ds.length → ln ds j ≠ 1 → sg (ss.map ct) j = sg ss j := fun j hj hl => by rw [sg_ct, ct_mid hc (h.str j hj hl)]
  refine ⟨?_, fun k hk hl => ?_, ?_, ?_⟩
  · rw [ct_off' hc h.off]; exact h.off
  · rw [e k hk hl]; exact h.str k hk hl
  · rw [ct_off' hc h.off, lo_congr _ e]; exact h.low
  · rw [ct_off' hc h.off, hi_congr _ e]; exact h.top
theorem Way.uncut {o : Int} {ss : List Int} {ds : List Nat} {c : Int} (hc : c ≤ 4096) (h : Way (ct o) (ss.map ct) ds c) : Way o ss ds c := by
  have hs : ∀ k, k < ds.length → ln ds k ≠ 1 → -c < sg ss k ∧ sg ss k < c := fun k hk hl => by
    have := h.str k hk hl
    rw [sg_ct] at this
    exact ct_back hc this
  have ho := ct_off hc h.off
  have e : ∀ j, j < ds.length → ln ds j ≠ 1 → sg (ss.map ct) j = sg ss j := fun j hj hl => by rw [sg_ct, ct_mid hc (hs j hj hl)]
  have hl := h.low
  have ht := h.top
  rw [ct_off' hc ho, lo_congr _ e] at hl
  rw [ct_off' hc ho, hi_congr _ e] at ht
  exact ⟨ho, hs, hl, ht⟩
theorem among_cut {o : Int} {ss : List Int} {ds : List Nat} (hS : Shp ds) {c : Int} (hc : c ≤ 4096) : Among (ct o) (ss.map ct) ds c ↔ Among o ss ds c :=
  ⟨fun h => ((way_of hS h).uncut hc).among hS, fun h => ((way_of hS h).cut hc).among hS⟩
/-- A cell, cut or not, of an index of a view that can be. -/
theorem cl_cut {o : Int} {ss : List Int} {ds : List Nat} (hS : Shp ds) {c : Int} (hc : c ≤ 4096) (h : Among o ss ds c) {p : Nat → Int} {k : Nat} (hk : k ≤ ds.length) (hp : ∀ j, j < k → 0 ≤ p j ∧ p j < (ln ds j : Int)) : cl (ct o) (ss.map ct) p k = cl o ss p k := by
  have w := way_of hS h
  refine cl_congr (ct_off' hc w.off) k fun j hj => ?_
  by_cases hl : ln ds j = 1
  · have := hp j hj
    rw [hl] at this
    rw [show p j = 0 by omega, Int.zero_mul, Int.zero_mul]
  · rw [sg_ct, ct_mid hc (w.str j (by omega) hl)]
theorem ce_cut {o : Int} {ss : List Int} {ds : List Nat} (hS : Shp ds) {c : Int} (hc : c ≤ 4096) (h : Among o ss ds c) (n : Nat) : ce (ct o) (ss.map ct) ds n = ce o ss ds n :=
  cl_cut hS hc h (Nat.le_refl _) fun j hj => ⟨by omega, by have := ix_lt hS n (j := j) (by have := hS.few; omega); omega⟩
/-! ### What Check answers -/
def Chk (o : Int) (zs ss : List Int) (c e : Int) : Prop :=
  ((zs.length ≠ ss.length ∨ c < 0 ∨ 4096 < c) ∧ e = 1) ∨
  (zs.length = ss.length ∧ 0 ≤ c ∧ c ≤ 4096 ∧ errV zs ≠ 0 ∧ e = errV zs) ∨
  (zs.length = ss.length ∧ 0 ≤ c ∧ c ≤ 4096 ∧ ∃ ds, zs = ints ds ∧ Shp ds ∧ ((¬ Among o ss ds c ∧ e = 6) ∨ (Among o ss ds c ∧ Twice o ss ds ∧ e = 7) ∨ (Among o ss ds c ∧ ¬ Twice o ss ds ∧ e = 0)))
theorem errV_shp {zs : List Int} (h : errV zs = 0) : ∃ ds, zs = ints ds ∧ Shp ds := by
  unfold errV at h
  split at h
  · cases h
  · cases hs : sz zs with
    | none => rw [hs] at h; cases h
    | some s => obtain ⟨ds, h1, h2, _⟩ := sz_some hs; exact ⟨ds, h1, h2⟩
theorem chk_any (o : Int) (zs ss : List Int) (c : Int) : ∃ e, Chk o zs ss c e := by
  by_cases h1 : zs.length ≠ ss.length ∨ c < 0 ∨ 4096 < c
  · exact ⟨1, .inl ⟨h1, rfl⟩⟩
  · by_cases h2 : errV zs = 0
    · obtain ⟨ds, he, hS⟩ := errV_shp h2
      by_cases h3 : Among o ss ds c
      · by_cases h4 : Twice o ss ds
        · exact ⟨7, .inr (.inr ⟨by omega, by omega, by omega, ds, he, hS, .inr (.inl ⟨h3, h4, rfl⟩)⟩)⟩
        · exact ⟨0, .inr (.inr ⟨by omega, by omega, by omega, ds, he, hS, .inr (.inr ⟨h3, h4, rfl⟩)⟩)⟩
      · exact ⟨6, .inr (.inr ⟨by omega, by omega, by omega, ds, he, hS, .inl ⟨h3, rfl⟩⟩)⟩
    · exact ⟨errV zs, .inr (.inl ⟨by omega, by omega, by omega, h2, rfl⟩)⟩
/-- A view that can be. -/
structure Ok (o : Int) (ds : List Nat) (ss : List Int) : Prop where
  len : ss.length = ds.length
  shp : Shp ds
  am : Among o ss ds 4096
  once : ¬ Twice o ss ds
theorem Chk.ok {o : Int} {zs ss : List Int} {c : Int} (hc : c = 4096) (h : Chk o zs ss c 0) : ∃ ds, zs = ints ds ∧ Ok o ds ss := by
  subst hc
  rcases h with ⟨_, h⟩ | ⟨_, _, _, h1, h2⟩ | ⟨h1, _, _, ds, h2, h3, ⟨_, h⟩ | ⟨_, _, h⟩ | ⟨h4, h5, _⟩⟩
  · cases h
  · exact absurd h2.symm h1
  · cases h
  · cases h
  · exact ⟨ds, h2, by rw [← h1, h2, ints_len], h3, h4, h5⟩
theorem Ok.chk {o : Int} {ds : List Nat} {ss : List Int} (h : Ok o ds ss) : Chk o (ints ds) ss 4096 0 :=
  .inr (.inr ⟨by rw [ints_len, h.len], by omega, by omega, ds, rfl, h.shp, .inr (.inr ⟨h.am, h.once, rfl⟩)⟩)
end Go.Proofs.Ytccknfhhmdoffaa

/-
  What the document's Stride answers. No condition but that a shape lies there.
-/
import Derived.Test.YtccknfhhmdoffaaSh0
namespace Go.Proofs.Ytccknfhhmdoffaa
set_option linter.unusedVariables false
open Go.RowKit

theorem ints_len (ds : List Nat) : (ints ds).length = ds.length := by simp [ints]
theorem ZAt.nat {w : World} {A : Option Addr} {C : Nat} {ds : List Nat} (h : ZAt w A C (ints ds)) {i d : Nat} (hd : ds[i]? = some d) : ∃ b o, A = some ⟨b, o, none⟩ ∧ b < w.heap.size ∧ w.cell? ⟨b, o + i, none⟩ = some (.int .i64 (d : Int)) := by
  obtain ⟨b, o, h1, h2, h3, _⟩ := h.get i (Int.ofNat d) (by simp [ints, hd])
  exact ⟨b, o, h1, h2, h3⟩
/-- How long an axis is; 1 behind the axes. -/
def ln (ds : List Nat) (k : Nat) : Nat := ds[k]?.getD 1
theorem ln_in {ds : List Nat} {k d : Nat} (h : ds[k]? = some d) : ln ds k = d := by simp [ln, h]
theorem ln_out {ds : List Nat} {k : Nat} (h : ds.length ≤ k) : ln ds k = 1 := by simp [ln, h]
theorem ln_pos {ds : List Nat} (h : Shp ds) (k : Nat) : 1 ≤ ln ds k := by
  rcases Nat.lt_or_ge k ds.length with hk | hk
  · rw [ln_in (List.getElem?_eq_getElem hk)]; exact h.pos _ (List.getElem_mem hk)
  · rw [ln_out hk]; exact Nat.le_refl _
theorem pr_drop : ∀ (ds : List Nat) (k : Nat), (∀ d ∈ ds, 1 ≤ d) → pr (ds.drop k) ≤ pr ds
  | ds, 0, _ => by simp
  | [], k + 1, _ => by simp
  | d :: ds, k + 1, h => by
    have := pr_drop ds k fun x hx => h x (List.mem_cons_of_mem _ hx)
    have h1 := h d (List.mem_cons_self ..)
    have : 1 * pr ds ≤ d * pr ds := Nat.mul_le_mul_right _ h1
    simp only [List.drop_succ_cons, pr]
    omega
theorem pr_mem {ds : List Nat} (h : ∀ d ∈ ds, 1 ≤ d) {d : Nat} (hd : d ∈ ds) : d ≤ pr ds := by
  induction ds with
  | nil => cases hd
  | cons x ds ih =>
    have hp := pr_pos (ds := ds) fun x hx => h x (List.mem_cons_of_mem _ hx)
    have hx := h x (List.mem_cons_self ..)
    rcases List.mem_cons.1 hd with rfl | hd
    · exact Nat.le_mul_of_pos_right _ hp
    · exact Nat.le_trans (ih (fun x hx => h x (List.mem_cons_of_mem _ hx)) hd) (Nat.le_mul_of_pos_left _ hx)
/-- By how much a number is greater if that of an axis is. -/
def strd (ds : List Nat) (k : Nat) : Nat := pr (ds.drop (k + 1))
theorem strd_le {ds : List Nat} (h : Shp ds) (k : Nat) : strd ds k ≤ 4096 := Nat.le_trans (pr_drop _ _ h.pos) h.max
theorem strd_pos {ds : List Nat} (h : Shp ds) (k : Nat) : 1 ≤ strd ds k := pr_pos fun d hd => h.pos d (List.mem_of_mem_drop hd)
theorem ret_i64 {a b : Int} (h : a = b) : Ending.returned (.int .i64 a) = .returned (.int .i64 b) := by rw [h]

set_option maxHeartbeats 1000000 in
/-- The document's Stride. -/
theorem stride_any (W : World) (A : Option Addr) (C : Nat) (ds : List Nat) (hS : Shp ds) (hZ : ZAt W A C (ints ds)) (k : Nat) (hk : k < ds.length) : AnsQ W 41 #[.slice A ds.length C, .int .i64 (k : Int)] (.int .i64 (strd ds k : Int)) := by
  intro w hw
  have hlen := hZ.len
  have hcap := hZ.cap
  have hmax : C ≤ 9223372036854775807 := by have := hZ.max; unfold maxLen at this; omega
  rw [ints_len] at hlen hcap
  obtain ⟨b, o, rfl, hb, _⟩ := hZ.nat (List.getElem?_eq_getElem hk)
  have HC : Hid (∀ j d : Nat, ds[j]? = some d → w.cell? ⟨b, o + j, none⟩ = some (.int .i64 (d : Int))) := fun j d hd => by
    obtain ⟨b', o', e, hb', c⟩ := hZ.nat hd
    cases e
    exact ((bcell hw).1 b (o + j) hb).trans c
  have hP := strd_le hS k
  have HP : Hid (strd ds k = pr (ds.drop (k + 1))) := rfl
  have HS : Hid (∀ d ∈ ds, 1 ≤ d) := hS.pos
  obtain ⟨P, hPe⟩ : ∃ P, strd ds k = P := ⟨_, rfl⟩
  rw [hPe] at hP HP ⊢
  obtain ⟨L, hL⟩ : ∃ L, ds.length = L := ⟨_, rfl⟩
  have HL : Hid (ds.length = L) := hL
  rw [hL] at hlen hcap hk ⊢
  clear hZ hL hPe hS
  by_cases hC : C = k + 1
  · have HE : Hid (P = 1) := by
      unfold Hid
      rw [HP.out, show k + 1 = ds.length by rw [HL.out]; omega, List.drop_length]; rfl
    have hL0 : ((L - (k + 1) : Nat) : Int) = 0 := by omega
    go_enter Try.func41, Try.ntmps41
    go_wp2
    go_loopw [5, 13] (fun x v wr => x = .int .i64 1 ∧ v = .int .i64 0 ∧ wr = w) (fun _ _ _ => 0)
    case atStart => exact ⟨rfl, rfl, rfl⟩
    case round =>
      obtain ⟨rfl, rfl, rfl⟩ := hrel
      go_wp2
      go_ret
      exact ⟨ret_i64 (by rw [HE.out]; rfl), rfl⟩
  · go_enter Try.func41, Try.ntmps41
    go_wp2
    go_loopw [5, 13] (fun x v wr => ∃ s j : Nat, x = .int .i64 s ∧ v = .int .i64 j ∧ j + (k + 1) ≤ L ∧ s ≤ 4096 ∧ Hid (s * pr (ds.drop (k + 1 + j)) = P) ∧ wr = w) (fun _ v _ => L - (intOf v).toNat)
    case atStart => exact ⟨1, 0, rfl, rfl, by omega, by omega, by unfold Hid; rw [Nat.one_mul, HP.out], rfl⟩
    case round =>
      obtain ⟨s, j, rfl, rfl, hj, hs, HI, rfl⟩ := hrel
      by_cases hlt : j + (k + 1) < L
      · obtain ⟨d, hd⟩ : ∃ d, ds[k + 1 + j]? = some d := ⟨_, List.getElem?_eq_getElem (by rw [HL.out]; omega)⟩
        have c0 := HC.out _ _ hd
        have HD : Hid (s * d * pr (ds.drop (k + 1 + (j + 1))) = P) := by
          unfold Hid; rw [← HI.out, drop_consZ hd, pr, Nat.mul_assoc]; rfl
        have hm : s * d ≤ 4096 := by
          have h1 := HD.out
          have h2 : 1 ≤ pr (ds.drop (k + 1 + (j + 1))) := pr_pos fun d hd => HS.out d (List.mem_of_mem_drop hd)
          have := Nat.le_mul_of_pos_right (s * d) h2
          omega
        obtain ⟨m, hme⟩ : ∃ m, s * d = m := ⟨_, rfl⟩
        have hmi : (s : Int) * (d : Int) = (m : Int) := by rw [← Int.natCast_mul, hme]
        rw [hme] at HD hm
        have hmw : wrap64 (m : Int) = (m : Int) := by unfold wrap64; omega
        have e1 : o + (k + 1) + j = o + (k + 1 + j) := by omega
        have hlt' : (j : Int) < ((L - (k + 1) : Nat) : Int) := by omega
        rw [← e1] at c0
        clear HI hd e1 hme
        have HM : Hid (m ≤ 4096) := hm
        clear hs hm hP
        go_wp2
        go_roundw
        case rel => exact ⟨m, j + 1, by first | rfl | (rw [hmw]; try rw [hmw]), by go_num, by omega, HM.out, HD, by first | rfl | trivial⟩
        case measure => simp [intOf]; omega
      · have hj' : k + 1 + j = L := by omega
        have HE : Hid (s = P) := by
          unfold Hid; rw [← HI.out, hj', ← HL.out, List.drop_length, pr, Nat.mul_one]
        have hlt' : ¬ (j : Int) < ((L - (k + 1) : Nat) : Int) := by omega
        clear HI
        go_wp2
        go_ret
        exact ⟨ret_i64 (by rw [HE.out]), rfl⟩
end Go.Proofs.Ytccknfhhmdoffaa

/-
  A list spread out, so far; a new row of words; the radices' product so far; a call that answers radices, their number a letter. No condition.
-/
import Derived.Test.YtkemlbjcfbnfiaaGreatDoorMoA
namespace Go.Proofs.YtkemlbjcfbnfiaaGreatDoor
set_option linter.unusedVariables false
open Go.RowKit

theorem new_own {w : World} {base g n : Nat} (hR : w.ownsRow base 22 1 (.slice (some ⟨g, 0, none⟩) n n) n (madeCells (Value.int .u64 0).cells (n * 1)).toList) : OwnU w base (some ⟨g, 0, none⟩) n (lf n fun _ => 0) := by
  have e : (madeCells (Value.int .u64 0).cells (n * 1)).toList = ucells (lf n fun _ => 0) := by
    rw [made_list rfl, lf_zero]; simp [ucells]
  unfold OwnU
  rw [← e, lf_len]
  exact hR
/-- The first k numbers laid at each r-th place. -/
def spF (r : Nat) (xs : List Nat) (k j : Nat) : Nat := if j % r = 0 ∧ j / r < k then atL xs (j / r) else 0
theorem spF_zero (r n : Nat) (xs : List Nat) : lf n (spF r xs 0) = lf n fun _ => 0 := lf_ext fun j _ => if_neg fun h => absurd h.2 (Nat.not_lt_zero _)
theorem spF_set {r : Nat} (hr : 1 ≤ r) (n : Nat) (xs : List Nat) {k q : Nat} (hq : k * r = q) : (lf n (spF r xs k)).set q (atL xs k) = lf n (spF r xs (k + 1)) := by
  refine lf_set fun j _ => ?_
  unfold spF
  have hd := Nat.div_add_mod j r
  by_cases e : j = q
  · subst e
    rw [if_pos rfl, ← hq, Nat.mul_mod_left, Nat.mul_div_cancel _ (by omega), if_pos ⟨rfl, by omega⟩]
  · rw [if_neg e]
    by_cases h : j % r = 0 ∧ j / r < k
    · rw [if_pos h, if_pos ⟨h.1, by omega⟩]
    · rw [if_neg h, if_neg]
      rintro ⟨h1, h2⟩
      by_cases h3 : j / r < k
      · exact h ⟨h1, h3⟩
      · have h4 : j / r = k := by omega
        rw [h4, h1, Nat.mul_comm, hq] at hd
        omega
theorem spF_all {r : Nat} (hr : 1 ≤ r) (xs : List Nat) : lf (r * xs.length) (spF r xs xs.length) = spr r xs := by
  unfold spr
  refine lf_ext fun j hj => ?_
  have h : j / r < xs.length := Nat.div_lt_of_lt_mul hj
  unfold spF
  by_cases e : j % r = 0
  · rw [if_pos ⟨e, h⟩, if_pos e]
  · rw [if_neg fun h' => e h'.1, if_neg e]
theorem spr_lt {r : Nat} {xs : List Nat} {b : Nat} (hb : 1 ≤ b) (h : ∀ y ∈ xs, y < b) : ∀ y ∈ spr r xs, y < b := lf_lt fun j hj => by
  by_cases e : j % r = 0
  · rw [if_pos e]
    exact h _ (atL_mem (Nat.div_lt_of_lt_mul hj))
  · rw [if_neg e]
    omega
theorem RadY.useL {W : World} {f : FuncId} {z : Int} {l : List Nat} {L : Nat} (h : RadY W f z l) (hl : l.length = L) {w : World} (hw : Below W.heap.size W w) {R : Ending → World → Prop} (k : ∀ A C w', ZAt w' A C (ints l) → Below w.heap.size w w' → R (.returned (.tuple #[.slice A L C, .bool true])) w') : Calls Tryz.prog f #[.int .i64 z] w R := by
  subst hl
  exact h.use hw k
theorem pr_next {l : List Nat} {k d : Nat} (h : l[k]? = some d) : pr (l.take k) * d = pr (l.take (k + 1)) := (tn_take h 0).2.symm
theorem pr_le {l : List Nat} (h : ∀ r ∈ l, 1 ≤ r) (k : Nat) : pr (l.take k) ≤ pr l := by
  rw [pr_cut l k]
  exact Nat.le_mul_of_pos_right _ (pr_pos fun d hd => h d (List.mem_of_mem_drop hd))
end Go.Proofs.YtkemlbjcfbnfiaaGreatDoor

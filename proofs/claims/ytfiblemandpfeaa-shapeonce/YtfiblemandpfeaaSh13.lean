/-
  What the statements' alive answers: true. No condition.
-/
import Derived.Test.YtfiblemandpfeaaSh12
namespace Go.Proofs.Ytfiblemandpfeaa
set_option linter.unusedVariables false
open Go.RowKit Go.Shelf

theorem shp23 : Shp [2, 3] := ⟨by decide, by simp, by decide⟩
theorem ints_new (w : World) : ZAt (w.alloc (.cells #[.int .i64 2, .int .i64 3] 3)) (some ⟨w.heap.size, 0, none⟩) 2 (ints [2, 3]) := by
  refine ⟨by simp [ints], by unfold maxLen; omega, fun i z hz => ?_⟩
  have hb := Blk.new w 3 #[.int .i64 2, .int .i64 3]
  have hi : i < 2 := by simpa [ints] using (List.getElem?_eq_some_iff.1 hz).1
  refine ⟨w.heap.size, 0, rfl, hb.lt, ?_, ?_⟩
  · rw [Nat.zero_add, hb.cell]
    match i, hi with
    | 0, _ => simp [ints] at hz; subst hz; rfl
    | 1, _ => simp [ints] at hz; subst hz; rfl
  · match i, hi with
    | 0, _ => simp [ints] at hz; subst hz; unfold I64; omega
    | 1, _ => simp [ints] at hz; subst hz; unfold I64; omega
def p12 : Nat → Int
  | 0 => 1
  | 1 => 2
  | _ => 0
theorem in12 : ∀ j, j < 4 → In [2, 3] p12 j := by
  intro j hj
  match j, hj with
  | 0, _ => exact ⟨by decide, by decide⟩
  | 1, _ => exact ⟨by decide, by decide⟩
  | 2, _ => exact ⟨by decide, by decide⟩
  | 3, _ => exact ⟨by decide, by decide⟩
theorem alive_num (w : World) : AnsB (w.alloc (.cells #[.int .i64 2, .int .i64 3] 3)) 12 #[.slice (some ⟨w.heap.size, 0, none⟩) 2 2, .agg #[.int .i64 1, .int .i64 2, .int .i64 0, .int .i64 0]] (.tuple #[.int .i64 5, .bool true]) :=
  number_shape _ _ _ [2, 3] shp23 (ints_new w) p12 5 true (fun _ => ⟨by decide, rfl⟩) (fun j hj h => absurd (in12 j hj) h)
theorem strs23 : strs [2, 3] = [3, 1] := by decide
theorem alive_str (w : World) {R : Ending → World → Prop} (k : ∀ b w', w'.cell? ⟨b, 0, none⟩ = some (.int .i64 3) → w'.cell? ⟨b, 1, none⟩ = some (.int .i64 1) → Below (w.alloc (.cells #[.int .i64 2, .int .i64 3] 3)).heap.size (w.alloc (.cells #[.int .i64 2, .int .i64 3] 3)) w' → R (.returned (.slice (some ⟨b, 0, none⟩) 2 2)) w') :
    Calls Try.prog 10 #[.slice (some ⟨w.heap.size, 0, none⟩) 2 2] (w.alloc (.cells #[.int .i64 2, .int .i64 3] 3)) R := by
  refine (strides_any _ _ _ [2, 3] shp23 (ints_new w) _ (Below.refl _ _)).mono ?_
  rintro e w' ⟨b, rfl, hZ, hB⟩
  rw [strs23] at hZ
  obtain ⟨b', o', e', _, c0, _⟩ := hZ.get 0 3 rfl
  cases e'
  obtain ⟨b', o', e', _, c1, _⟩ := hZ.get 1 1 rfl
  cases e'
  exact k b w' c0 c1 hB

set_option maxHeartbeats 1000000 in
theorem alive_any (W : World) : AnsB W 7 #[] (.bool true) := by
  intro w hw
  have HN := alive_num w
  have hB0 := below_alloc w (.cells #[.int .i64 2, .int .i64 3] 3)
  go_enter Try.func7, Try.ntmps7
  go_wp2_with (first
    | (go_at_call 12; with_reducible refine AnsB.use HN (Below.refl _ _) fun w2 hb2 => ?_)
    | (go_at_call 10; refine alive_str _ fun b w3 c0 c1 hb3 => ?_))
  go_ret
  exact ⟨rfl, bb (bb (bb hB0 hb2) (below_alloc _ _)) hb3⟩
end Go.Proofs.Ytfiblemandpfeaa

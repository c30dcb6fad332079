/-
  What the statements ask first: a row of two entries, its parts.
-/
import Derived.Test.YtgmdcpkpcajenaaPf7
namespace Go.Proofs.Ytgmdcpkpcajenaa
set_option linter.unusedVariables false
open Go.RowKit

def en3 : En := ⟨3, 2, [⟨2, 1⟩]⟩
def en7 : En := ⟨7, 3, [⟨2, 1⟩, ⟨3, 1⟩]⟩
theorem alive_ok : checkO [en3, en7] = none := by decide
theorem alive_no : checkO [en7] = some 0 := by decide

theorem alive_world (w : World) : ∃ X, ((w.alloc (.cells #[.int .u64 2, .int .i64 1] 49)).alloc (.cells #[.int .u64 2, .int .i64 1, .int .u64 3, .int .i64 1] 49)).alloc
      (.cells #[.int .u64 3, .int .u64 2, .slice (some ⟨w.heap.size, 0, none⟩) 1 1, .int .u64 7, .int .u64 3, .slice (some ⟨w.heap.size + 1, 0, none⟩) 2 2] 44) = X ∧
    Below w.heap.size w X ∧ EntsAt X (some ⟨w.heap.size + 1 + 1, 0, none⟩) 2 [en3, en7] ∧ EntsAt X (some ⟨w.heap.size + 1 + 1, 3, none⟩) 1 [en7] := by
  obtain ⟨X, hX⟩ : ∃ X, ((w.alloc (.cells #[.int .u64 2, .int .i64 1] 49)).alloc (.cells #[.int .u64 2, .int .i64 1, .int .u64 3, .int .i64 1] 49)).alloc
      (.cells #[.int .u64 3, .int .u64 2, .slice (some ⟨w.heap.size, 0, none⟩) 1 1, .int .u64 7, .int .u64 3, .slice (some ⟨w.heap.size + 1, 0, none⟩) 2 2] 44) = X := ⟨_, rfl⟩
  have a0 : ∀ o, X.cell? ⟨w.heap.size, o, none⟩ = (#[.int .u64 2, .int .i64 1] : Array Value)[o]? := fun o => by
    rw [← hX, World.cell?_alloc_past _ _ _ (by simp <;> omega), World.cell?_alloc_past _ _ _ (by simp <;> omega), World.cell?_alloc_at _ _ _ _ rfl]
  have a1 : ∀ o, X.cell? ⟨w.heap.size + 1, o, none⟩ = (#[.int .u64 2, .int .i64 1, .int .u64 3, .int .i64 1] : Array Value)[o]? := fun o => by
    rw [← hX, World.cell?_alloc_past _ _ _ (by simp <;> omega), World.cell?_alloc_at _ _ _ _ (by simp)]
  have a2 : ∀ o, X.cell? ⟨w.heap.size + 1 + 1, o, none⟩ = (#[.int .u64 3, .int .u64 2, .slice (some ⟨w.heap.size, 0, none⟩) 1 1, .int .u64 7, .int .u64 3, .slice (some ⟨w.heap.size + 1, 0, none⟩) 2 2] : Array Value)[o]? := fun o => by
    rw [← hX, World.cell?_alloc_at _ _ _ _ (by simp)]
  have hs : X.heap.size = w.heap.size + 1 + 1 + 1 := by rw [← hX]; simp
  have p3 : PowsAt X (some ⟨w.heap.size, 0, none⟩) 1 en3.fs := by
    refine ⟨by decide, by unfold maxLen; omega, fun i f hf => ?_⟩
    match i, hf with
    | 0, hf => cases hf; exact ⟨_, _, rfl, by omega, a0 0, a0 1, by decide, by decide, by decide⟩
    | i + 1, hf => simp [en3] at hf
  have p7 : PowsAt X (some ⟨w.heap.size + 1, 0, none⟩) 2 en7.fs := by
    refine ⟨by decide, by unfold maxLen; omega, fun i f hf => ?_⟩
    match i, hf with
    | 0, hf => cases hf; exact ⟨_, _, rfl, by omega, a1 0, a1 1, by decide, by decide, by decide⟩
    | 1, hf => cases hf; exact ⟨_, _, rfl, by omega, a1 2, a1 3, by decide, by decide, by decide⟩
    | i + 2, hf => simp [en7] at hf
  refine ⟨X, hX, hX ▸ bb (bb (below_alloc _ _) (below_alloc _ _)) (below_alloc _ _), ⟨by decide, by unfold maxLen; omega, fun i x hx => ?_⟩, ⟨by decide, by unfold maxLen; omega, fun i x hx => ?_⟩⟩
  · match i, hx with
    | 0, hx => cases hx; exact ⟨_, _, _, _, rfl, by omega, a2 0, a2 1, a2 2, p3, by decide, by decide⟩
    | 1, hx => cases hx; exact ⟨_, _, _, _, rfl, by omega, a2 3, a2 4, a2 5, p7, by decide, by decide⟩
    | i + 2, hx => simp at hx
  · match i, hx with
    | 0, hx => cases hx; exact ⟨_, _, _, _, rfl, by omega, a2 3, a2 4, a2 5, p7, by decide, by decide⟩
    | i + 1, hx => simp at hx

set_option maxHeartbeats 1000000 in
theorem alive_walk (w : World) : Calls Try.prog 9 #[] w fun e w' => e = .returned (.bool true) ∧ Below w.heap.size w w' := by
  obtain ⟨X, hX, hB, hE, hF⟩ := alive_world w
  have H1 : AnsB X 11 #[.slice (some ⟨w.heap.size + 1 + 1, 0, none⟩) 2 2] (.tuple #[.int .i64 0, .int .i64 0]) := by
    have := check_any X _ _ _ hE
    unfold checkV at this
    rw [alive_ok] at this
    exact this
  have H2 : AnsB X 11 #[.slice (some ⟨w.heap.size + 1 + 1, 3, none⟩) 1 1] (.tuple #[.int .i64 0, .int .i64 3]) := by
    have := check_any X _ _ _ hF
    unfold checkV at this
    rw [alive_no] at this
    exact this
  clear hE hF
  go_enter Try.func9, Try.ntmps9
  go_wp2_with (first | (go_at_call 11; with_reducible refine AnsB.use H1 (Below.refl _ _) fun w1 hb1 => ?_) | (go_at_call 11; with_reducible refine AnsB.use H2 hb1 fun w2 hb2 => ?_))
  go_ret
  exact ⟨rfl, bb (bb hB hb1) hb2⟩
/-- What is asked first: it answers true. -/
theorem alive_any (W : World) : AnsB W 9 #[] (.bool true) := fun w _ => alive_walk w
end Go.Proofs.Ytgmdcpkpcajenaa

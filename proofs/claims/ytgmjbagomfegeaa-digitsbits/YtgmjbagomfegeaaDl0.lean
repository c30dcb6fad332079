/-
  What alive of layer 9's laws answers. No condition.
-/
import Derived.Test.YtgmjbagomfegeaaDg9
import Derived.Test.YtgmjbagomfegeaaDb1
namespace Go.Proofs.Ytgmjbagomfegeaa
set_option linter.unusedVariables false
open Go.RowKit

theorem rad23 : Rad [2, 3] := ⟨by decide, by decide, by decide⟩
theorem lit_row (w : World) : ZAt (w.alloc (.cells #[.int .i64 2, .int .i64 3] 3)) (some ⟨w.heap.size, 0, none⟩) 2 (ints [2, 3]) := by
  refine ⟨by simp [ints], by unfold maxLen; omega, fun i z hz => ?_⟩
  refine ⟨w.heap.size, 0, rfl, by simp, ?_⟩
  rw [World.cell?_alloc_at _ _ _ _ rfl]
  match i, hz with
  | 0, hz => simp [ints] at hz; subst hz; exact ⟨rfl, by unfold I64; omega⟩
  | 1, hz => simp [ints] at hz; subst hz; exact ⟨rfl, by unfold I64; omega⟩
  | i + 2, hz => simp [ints] at hz
theorem lit_turn (w : World) (i : Nat) (hi : i < 6) {x : Int} (hx : (tn [2, 3] i : Int) = x) : AnsQ (w.alloc (.cells #[.int .i64 2, .int .i64 3] 3)) 11 #[.slice (some ⟨w.heap.size, 0, none⟩) 2 2, .int .i64 (i : Int)] (.tuple #[.int .i64 x, .bool true]) := by
  subst hx
  exact turn_yes _ _ _ [2, 3] (lit_row w) rad23 i hi
theorem lit_turn1 (w : World) : AnsQ (w.alloc (.cells #[.int .i64 2, .int .i64 3] 3)) 11 #[.slice (some ⟨w.heap.size, 0, none⟩) 2 2, .int .i64 1] (.tuple #[.int .i64 3, .bool true]) := lit_turn w 1 (by omega) rfl
theorem lit_turn2 (w : World) : AnsQ (w.alloc (.cells #[.int .i64 2, .int .i64 3] 3)) 11 #[.slice (some ⟨w.heap.size, 0, none⟩) 2 2, .int .i64 2] (.tuple #[.int .i64 1, .bool true]) := lit_turn w 2 (by omega) rfl
theorem lit_bits (W : World) : AnsQ W 19 #[.int .i64 1, .int .i64 3] (.int .i64 4) := (bits_any W 1 3).to (congrArg (Value.int .i64) (by decide +kernel))
theorem alive_any (W : World) : AnsB W 8 #[] (.bool true) := by
  intro w hw
  have H1 := lit_turn1 w
  have H2 := lit_turn2 (w.alloc (.cells #[.int .i64 2, .int .i64 3] 3))
  have hb1 := below_alloc w (.cells #[.int .i64 2, .int .i64 3] 3)
  have hb2 := bb hb1 (below_alloc (w.alloc (.cells #[.int .i64 2, .int .i64 3] 3)) (.cells #[.int .i64 2, .int .i64 3] 3))
  rw [World.size_alloc] at H2
  have H3 := lit_bits w
  go_enter Try.func8, Try.ntmps8
  go_wp2_with (first
    | (go_at_call 11; with_reducible refine AnsQ.use H2 (Below.refl _ _) ?_)
    | (go_at_call 11; with_reducible refine AnsQ.use H1 (Below.refl _ _) ?_)
    | (go_at_call 19; with_reducible refine AnsQ.use H3 hb2 ?_))
  go_ret
  exact ⟨rfl, hb2⟩
end Go.Proofs.Ytgmjbagomfegeaa

/-
  What the document tells (alive) of layer 12, and the statement Radix2Sizes: true, of all numbers. No condition but that the library's table lies there.
-/
import Derived.Test.YtmeefipdbeifeaaGreatDoorF35
import Derived.Test.YtmeefipdbeifeaaGreatDoorDfA
namespace Go.Proofs.YtmeefipdbeifeaaGreatDoor
set_option linter.unusedVariables false
open Go.RowKit

set_option maxHeartbeats 1000000 in
theorem alive12_walk (W : World) (x : En) (HS : ∀ W, FNew W 20 #[.int .u64 5] x)
    (HU : ∀ (w : World) (b : Nat) {R : Ending → World → Prop}, Below W.heap.size W w → FieldAt w b x → (∀ g C1 w', UAt w' (some ⟨g, 0, none⟩) C1 [0, 4, 3, 2] → Below w.heap.size w w' → R (.returned (.tuple #[.slice (some ⟨g, 0, none⟩) 4 C1, .int .i64 0])) w') →
      Calls Tryz.prog 9 #[pt b, .slice (some ⟨w.heap.size, 0, none⟩) 4 4, .bool false] (w.alloc (.cells #[.int .u64 1, .int .u64 2, .int .u64 3, .int .u64 4] 22)) R)
    (HD : ∀ (w : World) (b : Nat) {R : Ending → World → Prop}, Below W.heap.size W w → FieldAt w b x → (∀ g C1 w', UAt w' (some ⟨g, 0, none⟩) C1 [0, 4, 3, 2] → Below w.heap.size w w' → R (.returned (.tuple #[.slice (some ⟨g, 0, none⟩) 4 C1, .int .i64 0])) w') →
      Calls Tryz.prog 10 #[pt b, .slice (some ⟨w.heap.size, 0, none⟩) 4 4, .bool false] (w.alloc (.cells #[.int .u64 1, .int .u64 2, .int .u64 3, .int .u64 4] 22)) R)
    (HV : ∀ (W : World) (g C : Nat) {R : Ending → World → Prop}, UAt W (some ⟨g, 0, none⟩) C [0, 4, 3, 2] → (∀ w', Below W.heap.size W w' → R (.returned (.bool true)) w') →
      Calls Tryz.prog 11 #[.slice (some ⟨g, 0, none⟩) 4 C, .slice (some ⟨W.heap.size, 0, none⟩) 4 4] (W.alloc (.cells #[.int .u64 0, .int .u64 4, .int .u64 3, .int .u64 2] 22)) R) : AnsB W 7 #[] (.bool true) := by
  intro w hw
  have HW : Hid (Below W.heap.size W w) := hw
  clear hw
  go_enter Tryz.func7, Tryz.ntmps7
  go_wp2_with (first
    | (go_at_call 20; with_reducible refine FNew.use (HS _) (Below.refl _ _) fun b w1 hF hb1 => ?_; have hW1 := bb HW.out hb1)
    | (go_at_call 9; with_reducible refine HU _ _ hW1 hF fun g C1 w2 hY hb2 => ?_; have hF2 := hF.below hb2; have hW2 := bb hW1 hb2)
    | (go_at_call 10; with_reducible refine HD _ _ hW2 hF2 fun g2 C2 w3 hZ hb3 => ?_; have hY3 := hY.below hb3)
    | (go_at_call 11; with_reducible refine AnsB.use HQ (Below.refl _ _) fun w5 hb5 => ?_)
    | (go_at_call 11; with_reducible refine HV _ _ _ hY3 fun w4 hb4 => ?_; have HQ := same_yes (hZ.below hb4) (hY3.below hb4) (show [0, 4, 3, 2].length = 4 from rfl)))
  go_ret
  exact ⟨rfl, bb hb1 (bb hb2 (bb hb3 (bb hb4 hb5)))⟩
theorem ck5 : ck2 (enOf 5).p [1, 2, 3, 4] = 0 := by rw [p5]; decide
theorem alive12 {W : World} (hD : DeB W) : AnsB W 7 #[] (.bool true) := by
  have hs : ∀ y ∈ dT (enOf 5) false [1, 2, 3, 4], y < 18446744073709551616 := by rw [dT5]; decide
  refine alive12_walk W (enOf 5) (fun W => small_yes W 5 odd5) (fun w b R hw hF k => ?_) (fun w b R hw hF k => ?_) (fun W g C R hU k => ?_)
  · have hU := lit_words w 1 2 3 4 (by omega) (by omega) (by omega) (by omega)
    have hB := below_alloc w (.cells #[.int .u64 1, .int .u64 2, .int .u64 3, .int .u64 4] 22)
    exact OwnT.useG (up_yes (hF.below hB) fld5 ((hD.below hw).below hB) hU ck5 false) (dT_len _ _ _) (by decide) (Below.refl _ _) fun g C1 w' q1 q2 => k g C1 w' (by rw [← dT5]; exact q1.words hs) (bb hB q2)
  · have hU := lit_words w 1 2 3 4 (by omega) (by omega) (by omega) (by omega)
    have hB := below_alloc w (.cells #[.int .u64 1, .int .u64 2, .int .u64 3, .int .u64 4] 22)
    exact OwnT.useG (down_yes (hF.below hB) fld5 ((hD.below hw).below hB) hU ck5 false) (dT_len _ _ _) (by decide) (Below.refl _ _) fun g C1 w' q1 q2 => k g C1 w' (by rw [← dT5]; exact q1.words hs) (bb hB q2)
  · have hV := lit_words W 0 4 3 2 (by omega) (by omega) (by omega) (by omega)
    have hB := below_alloc W (.cells #[.int .u64 0, .int .u64 4, .int .u64 3, .int .u64 2] 22)
    exact AnsB.use (same_yes (hU.below hB) hV rfl) (Below.refl _ _) fun w' hb => k w' (bb hB hb)

/-! ### Radix2Sizes -/
theorem sizes_any (W : World) (hD : DeB W) (n : Int) (hn : n < 9223372036854775808) : AnsB W 4 #[.int .i64 n] (.bool true) := by
  intro w hw
  have HA := alive12 hD
  have H1 := fits_any n
  have H2 := dfits_any n
  have H3 := pad_any n
  have H4 := dpad_any n
  generalize fitV n = a at H1 H2
  generalize padV n = b at H3 H4
  have e1 : (a == a) = true := by simp
  have e2 : (b == b) = true := by simp
  go_enter Tryz.func4, Tryz.ntmps4
  go_wp2_with (first
    | (go_at_call 7; with_reducible refine AnsB.use HA hw fun w1 hb1 => ?_)
    | (go_at_call 16; with_reducible refine Ans.use H1 _ fun n1 => ?_)
    | (go_at_call 13; with_reducible refine Ans.use H2 _ fun n2 => ?_)
    | (go_at_call 17; with_reducible refine Ans.use H3 _ fun n3 => ?_)
    | (go_at_call 18; with_reducible refine Ans.use H4 _ fun n4 => ?_))
  go_ret
  exact ⟨by first | rfl | simp, bb hb1 (below_drewN _ _)⟩
end Go.Proofs.YtmeefipdbeifeaaGreatDoor

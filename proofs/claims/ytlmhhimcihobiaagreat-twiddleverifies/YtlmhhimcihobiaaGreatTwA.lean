/-
  What the document tells (alive) of layer 10, and what made answers, for its statements. No condition.
-/
import Derived.Test.YtlmhhimcihobiaaGreatTw2
import Derived.Test.YtlmhhimcihobiaaGreatTw5
import Derived.Test.YtlmhhimcihobiaaGreatTw6
import Derived.Test.YtlmhhimcihobiaaGreatF26
namespace Go.Proofs.YtlmhhimcihobiaaGreat
set_option linter.unusedVariables false
open Go.RowKit

set_option maxHeartbeats 1000000 in
theorem alive10_walk (x : En) (HS : ∀ W, FNew W 20 #[.int .u64 17] x)
    (HT : ∀ (W : World) (b : Nat), FieldAt W b x → OwnT W 11 #[pt b, .int .i64 4, .bool false] [1, 13, 16, 4])
    (HV : ∀ (W : World) (b : Nat) (A : Option Addr) (C : Nat), FieldAt W b x → UAt W A C [1, 13, 16, 4] → AnsB W 15 #[pt b, .slice A 4 C] (.bool true)) : AnsM 7 #[] (.bool true) := by
  intro w
  have HT' : ∀ (W : World) (b : Nat), FieldAt W b x → ∀ {R : Ending → World → Prop}, (∀ g C1 w', OwnU w' W.heap.size (some ⟨g, 0, none⟩) C1 [1, 13, 16, 4] → Below W.heap.size W w' → R (.returned (.tuple #[.slice (some ⟨g, 0, none⟩) 4 C1, .int .i64 0])) w') → Calls Tryz.prog 11 #[pt b, .int .i64 4, .bool false] W R := by
    intro W b hF R k
    refine OwnT.use (HT W b hF) (Below.refl _ _) (fun A1 C1 w' q1 q2 => ?_)
    obtain ⟨g, rfl, _⟩ := q1.get (i := 0) (x := 1) rfl
    exact k g C1 w' q1 q2
  go_enter Tryz.func7, Tryz.ntmps7
  go_wp2_with (first
    | (go_at_call 20; with_reducible refine FNew.use (HS _) (Below.refl _ _) fun b w1 hF hb1 => ?_)
    | (go_at_call 11; with_reducible refine HT' _ _ hF fun g C1 w2 hO hb2 => ?_; obtain ⟨_, e1, _, _, k1, _⟩ := hO.get (i := 1) (x := 13) rfl; cases e1; obtain ⟨_, e3, _, _, k3, _⟩ := hO.get (i := 3) (x := 4) rfl; cases e3; have HV2 := HV w2 b _ _ (hF.below hb2) (hO.words (by decide)))
    | (go_at_call 15; with_reducible refine AnsB.use HV2 (Below.refl _ _) fun w3 hb3 => ?_))
  go_ret
  exact ⟨rfl, bb hb1 (bb hb2 hb3)⟩
theorem pws17 : pws 13 17 4 = [1, 13, 16, 4] := by decide
theorem fld17 : Fld (enOf 17) := small_fld odd17
theorem root17 : twR (enOf 17) 4 false = 13 := by
  show rootN 17 (genOf 17) 4 = 13
  rw [gen17]; rfl
theorem alive10 : AnsM 7 #[] (.bool true) := by
  have hd : ((enOf 17).p - 1) % 4 = 0 := by show (17 - 1) % 4 = 0; rfl
  have ht : pws (twR (enOf 17) 4 false) (enOf 17).p 4 = [1, 13, 16, 4] := by rw [root17]; exact pws17
  refine alive10_walk (enOf 17) (fun W => small_yes W 17 odd17) (fun W b hF => ?_) (fun W b A C hF hU => ?_)
  · have := table_yes W b (enOf 17) hF fld17 4 (by omega) (by omega) hd false
    rw [ht] at this
    exact this
  · refine verify_any W b (enOf 17) hF fld17 A C [1, 13, 16, 4] hU (by decide) true ?_
    refine ⟨fun _ => ⟨by decide, ?_⟩, fun _ => rfl⟩
    rw [← ht]
    exact pws_docR (by show 2 ≤ 17; omega) (by omega) (twR_ord fld17 (by omega) hd false)
end Go.Proofs.YtlmhhimcihobiaaGreat

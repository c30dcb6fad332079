/-
  The walk of ViewChecks: it answers true, of every view and size. No condition but that the rows lie there.
-/
import Derived.Test.YtccknfhhmdoffaaVl0
namespace Go.Proofs.Ytccknfhhmdoffaa
set_option linter.unusedVariables false
open Go.RowKit

set_option maxHeartbeats 1000000 in
theorem checks_great (W : World) (o : Int) (A : Option Addr) (L C : Nat) (A' : Option Addr) (L' C' : Nat) (c : Int) (h : gtB L L' = true) : AnsB W 3 #[vw o A L C A' L' C', .int .i64 c] (.bool true) := by
  intro w hw
  have HA := alive_any W
  have HG := great_any W o A L C A' L' C'
  rw [h] at HG
  unfold vw at *
  have S := LS.new W w hw (.int .i64 o) (.slice A L C) (.slice A' L' C')
  clear h
  go_enter Try.func3, Try.ntmps3
  go_wp2_with (first
    | (go_at_call 10; (with_reducible refine LS.use HA S fun X2 S hb q0 q1 q2 => ?_))
    | (go_at_call 11; (with_reducible refine LS.use HG S fun X3 S hb q0 q1 q2 => ?_)))
  go_ret
  exact ⟨rfl, S.hB⟩
set_option maxRecDepth 100000 in
set_option maxHeartbeats 8000000 in
theorem checks_any (W : World) (o : Int) (A : Option Addr) (C : Nat) (A' : Option Addr) (C' : Nat) (zs ss : List Int) (hD : ZAt W A C zs) (hZ : ZAt W A' C' ss) (c : Int) : AnsB W 3 #[vw o A zs.length C A' ss.length C', .int .i64 c] (.bool true) := by
  cases hg : gtB zs.length ss.length with
  | true => exact checks_great W o A _ C A' _ C' c hg
  | false =>
    intro w hw
    have HA := alive_any W
    have HG := great_any W o A zs.length C A' ss.length C'
    rw [hg] at HG
    have HO := of_any W o A zs.length C A' ss.length C'
    obtain ⟨e, he⟩ := chk_any o zs ss c
    have HC := check_any W o A C A' C' zs ss hD hZ c e he
    have HR := rcheck_any W o A C A' C' zs ss hD hZ c e he
    obtain ⟨e4, he4⟩ := chk_any o zs ss 4096
    obtain ⟨l, hl, HL, HM⟩ := cells_both W o A C A' C' zs ss hD hZ e4 he4
    have HLu := fun {w : World} {B : Nat} {x y z : Value} {X : World} (S : LS W w B #[x, y, z] X) {R : Ending → World → Prop} k => LS.row HL S (R := R) k
    have HMu := fun {w : World} {B : Nat} {x y z : Value} {X : World} (S : LS W w B #[x, y, z] X) {R : Ending → World → Prop} k => LS.row HM S (R := R) k
    have HSu : ∀ (X : World) A1 C1 A2 C2, ZAt X A1 C1 l → ZAt X A2 C2 l → AnsB X 15 #[.slice A1 l.length C1, .slice A2 l.length C2] (.bool true) := fun X A1 C1 A2 C2 h1 h2 => by
      have := same_any X A1 C1 l h1 A2 C2 l h2
      rw [show smB l l = true by simp [smB]] at this
      exact this
    unfold vw at *
    generalize zs.length = L at *
    generalize ss.length = L' at *
    obtain ⟨n, hn⟩ : ∃ n, l.length = n := ⟨_, rfl⟩
    simp only [hn] at HLu HMu HSu
    have S := LS.new W w hw (.int .i64 o) (.slice A L C) (.slice A' L' C')
    clear hD hZ he he4 hg HL HM hl hn
    go_enter Try.func3, Try.ntmps3
    go_wp2_with (first
      | (go_at_call 10; (with_reducible refine LS.use HA S fun X2 S hb q0 q1 q2 => ?_))
      | (go_at_call 11; (with_reducible refine LS.use HG S fun X3 S hb q0 q1 q2 => ?_)))
    go_region_with (first
      | (go_at_call 12; first | (with_reducible refine LS.use HO S fun X S hb q0 q1 q2 => ?_) | (with_reducible refine LS.use HO (S.dr _) fun X S hb q0 q1 q2 => ?_) | (with_reducible refine LS.use HO (S.next (below_drewZ _)) fun X S hb q0 q1 q2 => ?_))
      | (go_at_call 13; (with_reducible refine LS.use HC S fun X S hb q0 q1 q2 => ?_))
      | (go_at_call 14; (with_reducible refine LS.use HR S fun X S hb q0 q1 q2 => ?_))
      | (go_at_call 16; (refine HLu S fun A5 C5 X h5 S hb q0 q1 q2 => ?_))
      | (go_at_call 17; (refine HMu S fun A6 C6 X h6 S hb q0 q1 q2 => ?_); have h7 := h5.below hb; have HS := HSu _ _ _ _ _ h7 h6)
      | (go_at_call 15; (with_reducible refine AnsB.use HS (Below.refl _ _) fun X hb => ?_); have S := S.next hb; obtain ⟨q0, q1, q2, _⟩ := S.blk.three))
    all_goals
      go_wp2
      go_ret
      exact ⟨rfl, S.hB⟩
theorem checks_law (W : World) (o : Int) (A : Option Addr) (C : Nat) (A' : Option Addr) (C' : Nat) (zs ss : List Int) (hD : ZAt W A C zs) (hZ : ZAt W A' C' ss) (c : Int) (_ : I64 c) : AnsB W 3 #[vw o A zs.length C A' ss.length C', .int .i64 c] (.bool true) := checks_any W o A C A' C' zs ss hD hZ c
end Go.Proofs.Ytccknfhhmdoffaa

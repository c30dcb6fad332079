/-
  The walk of ViewMeets: it answers true, of every two views. No condition but that the rows lie there.
-/
import Derived.Test.YtccknfhhmdoffaaVl0
namespace Go.Proofs.Ytccknfhhmdoffaa
set_option linter.unusedVariables false
open Go.RowKit

/-- The state behind each call: what the start held is there, and the function's own two views. -/
structure LT (W w : World) (B D : Nat) (vv uu : Array Value) (X : World) : Prop where
  hW : Below W.heap.size W X
  hB : Below w.heap.size w X
  b1 : Blk X B 24 vv
  b2 : Blk X D 24 uu
theorem LT.next {W w : World} {B D : Nat} {vv uu : Array Value} {X X' : World} (h : LT W w B D vv uu X) (hb : Below X.heap.size X X') : LT W w B D vv uu X' :=
  ⟨h.hW.trans (hb.mono h.hW.size), bthen h.hB (Nat.le_refl _) hb, h.b1.below hb, h.b2.below hb⟩
theorem LT.use {W w : World} {B D : Nat} {x y z x' y' z' : Value} {X : World} {f : FuncId} {args : Array Value} {v : Value} (h : AnsB W f args v) (S : LT W w B D #[x, y, z] #[x', y', z'] X) {R : Ending → World → Prop}
    (k : ∀ X', LT W w B D #[x, y, z] #[x', y', z'] X' → Below X.heap.size X X' → X'.cell? ⟨B, 0, none⟩ = some x → X'.cell? ⟨B, 1, none⟩ = some y → X'.cell? ⟨B, 2, none⟩ = some z → X'.cell? ⟨D, 0, none⟩ = some x' → X'.cell? ⟨D, 1, none⟩ = some y' → X'.cell? ⟨D, 2, none⟩ = some z' → R (.returned v) X') : Calls Try.prog f args X R :=
  h.use S.hW fun X' hb => k X' (S.next hb) hb (S.next hb).b1.three.1 (S.next hb).b1.three.2.1 (S.next hb).b1.three.2.2.1 (S.next hb).b2.three.1 (S.next hb).b2.three.2.1 (S.next hb).b2.three.2.2.1
theorem LT.new (W w : World) (hw : Below W.heap.size W w) (x y z x' y' z' : Value) : LT W w w.heap.size (w.heap.size + 1) #[x, y, z] #[x', y', z'] ((w.alloc (.cells #[x, y, z] 24)).alloc (.cells #[x', y', z'] 24)) := by
  have b2 := Blk.new (w.alloc (.cells #[x, y, z] 24)) 24 #[x', y', z']
  rw [World.size_alloc] at b2
  have hB := bb (below_alloc w (.cells #[x, y, z] 24)) (below_alloc _ (.cells #[x', y', z'] 24))
  exact ⟨hw.trans (hB.mono hw.size), hB, (Blk.new _ _ _).alloc _, b2⟩

set_option maxHeartbeats 1000000 in
theorem meets_great1 (W : World) (o : Int) (A : Option Addr) (L C : Nat) (A' : Option Addr) (L' C' : Nat) (p : Int) (B : Option Addr) (M D : Nat) (B' : Option Addr) (M' D' : Nat) (h : gtB L L' = true) :
    AnsB W 9 #[vw o A L C A' L' C', vw p B M D B' M' D'] (.bool true) := by
  intro w hw
  have HA := alive_any W
  have HG := great_any W o A L C A' L' C'
  rw [h] at HG
  unfold vw at *
  have S := LT.new W w hw (.int .i64 o) (.slice A L C) (.slice A' L' C') (.int .i64 p) (.slice B M D) (.slice B' M' D')
  clear h
  go_enter Try.func9, Try.ntmps9
  go_wp2_with (first
    | (go_at_call 10; (with_reducible refine LT.use HA S fun X2 S hb q0 q1 q2 p0 p1 p2 => ?_))
    | (go_at_call 11; (with_reducible refine LT.use HG S fun X3 S hb q0 q1 q2 p0 p1 p2 => ?_)))
  go_ret
  exact ⟨rfl, S.hB⟩
set_option maxHeartbeats 1000000 in
theorem meets_great2 (W : World) (o : Int) (A : Option Addr) (L C : Nat) (A' : Option Addr) (L' C' : Nat) (p : Int) (B : Option Addr) (M D : Nat) (B' : Option Addr) (M' D' : Nat) (h0 : gtB L L' = false) (h : gtB M M' = true) :
    AnsB W 9 #[vw o A L C A' L' C', vw p B M D B' M' D'] (.bool true) := by
  intro w hw
  have HA := alive_any W
  have HG := great_any W o A L C A' L' C'
  have HH := great_any W p B M D B' M' D'
  rw [h0] at HG
  rw [h] at HH
  unfold vw at *
  have S := LT.new W w hw (.int .i64 o) (.slice A L C) (.slice A' L' C') (.int .i64 p) (.slice B M D) (.slice B' M' D')
  clear h h0
  go_enter Try.func9, Try.ntmps9
  go_wp2_with (first
    | (go_at_call 10; (with_reducible refine LT.use HA S fun X2 S hb q0 q1 q2 p0 p1 p2 => ?_))
    | (go_at_call 11; first | (with_reducible refine LT.use HG S fun X3 S hb q0 q1 q2 p0 p1 p2 => ?_) | (with_reducible refine LT.use HH S fun X3 S hb q0 q1 q2 p0 p1 p2 => ?_)))
  go_ret
  exact ⟨rfl, S.hB⟩
set_option maxRecDepth 100000 in
set_option maxHeartbeats 8000000 in
theorem meets_walk (W : World) (o : Int) (A : Option Addr) (L C : Nat) (A' : Option Addr) (L' C' : Nat) (p : Int) (B : Option Addr) (M D : Nat) (B' : Option Addr) (M' D' : Nat) (h0 : gtB L L' = false) (h : gtB M M' = false) (r : Bool)
    (HR : AnsB W 27 #[vw o A L C A' L' C', vw p B M D B' M' D'] (.bool r)) (H1 : AnsB W 28 #[vw o A L C A' L' C', vw p B M D B' M' D'] (.bool r)) (H2 : AnsB W 28 #[vw p B M D B' M' D', vw o A L C A' L' C'] (.bool r)) :
    AnsB W 9 #[vw o A L C A' L' C', vw p B M D B' M' D'] (.bool true) := by
  intro w hw
  have HA := alive_any W
  have HG := great_any W o A L C A' L' C'
  have HH := great_any W p B M D B' M' D'
  have HO := of_any W o A L C A' L' C'
  have HP := of_any W p B M D B' M' D'
  have hrr : (r == r) = true := by simp
  rw [h0] at HG
  rw [h] at HH
  unfold vw at *
  have S := LT.new W w hw (.int .i64 o) (.slice A L C) (.slice A' L' C') (.int .i64 p) (.slice B M D) (.slice B' M' D')
  clear h h0
  go_enter Try.func9, Try.ntmps9
  go_wp2_with (first
    | (go_at_call 10; (with_reducible refine LT.use HA S fun X2 S hb q0 q1 q2 p0 p1 p2 => ?_))
    | (go_at_call 11; first | (with_reducible refine LT.use HG S fun X3 S hb q0 q1 q2 p0 p1 p2 => ?_) | (with_reducible refine LT.use HH S fun X3 S hb q0 q1 q2 p0 p1 p2 => ?_))
    | (go_at_call 27; (with_reducible refine LT.use HR S fun X4 S hb q0 q1 q2 p0 p1 p2 => ?_)))
  go_region_with (first
    | (go_at_call 12; first
      | (with_reducible refine LT.use HO S fun X S hb q0 q1 q2 p0 p1 p2 => ?_) | (with_reducible refine LT.use HP S fun X S hb q0 q1 q2 p0 p1 p2 => ?_)
      | (with_reducible refine LT.use HO (S.next (below_drewZ _)) fun X S hb q0 q1 q2 p0 p1 p2 => ?_) | (with_reducible refine LT.use HP (S.next (below_drewZ _)) fun X S hb q0 q1 q2 p0 p1 p2 => ?_))
    | (go_at_call 28; first | (with_reducible refine LT.use H1 S fun X S hb q0 q1 q2 p0 p1 p2 => ?_) | (with_reducible refine LT.use H2 S fun X S hb q0 q1 q2 p0 p1 p2 => ?_)))
  all_goals
    go_wp2
    go_ret
    exact ⟨rfl, S.hB⟩
theorem meets_law (W : World) (o : Int) (A : Option Addr) (C : Nat) (A' : Option Addr) (C' : Nat) (zs ss : List Int) (hD : ZAt W A C zs) (hZ : ZAt W A' C' ss) (p : Int) (B : Option Addr) (D : Nat) (B' : Option Addr) (D' : Nat) (ys ts : List Int) (hE : ZAt W B D ys) (hT : ZAt W B' D' ts) :
    AnsB W 9 #[vw o A zs.length C A' ss.length C', vw p B ys.length D B' ts.length D'] (.bool true) := by
  cases hg : gtB zs.length ss.length with
  | true => exact meets_great1 W o A _ C A' _ C' p B _ D B' _ D' hg
  | false =>
    cases hh : gtB ys.length ts.length with
    | true => exact meets_great2 W o A _ C A' _ C' p B _ D B' _ D' hg hh
    | false =>
      obtain ⟨e, he⟩ := chk_any o zs ss 4096
      obtain ⟨e', he'⟩ := chk_any p ys ts 4096
      obtain ⟨la, hl, HL, HM⟩ := cells_both W o A C A' C' zs ss hD hZ e he
      obtain ⟨lb, hl', HL', HM'⟩ := cells_both W p B D B' D' ys ts hE hT e' he'
      have hr : ∀ (a b : List Int), decide (∃ z ∈ a, z ∈ b) = true ↔ ∃ z ∈ a, z ∈ b := fun a b => decide_eq_true_iff
      refine meets_walk W o A _ C A' _ C' p B _ D B' _ D' hg hh (decide (∃ z ∈ la, z ∈ lb)) (rmeet_any W _ _ _ _ _ _ _ _ _ _ _ _ _ _ la lb HM HM' _ (hr la lb)) (meet_any W _ _ _ _ _ _ _ _ _ _ _ _ _ _ la lb HL HL' hl _ (hr la lb)) (meet_any W _ _ _ _ _ _ _ _ _ _ _ _ _ _ lb la HL' HL hl' _ ?_)
      rw [hr]
      exact ⟨fun ⟨z, h1, h2⟩ => ⟨z, h2, h1⟩, fun ⟨z, h1, h2⟩ => ⟨z, h2, h1⟩⟩
end Go.Proofs.Ytccknfhhmdoffaa

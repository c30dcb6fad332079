/-
  The state of a walk behind each of its calls; what Cells answers, the program's and the document's. No condition but that the rows lie there.
-/
import Derived.Test.YtccknfhhmdoffaaVw16
import Derived.Test.YtccknfhhmdoffaaVw18
namespace Go.Proofs.Ytccknfhhmdoffaa
set_option linter.unusedVariables false
open Go.RowKit

/-- The state behind each call: what the start held is there, and the function's own view. -/
structure LS (W w : World) (B : Nat) (vv : Array Value) (X : World) : Prop where
  hW : Below W.heap.size W X
  hB : Below w.heap.size w X
  blk : Blk X B 24 vv
theorem LS.next {W w : World} {B : Nat} {vv : Array Value} {X X' : World} (h : LS W w B vv X) (hb : Below X.heap.size X X') : LS W w B vv X' :=
  ⟨h.hW.trans (hb.mono h.hW.size), bthen h.hB (Nat.le_refl _) hb, h.blk.below hb⟩
theorem LS.dr {W w : World} {B : Nat} {vv : Array Value} {X : World} (h : LS W w B vv X) (n : Nat) : LS W w B vv (X.drewN n) := h.next (below_drewN _ _)
theorem LS.use {W w : World} {B : Nat} {x y z : Value} {X : World} {f : FuncId} {args : Array Value} {v : Value} (h : AnsB W f args v) (S : LS W w B #[x, y, z] X) {R : Ending → World → Prop}
    (k : ∀ X', LS W w B #[x, y, z] X' → Below X.heap.size X X' → X'.cell? ⟨B, 0, none⟩ = some x → X'.cell? ⟨B, 1, none⟩ = some y → X'.cell? ⟨B, 2, none⟩ = some z → R (.returned v) X') : Calls Try.prog f args X R :=
  h.use S.hW fun X' hb => k X' (S.next hb) hb (S.next hb).blk.three.1 (S.next hb).blk.three.2.1 (S.next hb).blk.three.2.2.1
theorem LS.row {W w : World} {B : Nat} {x y z : Value} {X : World} {f : FuncId} {args : Array Value} {l : List Int} (h : NewRow W f args l) (S : LS W w B #[x, y, z] X) {R : Ending → World → Prop}
    (k : ∀ A1 C1 X', ZAt X' A1 C1 l → LS W w B #[x, y, z] X' → Below X.heap.size X X' → X'.cell? ⟨B, 0, none⟩ = some x → X'.cell? ⟨B, 1, none⟩ = some y → X'.cell? ⟨B, 2, none⟩ = some z → R (.returned (.slice A1 l.length C1)) X') : Calls Try.prog f args X R :=
  h.use S.hW fun A1 C1 X' hz hb => k A1 C1 X' hz (S.next hb) hb (S.next hb).blk.three.1 (S.next hb).blk.three.2.1 (S.next hb).blk.three.2.2.1
theorem LS.new (W w : World) (hw : Below W.heap.size W w) (x y z : Value) : LS W w w.heap.size #[x, y, z] (w.alloc (.cells #[x, y, z] 24)) :=
  ⟨hw.trans ((below_alloc _ _).mono hw.size), below_alloc _ _, Blk.new _ _ _⟩
/-- What Cells answers, the program's and the document's: a row. -/
theorem cells_both (W : World) (o : Int) (A : Option Addr) (C : Nat) (A' : Option Addr) (C' : Nat) (zs ss : List Int) (hD : ZAt W A C zs) (hZ : ZAt W A' C' ss) (e : Int) (h : Chk o zs ss 4096 e) :
    ∃ l, l.length ≤ 4096 ∧ NewRow W 16 #[vw o A zs.length C A' ss.length C'] l ∧ NewRow W 17 #[vw o A zs.length C A' ss.length C'] l := by
  by_cases he : e = 0
  · subst he
    obtain ⟨ds, rfl, hO⟩ := h.ok rfl
    refine ⟨cls o ss ds, by unfold cls; rw [List.length_map, List.length_range]; exact hO.shp.max, ?_, ?_⟩
    · rw [ints_len, hO.len]; exact cells_ok W o A C A' C' ds ss hD hZ hO
    · rw [ints_len, hO.len]; exact rcells_ok W o A C A' C' ds ss hD hZ hO
  · exact ⟨[], by simp, cells_no W o A C A' C' zs ss hD hZ e h he, rcells_no W o A C A' C' zs ss hD hZ e h he⟩

end Go.Proofs.Ytccknfhhmdoffaa

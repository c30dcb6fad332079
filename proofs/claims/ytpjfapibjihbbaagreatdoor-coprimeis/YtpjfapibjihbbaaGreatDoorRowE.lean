/-
  What the statements' proofs of layer 14 share: the program's four factors out of the rows' list; a world for the witness. No condition.
-/
import Derived.Test.YtpjfapibjihbbaaGreatDoorF41
import Derived.Test.YtpjfapibjihbbaaGreatDoorCards
import Derived.Test.YtpjfapibjihbbaaGreatDoorTie
import Derived.ProofKit
import Derived.OpenShut
import Derived.Deep.DeepHandedRow
import Derived.Lib.LaidTab
namespace Go.Proofs.YtpjfapibjihbbaaGreatDoor
open Go.ChangeShapes Go.WideShapes Go.ChangeAt Go.RowKit

theorem ownK : ownKnob Tryz.prog.godebug = none := by kernel_rfl
theorem cellsI : Tryz.prog.cellsOf 3 = 1 := by kernel_rfl
theorem cellsFac : Tryz.prog.cellsOf 123 = 4 := by kernel_rfl
theorem gFac : Tryz.prog.globalNamed "epicycle/mixed.factors" = some 0 := by kernel_rfl
theorem gFacType : (Tryz.prog.globals[0]?).map (·.type) = some 123 := by kernel_rfl
def facTab : List Int := [2, 3, 5, 7]
theorem facTab_at : ∀ c : Fin 4, c.val < facTab.length ∧ facTab.getD c.val 0 = (fc c.val : Int) := by decide +kernel
/-- The program's four factors, out of the rows' list. -/
theorem fac_of {W : World} (h : laidMetH Tryz.prog Rows.coprimeIsRow.laid W) : FacG W := by
  have h' : laidMet Tryz.prog Rows.coprimeIsRow.laid W := h
  obtain ⟨ps, ⟨g, t, cs, fuel, p, q, hg, ht, hvar, hd, _, _⟩, _⟩ := h'
  obtain rfl := Option.some.inj (gFac.symm.trans hg)
  obtain rfl := Option.some.inj (gFacType.symm.trans ht)
  have hT : Lib.TabIs Tryz.prog W "epicycle/mixed.factors" .i64 facTab := by
    unfold Lib.TabIs
    rw [hvar, ← Lib.cells_of_tab (zs := facTab) Tryz.underlying123 Tryz.underlying3 cellsI cellsFac hd]
  have hc : ∀ c, c < 4 → W.cell? ⟨0, c, none⟩ = some (.int .i64 (fc c : Int)) := fun c hc => by
    obtain ⟨h1, h2⟩ := facTab_at ⟨c, hc⟩
    rw [hT.cell gFac c h1, h2]
  exact ⟨hc, block_lt_of_cell (hc 0 (by omega))⟩

/-- For the witness: the factors hold what their initialiser lays. -/
def laidHeap (h : Array Obj) : Array Obj :=
  h.modify 0 fun
      | .cells _ t frozen => .cells #[.int .i64 2, .int .i64 3, .int .i64 5, .int .i64 7] t frozen
      | o => o
end Go.Proofs.YtpjfapibjihbbaaGreatDoor

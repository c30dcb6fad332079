/-
  What the statements' proofs of layer 12 share: the library's table out of the rows' list; a world for the witness. No condition.
-/
import Derived.Test.YtehljcflodilhaaGreatDoorF30
import Derived.Test.YtehljcflodilhaaGreatDoorCards
import Derived.Test.YtehljcflodilhaaGreatDoorTie
import Derived.ProofKit
import Derived.OpenShut
import Derived.Deep.DeepHandedRow
import Derived.Lib.LaidTab
namespace Go.Proofs.YtehljcflodilhaaGreatDoor
open Go.ChangeShapes Go.WideShapes Go.ChangeAt Go.RowKit

theorem ownK : ownKnob Tryz.prog.godebug = none := by kernel_rfl
theorem cellsU8 : Tryz.prog.cellsOf 5 = 1 := by kernel_rfl
theorem cellsDb : Tryz.prog.cellsOf 132 = 64 := by kernel_rfl
theorem gDb : Tryz.prog.globalNamed "math/bits.deBruijn64tab" = some 1 := by kernel_rfl
theorem gDbType : (Tryz.prog.globals[1]?).map (·.type) = some 132 := by kernel_rfl
def dbTab : List Int := [0, 1, 56, 2, 57, 49, 28, 3, 61, 58, 42, 50, 38, 29, 17, 4, 62, 47, 59, 36, 45, 43, 51, 22, 53, 39, 33, 30, 24, 18, 12, 5, 63, 55, 48, 27, 60, 41, 37, 16, 46, 35, 44, 21, 52, 32, 23, 11, 54, 26, 40, 15, 34, 20, 31, 10, 25, 14, 19, 9, 13, 8, 7, 6]
theorem dbTab_at : ∀ c : Fin 13, dbI c < dbTab.length ∧ dbTab.getD (dbI c) 0 = (c : Int) := by decide +kernel
/-- The library's table, out of the rows' list. -/
theorem deb_of {W : World} (h : laidMetH Tryz.prog Rows.radix4SameRow.laid W) : DeB W := by
  have h' : laidMet Tryz.prog Rows.radix4SameRow.laid W := h
  obtain ⟨ps, ⟨_, _, _, _, _, _, _, _, _, _, ⟨g, t, cs, fuel, p, q, hg, ht, hvar, hd, _, _⟩, _⟩, _⟩ := h'
  obtain rfl := Option.some.inj (gDb.symm.trans hg)
  obtain rfl := Option.some.inj (gDbType.symm.trans ht)
  have hT : Lib.TabIs Tryz.prog W "math/bits.deBruijn64tab" .u8 dbTab := by
    unfold Lib.TabIs
    rw [hvar, ← Lib.cells_of_tab (zs := dbTab) Tryz.underlying132 Tryz.underlying5 cellsU8 cellsDb hd]
  have hc : ∀ c, c ≤ 12 → W.cell? ⟨1, dbI c, none⟩ = some (.int .u8 (c : Int)) := fun c hc => by
    obtain ⟨h1, h2⟩ := dbTab_at ⟨c, by omega⟩
    rw [hT.cell gDb (dbI c) h1, h2]
  exact ⟨hc, block_lt_of_cell (hc 0 (by omega))⟩

/-- For the witness: the tables hold what their initialisers lay. -/
def laidHeap (h : Array Obj) : Array Obj :=
  (h.modify 0 fun
      | .cells _ t frozen => .cells #[.int .u8 0, .int .u8 1, .int .u8 28, .int .u8 2, .int .u8 29, .int .u8 14, .int .u8 24, .int .u8 3, .int .u8 30, .int .u8 22, .int .u8 20, .int .u8 15, .int .u8 25, .int .u8 17, .int .u8 4, .int .u8 8, .int .u8 31, .int .u8 27, .int .u8 13, .int .u8 23, .int .u8 21, .int .u8 19, .int .u8 16, .int .u8 7, .int .u8 26, .int .u8 12, .int .u8 18, .int .u8 6, .int .u8 11, .int .u8 5, .int .u8 10, .int .u8 9] t frozen
      | o => o).modify 1 fun
      | .cells _ t frozen => .cells #[.int .u8 0, .int .u8 1, .int .u8 56, .int .u8 2, .int .u8 57, .int .u8 49, .int .u8 28, .int .u8 3, .int .u8 61, .int .u8 58, .int .u8 42, .int .u8 50, .int .u8 38, .int .u8 29, .int .u8 17, .int .u8 4, .int .u8 62, .int .u8 47, .int .u8 59, .int .u8 36, .int .u8 45, .int .u8 43, .int .u8 51, .int .u8 22, .int .u8 53, .int .u8 39, .int .u8 33, .int .u8 30, .int .u8 24, .int .u8 18, .int .u8 12, .int .u8 5, .int .u8 63, .int .u8 55, .int .u8 48, .int .u8 27, .int .u8 60, .int .u8 41, .int .u8 37, .int .u8 16, .int .u8 46, .int .u8 35, .int .u8 44, .int .u8 21, .int .u8 52, .int .u8 32, .int .u8 23, .int .u8 11, .int .u8 54, .int .u8 26, .int .u8 40, .int .u8 15, .int .u8 34, .int .u8 20, .int .u8 31, .int .u8 10, .int .u8 25, .int .u8 14, .int .u8 19, .int .u8 9, .int .u8 13, .int .u8 8, .int .u8 7, .int .u8 6] t frozen
      | o => o
end Go.Proofs.YtehljcflodilhaaGreatDoor

/-
  DERIVED. GIVEN WITH THE SEED: THE CARDS: each row of YtehljcflodilhaaGreatDoorRows.lean that lists a variable, with what it lists TIED to the program's text (the seventh form; the later family's looks); each row that meets fmt, with fmt's text TOLD by the authors' own Lean function (tested against real Go, not proved from fmt's source: count such statements apart). THE CARD IS WHAT COUNTS. Prove the row's statement (the work); the ties are given (YtehljcflodilhaaGreatDoorTie.lean); close each card by the builder's one call (the guide's Derived/Test/ToyasCard.lean, 'card_holds'). Laid BY PROGRAM, IN A SANDBOX (cutbox-door.mjs). By AI agents, Wed Nov 11 2026. No macro, syntax, notation, axiom, sorry.
-/
import Derived.Test.YtehljcflodilhaaGreatDoorRows
import GoSem.ClaimSeven
namespace Go.Proofs.YtehljcflodilhaaGreatDoor
namespace Rows

/-- THE TIED CARD OF 'epicyclelaw13.Radix4Same'. -/
def radix4SameCard : Claim7 := { stood := { row := radix4SameRow, standIns := [], harness := (true, "5b32aeda827e28ba81376b3f596c8b0848aaf9f918ffa3b44920d0a62b14f1ec"), looks := false }, kinds := [], alts := [], laidByText := true, laidKinds := [.data, .data], laidTests := true, laidLooks := .later }
def Radix4SameCardSaid : Prop := Claim7.holds Tryz.pinned (.plain (OpenSpec.ofChange radix4SameSpec)) radix4SameCard

/-- THE SECOND FORM's CARD OF 'epicyclelaw13.Radix4Same'. -/
def radix4SameUptoCard : Claim7 := { stood := { row := radix4SameUptoRow, standIns := [], harness := (true, "5b32aeda827e28ba81376b3f596c8b0848aaf9f918ffa3b44920d0a62b14f1ec"), looks := false }, kinds := [], alts := [], laidByText := true, laidKinds := [.data, .data], laidTests := true, laidLooks := .later }
def Radix4SameUptoCardSaid : Prop := Claim7.holds Tryz.pinned (.plain (OpenSpec.upto radix4SameSpec)) radix4SameUptoCard
end Rows
end Go.Proofs.YtehljcflodilhaaGreatDoor

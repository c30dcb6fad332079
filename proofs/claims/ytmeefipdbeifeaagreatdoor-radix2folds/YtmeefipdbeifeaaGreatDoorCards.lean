/-
  DERIVED. GIVEN WITH THE SEED: THE CARDS: each row of YtmeefipdbeifeaaGreatDoorRows.lean that lists a variable, with what it lists TIED to the program's text (the seventh form; the later family's looks); each row that meets fmt, with fmt's text TOLD by the authors' own Lean function (tested against real Go, not proved from fmt's source: count such statements apart). THE CARD IS WHAT COUNTS. Prove the row's statement (the work); the ties are given (YtmeefipdbeifeaaGreatDoorTie.lean); close each card by the builder's one call (the guide's Derived/Test/ToyasCard.lean, 'card_holds'). Laid BY PROGRAM, IN A SANDBOX (cutbox-door.mjs). By AI agents, Wed Nov 11 2026. No macro, syntax, notation, axiom, sorry.
-/
import Derived.Test.YtmeefipdbeifeaaGreatDoorRows
import GoSem.ClaimSeven
namespace Go.Proofs.YtmeefipdbeifeaaGreatDoor
namespace Rows

/-- THE TIED CARD OF 'epicyclelaw12.Radix2Is'. -/
def radix2IsCard : Claim7 := { stood := { row := radix2IsRow, standIns := [], harness := (true, "484619a3ea0654a3aa379cd8abdfe4a62dcbab50b85ee9d31053134382c11286"), looks := false }, kinds := [], alts := [], laidByText := true, laidKinds := [.data, .data], laidTests := true, laidLooks := .later }
def Radix2IsCardSaid : Prop := Claim7.holds Tryz.pinned (.plain (OpenSpec.ofChange radix2IsSpec)) radix2IsCard

/-- THE TIED CARD OF 'epicyclelaw12.Radix2Sizes'. -/
def radix2SizesCard : Claim7 := { stood := { row := radix2SizesRow, standIns := [], harness := (true, "484619a3ea0654a3aa379cd8abdfe4a62dcbab50b85ee9d31053134382c11286"), looks := false }, kinds := [], alts := [], laidByText := true, laidKinds := [.data, .data], laidTests := true, laidLooks := .later }
def Radix2SizesCardSaid : Prop := Claim7.holds Tryz.pinned (.plain (OpenSpec.ofChange radix2SizesSpec)) radix2SizesCard

/-- THE TIED CARD OF 'epicyclelaw12.Radix2Back'. -/
def radix2BackCard : Claim7 := { stood := { row := radix2BackRow, standIns := [], harness := (true, "484619a3ea0654a3aa379cd8abdfe4a62dcbab50b85ee9d31053134382c11286"), looks := false }, kinds := [], alts := [], laidByText := true, laidKinds := [.data, .data], laidTests := true, laidLooks := .later }
def Radix2BackCardSaid : Prop := Claim7.holds Tryz.pinned (.plain (OpenSpec.ofChange radix2BackSpec)) radix2BackCard

/-- THE TIED CARD OF 'epicyclelaw12.Radix2Folds'. -/
def radix2FoldsCard : Claim7 := { stood := { row := radix2FoldsRow, standIns := [], harness := (true, "484619a3ea0654a3aa379cd8abdfe4a62dcbab50b85ee9d31053134382c11286"), looks := false }, kinds := [], alts := [], laidByText := true, laidKinds := [.data, .data], laidTests := true, laidLooks := .later }
def Radix2FoldsCardSaid : Prop := Claim7.holds Tryz.pinned (.plain (OpenSpec.ofChange radix2FoldsSpec)) radix2FoldsCard

/-- THE SECOND FORM's CARD OF 'epicyclelaw12.Radix2Is'. -/
def radix2IsUptoCard : Claim7 := { stood := { row := radix2IsUptoRow, standIns := [], harness := (true, "484619a3ea0654a3aa379cd8abdfe4a62dcbab50b85ee9d31053134382c11286"), looks := false }, kinds := [], alts := [], laidByText := true, laidKinds := [.data, .data], laidTests := true, laidLooks := .later }
def Radix2IsUptoCardSaid : Prop := Claim7.holds Tryz.pinned (.plain (OpenSpec.upto radix2IsSpec)) radix2IsUptoCard

/-- THE SECOND FORM's CARD OF 'epicyclelaw12.Radix2Sizes'. -/
def radix2SizesUptoCard : Claim7 := { stood := { row := radix2SizesUptoRow, standIns := [], harness := (true, "484619a3ea0654a3aa379cd8abdfe4a62dcbab50b85ee9d31053134382c11286"), looks := false }, kinds := [], alts := [], laidByText := true, laidKinds := [.data, .data], laidTests := true, laidLooks := .later }
def Radix2SizesUptoCardSaid : Prop := Claim7.holds Tryz.pinned (.plain (OpenSpec.upto radix2SizesSpec)) radix2SizesUptoCard

/-- THE SECOND FORM's CARD OF 'epicyclelaw12.Radix2Back'. -/
def radix2BackUptoCard : Claim7 := { stood := { row := radix2BackUptoRow, standIns := [], harness := (true, "484619a3ea0654a3aa379cd8abdfe4a62dcbab50b85ee9d31053134382c11286"), looks := false }, kinds := [], alts := [], laidByText := true, laidKinds := [.data, .data], laidTests := true, laidLooks := .later }
def Radix2BackUptoCardSaid : Prop := Claim7.holds Tryz.pinned (.plain (OpenSpec.upto radix2BackSpec)) radix2BackUptoCard

/-- THE SECOND FORM's CARD OF 'epicyclelaw12.Radix2Folds'. -/
def radix2FoldsUptoCard : Claim7 := { stood := { row := radix2FoldsUptoRow, standIns := [], harness := (true, "484619a3ea0654a3aa379cd8abdfe4a62dcbab50b85ee9d31053134382c11286"), looks := false }, kinds := [], alts := [], laidByText := true, laidKinds := [.data, .data], laidTests := true, laidLooks := .later }
def Radix2FoldsUptoCardSaid : Prop := Claim7.holds Tryz.pinned (.plain (OpenSpec.upto radix2FoldsSpec)) radix2FoldsUptoCard
end Rows
end Go.Proofs.YtmeefipdbeifeaaGreatDoor

/-
  DERIVED. GIVEN WITH THE SEED: THE CARDS: each row of YtkemlbjcfbnfiaaGreatDoorRows.lean that lists a variable, with what it lists TIED to the program's text (the seventh form; the later family's looks); each row that meets fmt, with fmt's text TOLD by the authors' own Lean function (tested against real Go, not proved from fmt's source: count such statements apart). THE CARD IS WHAT COUNTS. Prove the row's statement (the work); the ties are given (YtkemlbjcfbnfiaaGreatDoorTie.lean); close each card by the builder's one call (the guide's Derived/Test/ToyasCard.lean, 'card_holds'). Laid BY PROGRAM, IN A SANDBOX (cutbox-door.mjs). By AI agents, Wed Nov 11 2026. No macro, syntax, notation, axiom, sorry.
-/
import Derived.Test.YtkemlbjcfbnfiaaGreatDoorRows
import GoSem.ClaimSeven
namespace Go.Proofs.YtkemlbjcfbnfiaaGreatDoor
namespace Rows

/-- THE TIED CARD OF 'epicyclelaw14.MixedIs'. -/
def mixedIsCard : Claim7 := { stood := { row := mixedIsRow, standIns := [], harness := (true, "accad8d7c6c65af20dfd908a8c3f7daf7632d54732638971339473cb21ae086d"), looks := false }, kinds := [], alts := [], laidByText := true, laidKinds := [.data], laidTests := true, laidLooks := .later }
def MixedIsCardSaid : Prop := Claim7.holds Tryz.pinned (.plain (OpenSpec.ofChange mixedIsSpec)) mixedIsCard

/-- THE TIED CARD OF 'epicyclelaw14.MixedRadices'. -/
def mixedRadicesCard : Claim7 := { stood := { row := mixedRadicesRow, standIns := [], harness := (true, "accad8d7c6c65af20dfd908a8c3f7daf7632d54732638971339473cb21ae086d"), looks := false }, kinds := [], alts := [], laidByText := true, laidKinds := [.data], laidTests := true, laidLooks := .later }
def MixedRadicesCardSaid : Prop := Claim7.holds Tryz.pinned (.plain (OpenSpec.ofChange mixedRadicesSpec)) mixedRadicesCard

/-- THE TIED CARD OF 'epicyclelaw14.MixedBack'. -/
def mixedBackCard : Claim7 := { stood := { row := mixedBackRow, standIns := [], harness := (true, "accad8d7c6c65af20dfd908a8c3f7daf7632d54732638971339473cb21ae086d"), looks := false }, kinds := [], alts := [], laidByText := true, laidKinds := [.data], laidTests := true, laidLooks := .later }
def MixedBackCardSaid : Prop := Claim7.holds Tryz.pinned (.plain (OpenSpec.ofChange mixedBackSpec)) mixedBackCard

/-- THE TIED CARD OF 'epicyclelaw14.MixedParts'. -/
def mixedPartsCard : Claim7 := { stood := { row := mixedPartsRow, standIns := [], harness := (true, "accad8d7c6c65af20dfd908a8c3f7daf7632d54732638971339473cb21ae086d"), looks := false }, kinds := [], alts := [], laidByText := true, laidKinds := [.data], laidTests := true, laidLooks := .later }
def MixedPartsCardSaid : Prop := Claim7.holds Tryz.pinned (.plain (OpenSpec.ofChange mixedPartsSpec)) mixedPartsCard

/-- THE SECOND FORM's CARD OF 'epicyclelaw14.MixedIs'. -/
def mixedIsUptoCard : Claim7 := { stood := { row := mixedIsUptoRow, standIns := [], harness := (true, "accad8d7c6c65af20dfd908a8c3f7daf7632d54732638971339473cb21ae086d"), looks := false }, kinds := [], alts := [], laidByText := true, laidKinds := [.data], laidTests := true, laidLooks := .later }
def MixedIsUptoCardSaid : Prop := Claim7.holds Tryz.pinned (.plain (OpenSpec.upto mixedIsSpec)) mixedIsUptoCard

/-- THE SECOND FORM's CARD OF 'epicyclelaw14.MixedRadices'. -/
def mixedRadicesUptoCard : Claim7 := { stood := { row := mixedRadicesUptoRow, standIns := [], harness := (true, "accad8d7c6c65af20dfd908a8c3f7daf7632d54732638971339473cb21ae086d"), looks := false }, kinds := [], alts := [], laidByText := true, laidKinds := [.data], laidTests := true, laidLooks := .later }
def MixedRadicesUptoCardSaid : Prop := Claim7.holds Tryz.pinned (.plain (OpenSpec.upto mixedRadicesSpec)) mixedRadicesUptoCard

/-- THE SECOND FORM's CARD OF 'epicyclelaw14.MixedBack'. -/
def mixedBackUptoCard : Claim7 := { stood := { row := mixedBackUptoRow, standIns := [], harness := (true, "accad8d7c6c65af20dfd908a8c3f7daf7632d54732638971339473cb21ae086d"), looks := false }, kinds := [], alts := [], laidByText := true, laidKinds := [.data], laidTests := true, laidLooks := .later }
def MixedBackUptoCardSaid : Prop := Claim7.holds Tryz.pinned (.plain (OpenSpec.upto mixedBackSpec)) mixedBackUptoCard

/-- THE SECOND FORM's CARD OF 'epicyclelaw14.MixedParts'. -/
def mixedPartsUptoCard : Claim7 := { stood := { row := mixedPartsUptoRow, standIns := [], harness := (true, "accad8d7c6c65af20dfd908a8c3f7daf7632d54732638971339473cb21ae086d"), looks := false }, kinds := [], alts := [], laidByText := true, laidKinds := [.data], laidTests := true, laidLooks := .later }
def MixedPartsUptoCardSaid : Prop := Claim7.holds Tryz.pinned (.plain (OpenSpec.upto mixedPartsSpec)) mixedPartsUptoCard
end Rows
end Go.Proofs.YtkemlbjcfbnfiaaGreatDoor

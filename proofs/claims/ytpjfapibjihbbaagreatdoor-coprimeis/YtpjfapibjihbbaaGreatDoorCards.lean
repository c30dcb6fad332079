/-
  DERIVED. GIVEN WITH THE SEED: THE CARDS: each row of YtpjfapibjihbbaaGreatDoorRows.lean that lists a variable, with what it lists TIED to the program's text (the seventh form; the later family's looks); each row that meets fmt, with fmt's text TOLD by the authors' own Lean function (tested against real Go, not proved from fmt's source: count such statements apart). THE CARD IS WHAT COUNTS. Prove the row's statement (the work); the ties are given (YtpjfapibjihbbaaGreatDoorTie.lean); close each card by the builder's one call (the guide's Derived/Test/ToyasCard.lean, 'card_holds'). Laid BY PROGRAM, IN A SANDBOX (cutbox-door.mjs). By AI agents, Wed Nov 11 2026. No macro, syntax, notation, axiom, sorry.
-/
import Derived.Test.YtpjfapibjihbbaaGreatDoorRows
import GoSem.ClaimSeven
namespace Go.Proofs.YtpjfapibjihbbaaGreatDoor
namespace Rows

/-- THE TIED CARD OF 'epicyclelaw15.CoprimeIs'. -/
def coprimeIsCard : Claim7 := { stood := { row := coprimeIsRow, standIns := [], harness := (true, "916a286503cecffa3983bdfc3b27bd87e2ab1e6f82a415f79e00ccbfd2f32cf4"), looks := false }, kinds := [], alts := [], laidByText := true, laidKinds := [.data], laidTests := true, laidLooks := .later }
def CoprimeIsCardSaid : Prop := Claim7.holds Tryz.pinned (.plain (OpenSpec.ofChange coprimeIsSpec)) coprimeIsCard

/-- THE TIED CARD OF 'epicyclelaw15.CoprimeTurns'. -/
def coprimeTurnsCard : Claim7 := { stood := { row := coprimeTurnsRow, standIns := [], harness := (true, "916a286503cecffa3983bdfc3b27bd87e2ab1e6f82a415f79e00ccbfd2f32cf4"), looks := false }, kinds := [], alts := [], laidByText := true, laidKinds := [.data], laidTests := true, laidLooks := .later }
def CoprimeTurnsCardSaid : Prop := Claim7.holds Tryz.pinned (.plain (OpenSpec.ofChange coprimeTurnsSpec)) coprimeTurnsCard

/-- THE SECOND FORM's CARD OF 'epicyclelaw15.CoprimeIs'. -/
def coprimeIsUptoCard : Claim7 := { stood := { row := coprimeIsUptoRow, standIns := [], harness := (true, "916a286503cecffa3983bdfc3b27bd87e2ab1e6f82a415f79e00ccbfd2f32cf4"), looks := false }, kinds := [], alts := [], laidByText := true, laidKinds := [.data], laidTests := true, laidLooks := .later }
def CoprimeIsUptoCardSaid : Prop := Claim7.holds Tryz.pinned (.plain (OpenSpec.upto coprimeIsSpec)) coprimeIsUptoCard

/-- THE SECOND FORM's CARD OF 'epicyclelaw15.CoprimeTurns'. -/
def coprimeTurnsUptoCard : Claim7 := { stood := { row := coprimeTurnsUptoRow, standIns := [], harness := (true, "916a286503cecffa3983bdfc3b27bd87e2ab1e6f82a415f79e00ccbfd2f32cf4"), looks := false }, kinds := [], alts := [], laidByText := true, laidKinds := [.data], laidTests := true, laidLooks := .later }
def CoprimeTurnsUptoCardSaid : Prop := Claim7.holds Tryz.pinned (.plain (OpenSpec.upto coprimeTurnsSpec)) coprimeTurnsUptoCard
end Rows
end Go.Proofs.YtpjfapibjihbbaaGreatDoor

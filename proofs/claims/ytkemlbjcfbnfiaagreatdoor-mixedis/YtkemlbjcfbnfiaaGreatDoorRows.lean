/-
  NARROWER THAN 'FOR EVERY INPUT', by the rows' own cells (each row's printed sentence says how): MixedIs: laid · MixedRadices: laid · MixedBack: laid · MixedParts: laid.
  DERIVED. THE GIVEN ROWS OF THIS SEAT. 4 by the template 'for every input the law returns true; each argument reads behind the call as it read before'; 0 by the template 'total and deterministic' (their statements: YtkemlbjcfbnfiaaGreatDoorTotals.lean).
  GIVEN WITH THE SEED: the statements are not yours to turn. If you find one false, say at which input.
  Laid BY PROGRAM, IN A SANDBOX (cutbox-rows.mjs): the forced cells as the released guide's own fill.sh prints them over the translation 6597780079063de2… (all of the seat's roots in one cut). By AI agents, Wed Nov 11 2026. No macro, syntax, notation, axiom, sorry.
-/
import Derived.Test.YtkemlbjcfbnfiaaGreatDoorChecked
import GoSem.Claim
import GoSem.ClaimJoined
import GoSem.ClaimMapViews
import Derived.JoinedTies
import Derived.KernelRfl
namespace Go.Proofs.YtkemlbjcfbnfiaaGreatDoor
/- THE CELL 'sum', in the pinned program and in every row, IS THE sha256 OF THE DUMP (.gsa) THAT YtkemlbjcfbnfiaaGreatDoorProg.lean LOADS. Nothing in Lean hashes anything: it is a label: what it is worth is what the hold of that sum in a sandbox is worth. -/
noncomputable def Tryz.pinned : Pinned := { name := "ytkemlbjcfbnfiaagreatdoor", sum := "6597780079063de2d18fd87021490da6abfc4ddc2f8fb174f8c51745a0858a67", checked := Tryz.checked }
namespace Rows
def none {H : Type} : Left H := { results := [], args := [] }

/- WHAT THE LISTED PACKAGE-LEVEL VARIABLES READ AS WHEN THE CALL BEGINS. Each datum BY PROGRAM (the guide's laid-datum.mjs) off the statement by which the dump's own 'gosem.cut.vars' lays the variable. In a bare row this is a premise. The card (YtkemlbjcfbnfiaaGreatDoorCards.lean) ties it to the program's text. -/
def laid_epicycle_mixed_factors {H : Type} : DataW H := .agg [.lit (.int .i64 2), .lit (.int .i64 3), .lit (.int .i64 5), .lit (.int .i64 7)]

/-- 'epicyclelaw14.MixedIs': WHATEVER THE INPUT: true; the input reads as it did. -/
def mixedIsSpec : ChangeSpec := { name := "mixedIs", fn := fun _ => fun
  | [d1, d2, d3] => { results := [.lit (.bool true)], args := [d1, d2, d3] }
  | _ => none }
def mixedIsRow : OpenClaim := { program := "ytkemlbjcfbnfiaagreatdoor", sum := "6597780079063de2d18fd87021490da6abfc4ddc2f8fb174f8c51745a0858a67", func := "epicycle/epicyclelaw14.MixedIs", spec := "mixedIs", inPlace := ["math/bits.Add64"], unfollowed := true, recurses := true, named := ["math/bits.divideError", "math/bits.overflowError", "epicycle/mixed.factors"], apart := false, laid := [("epicycle/mixed.factors", laid_epicycle_mixed_factors)] }
def MixedIsSaid : Prop := mixedIsRow.holds Tryz.pinned (OpenSpec.ofChange mixedIsSpec)

/-- ITS FALSE NEIGHBOUR: 'it returns false'. Refute it at one input. -/
def mixedIsWrong : ChangeSpec := { name := "mixedIs", fn := fun _ => fun
  | [d1, d2, d3] => { results := [.lit (.bool false)], args := [d1, d2, d3] }
  | _ => none }
def MixedIsWrongFalsely : Prop := mixedIsRow.holds Tryz.pinned (OpenSpec.ofChange mixedIsWrong)

/-- 'epicyclelaw14.MixedRadices': WHATEVER THE INPUT: true; the input reads as it did. -/
def mixedRadicesSpec : ChangeSpec := { name := "mixedRadices", fn := fun _ => fun
  | [d] => { results := [.lit (.bool true)], args := [d] }
  | _ => none }
def mixedRadicesRow : OpenClaim := { program := "ytkemlbjcfbnfiaagreatdoor", sum := "6597780079063de2d18fd87021490da6abfc4ddc2f8fb174f8c51745a0858a67", func := "epicycle/epicyclelaw14.MixedRadices", spec := "mixedRadices", inPlace := ["math/bits.Add64"], unfollowed := true, recurses := true, named := ["math/bits.divideError", "math/bits.overflowError", "epicycle/mixed.factors"], apart := false, laid := [("epicycle/mixed.factors", laid_epicycle_mixed_factors)] }
def MixedRadicesSaid : Prop := mixedRadicesRow.holds Tryz.pinned (OpenSpec.ofChange mixedRadicesSpec)

/-- ITS FALSE NEIGHBOUR: 'it returns false'. Refute it at one input. -/
def mixedRadicesWrong : ChangeSpec := { name := "mixedRadices", fn := fun _ => fun
  | [d] => { results := [.lit (.bool false)], args := [d] }
  | _ => none }
def MixedRadicesWrongFalsely : Prop := mixedRadicesRow.holds Tryz.pinned (OpenSpec.ofChange mixedRadicesWrong)

/-- 'epicyclelaw14.MixedBack': WHATEVER THE INPUT: true; the input reads as it did. -/
def mixedBackSpec : ChangeSpec := { name := "mixedBack", fn := fun _ => fun
  | [d1, d2, d3] => { results := [.lit (.bool true)], args := [d1, d2, d3] }
  | _ => none }
def mixedBackRow : OpenClaim := { program := "ytkemlbjcfbnfiaagreatdoor", sum := "6597780079063de2d18fd87021490da6abfc4ddc2f8fb174f8c51745a0858a67", func := "epicycle/epicyclelaw14.MixedBack", spec := "mixedBack", inPlace := ["math/bits.Add64"], unfollowed := true, recurses := true, named := ["math/bits.divideError", "math/bits.overflowError", "epicycle/mixed.factors"], apart := false, laid := [("epicycle/mixed.factors", laid_epicycle_mixed_factors)] }
def MixedBackSaid : Prop := mixedBackRow.holds Tryz.pinned (OpenSpec.ofChange mixedBackSpec)

/-- ITS FALSE NEIGHBOUR: 'it returns false'. Refute it at one input. -/
def mixedBackWrong : ChangeSpec := { name := "mixedBack", fn := fun _ => fun
  | [d1, d2, d3] => { results := [.lit (.bool false)], args := [d1, d2, d3] }
  | _ => none }
def MixedBackWrongFalsely : Prop := mixedBackRow.holds Tryz.pinned (OpenSpec.ofChange mixedBackWrong)

/-- 'epicyclelaw14.MixedParts': WHATEVER THE INPUT: true; the input reads as it did. -/
def mixedPartsSpec : ChangeSpec := { name := "mixedParts", fn := fun _ => fun
  | [d1, d2, d3] => { results := [.lit (.bool true)], args := [d1, d2, d3] }
  | _ => none }
def mixedPartsRow : OpenClaim := { program := "ytkemlbjcfbnfiaagreatdoor", sum := "6597780079063de2d18fd87021490da6abfc4ddc2f8fb174f8c51745a0858a67", func := "epicycle/epicyclelaw14.MixedParts", spec := "mixedParts", inPlace := ["math/bits.Add64"], unfollowed := true, recurses := true, named := ["math/bits.divideError", "math/bits.overflowError", "epicycle/mixed.factors"], apart := false, laid := [("epicycle/mixed.factors", laid_epicycle_mixed_factors)] }
def MixedPartsSaid : Prop := mixedPartsRow.holds Tryz.pinned (OpenSpec.ofChange mixedPartsSpec)

/-- ITS FALSE NEIGHBOUR: 'it returns false'. Refute it at one input. -/
def mixedPartsWrong : ChangeSpec := { name := "mixedParts", fn := fun _ => fun
  | [d1, d2, d3] => { results := [.lit (.bool false)], args := [d1, d2, d3] }
  | _ => none }
def MixedPartsWrongFalsely : Prop := mixedPartsRow.holds Tryz.pinned (OpenSpec.ofChange mixedPartsWrong)

/- THE SECOND FORM. 'bulk': how many values and letters a reading holds, each counted each time it is reached (what is shared counts as often as it is met; a slice's spare places count too). A statement '..UptoSaid' is the law's where the arguments, and the package variables that the reading takes, are together of bulk at most 1048576: NARROWER than '..Said'. Prove '..Said' where nothing that the law and all that it calls make is longer than what came in: it says more and counts as full. Else prove '..UptoSaid'. A law counts once. -/
mutual
def uptoBulk {H : Type} : DataW H → Nat
  | .lit (.string bytes) => bytes.length + 1
  | .lit _ => 1
  | .nil => 1
  | .ptr d => uptoBulk d + 1
  | .slice elems spare => uptoBulkAll elems + uptoBulkAll spare + 1
  | .agg parts => uptoBulkAll parts + 1
  | .iface _ d => uptoBulk d + 1
  | .map entries => uptoBulkEntries entries + 1
  | .held _ => 1
def uptoBulkAll {H : Type} : List (DataW H) → Nat
  | [] => 0
  | d :: r => uptoBulk d + uptoBulkAll r
def uptoBulkEntries {H : Type} : List (Lit × DataW H) → Nat
  | [] => 0
  | x :: r => uptoBulkEntry x + uptoBulkEntries r
def uptoBulkEntry {H : Type} : Lit × DataW H → Nat
  | (.string bytes, d) => bytes.length + uptoBulk d + 1
  | (_, d) => uptoBulk d + 1
 end
def uptoSmall : (H : Type) → List (DataW H) → Bool := fun _ ds => decide (uptoBulkAll ds ≤ 1048576)
def OpenSpec.upto (s : _root_.Go.ChangeSpec) : _root_.Go.OpenSpec := { _root_.Go.OpenSpec.ofChange s with cond := some uptoSmall }

/-- 'epicyclelaw14.MixedIs', WHERE WHAT IT READS IS OF BULK AT MOST 1048576: true; the input reads as it did. -/
def mixedIsUptoRow : OpenClaim := { program := "ytkemlbjcfbnfiaagreatdoor", sum := "6597780079063de2d18fd87021490da6abfc4ddc2f8fb174f8c51745a0858a67", func := "epicycle/epicyclelaw14.MixedIs", spec := "mixedIs", inPlace := ["math/bits.Add64"], unfollowed := true, recurses := true, named := ["math/bits.divideError", "math/bits.overflowError", "epicycle/mixed.factors"], apart := false, laid := [("epicycle/mixed.factors", laid_epicycle_mixed_factors)], narrowed := true }
def MixedIsUptoSaid : Prop := mixedIsUptoRow.holds Tryz.pinned (OpenSpec.upto mixedIsSpec)

/-- 'epicyclelaw14.MixedRadices', WHERE WHAT IT READS IS OF BULK AT MOST 1048576: true; the input reads as it did. -/
def mixedRadicesUptoRow : OpenClaim := { program := "ytkemlbjcfbnfiaagreatdoor", sum := "6597780079063de2d18fd87021490da6abfc4ddc2f8fb174f8c51745a0858a67", func := "epicycle/epicyclelaw14.MixedRadices", spec := "mixedRadices", inPlace := ["math/bits.Add64"], unfollowed := true, recurses := true, named := ["math/bits.divideError", "math/bits.overflowError", "epicycle/mixed.factors"], apart := false, laid := [("epicycle/mixed.factors", laid_epicycle_mixed_factors)], narrowed := true }
def MixedRadicesUptoSaid : Prop := mixedRadicesUptoRow.holds Tryz.pinned (OpenSpec.upto mixedRadicesSpec)

/-- 'epicyclelaw14.MixedBack', WHERE WHAT IT READS IS OF BULK AT MOST 1048576: true; the input reads as it did. -/
def mixedBackUptoRow : OpenClaim := { program := "ytkemlbjcfbnfiaagreatdoor", sum := "6597780079063de2d18fd87021490da6abfc4ddc2f8fb174f8c51745a0858a67", func := "epicycle/epicyclelaw14.MixedBack", spec := "mixedBack", inPlace := ["math/bits.Add64"], unfollowed := true, recurses := true, named := ["math/bits.divideError", "math/bits.overflowError", "epicycle/mixed.factors"], apart := false, laid := [("epicycle/mixed.factors", laid_epicycle_mixed_factors)], narrowed := true }
def MixedBackUptoSaid : Prop := mixedBackUptoRow.holds Tryz.pinned (OpenSpec.upto mixedBackSpec)

/-- 'epicyclelaw14.MixedParts', WHERE WHAT IT READS IS OF BULK AT MOST 1048576: true; the input reads as it did. -/
def mixedPartsUptoRow : OpenClaim := { program := "ytkemlbjcfbnfiaagreatdoor", sum := "6597780079063de2d18fd87021490da6abfc4ddc2f8fb174f8c51745a0858a67", func := "epicycle/epicyclelaw14.MixedParts", spec := "mixedParts", inPlace := ["math/bits.Add64"], unfollowed := true, recurses := true, named := ["math/bits.divideError", "math/bits.overflowError", "epicycle/mixed.factors"], apart := false, laid := [("epicycle/mixed.factors", laid_epicycle_mixed_factors)], narrowed := true }
def MixedPartsUptoSaid : Prop := mixedPartsUptoRow.holds Tryz.pinned (OpenSpec.upto mixedPartsSpec)

end Rows
end Go.Proofs.YtkemlbjcfbnfiaaGreatDoor

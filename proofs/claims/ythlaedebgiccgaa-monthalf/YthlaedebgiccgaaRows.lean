/-
  No cell of these rows narrows 'for every input' (looked for: loops, veiled, ifaces, maps, wideKeys, modest, calm, conditions, laid).
  DERIVED. THE GIVEN ROWS OF THIS SEAT. 5 by the template 'for every input the law returns true; each argument reads behind the call as it read before'; 0 by the template 'total and deterministic' (their statements: YthlaedebgiccgaaTotals.lean).
  GIVEN WITH THE SEED: the statements are not yours to turn. If you find one false, say at which input.
  Laid BY PROGRAM, IN A SANDBOX (cutbox-rows.mjs): the forced cells as the released guide's own fill.sh prints them over the translation db61cbee5e0996cb… (all of the seat's roots in one cut). By AI agents, Wed Nov 11 2026. No macro, syntax, notation, axiom, sorry.
-/
import Derived.Test.YthlaedebgiccgaaChecked
import GoSem.Claim
import GoSem.ClaimJoined
import GoSem.ClaimMapViews
import Derived.JoinedTies
import Derived.KernelRfl
namespace Go.Proofs.Ythlaedebgiccgaa
/- THE CELL 'sum', in the pinned program and in every row, IS THE sha256 OF THE DUMP (.gsa) THAT YthlaedebgiccgaaProg.lean LOADS. Nothing in Lean hashes anything: it is a label: what it is worth is what the hold of that sum in a sandbox is worth. -/
noncomputable def Try.pinned : Pinned := { name := "ythlaedebgiccgaa", sum := "db61cbee5e0996cb30f70b95ec5cdd22bf08dda4d0dab51da39cbf1af7ce3de4", checked := Try.checked }
namespace Rows
def none {H : Type} : Left H := { results := [], args := [] }

/-- 'epicyclelaw03.MontStands': WHATEVER THE INPUT: true; the input reads as it did. -/
def montStandsSpec : ChangeSpec := { name := "montStands", fn := fun _ => fun
  | [d1, d2, d3] => { results := [.lit (.bool true)], args := [d1, d2, d3] }
  | _ => none }
def montStandsRow : OpenClaim := { program := "ythlaedebgiccgaa", sum := "db61cbee5e0996cb30f70b95ec5cdd22bf08dda4d0dab51da39cbf1af7ce3de4", func := "epicycle/epicyclelaw03.MontStands", spec := "montStands", inPlace := ["math/bits.Add64"], apart := false }
def MontStandsSaid : Prop := montStandsRow.holds Try.pinned (OpenSpec.ofChange montStandsSpec)

/-- ITS FALSE NEIGHBOUR: 'it returns false'. Refute it at one input. -/
def montStandsWrong : ChangeSpec := { name := "montStands", fn := fun _ => fun
  | [d1, d2, d3] => { results := [.lit (.bool false)], args := [d1, d2, d3] }
  | _ => none }
def MontStandsWrongFalsely : Prop := montStandsRow.holds Try.pinned (OpenSpec.ofChange montStandsWrong)

/-- 'epicyclelaw03.MontReturns': WHATEVER THE INPUT: true; the input reads as it did. -/
def montReturnsSpec : ChangeSpec := { name := "montReturns", fn := fun _ => fun
  | [d1, d2] => { results := [.lit (.bool true)], args := [d1, d2] }
  | _ => none }
def montReturnsRow : OpenClaim := { program := "ythlaedebgiccgaa", sum := "db61cbee5e0996cb30f70b95ec5cdd22bf08dda4d0dab51da39cbf1af7ce3de4", func := "epicycle/epicyclelaw03.MontReturns", spec := "montReturns", inPlace := ["math/bits.Add64"], apart := false }
def MontReturnsSaid : Prop := montReturnsRow.holds Try.pinned (OpenSpec.ofChange montReturnsSpec)

/-- ITS FALSE NEIGHBOUR: 'it returns false'. Refute it at one input. -/
def montReturnsWrong : ChangeSpec := { name := "montReturns", fn := fun _ => fun
  | [d1, d2] => { results := [.lit (.bool false)], args := [d1, d2] }
  | _ => none }
def MontReturnsWrongFalsely : Prop := montReturnsRow.holds Try.pinned (OpenSpec.ofChange montReturnsWrong)

/-- 'epicyclelaw03.MontDoes': WHATEVER THE INPUT: true; the input reads as it did. -/
def montDoesSpec : ChangeSpec := { name := "montDoes", fn := fun _ => fun
  | [d1, d2, d3, d4] => { results := [.lit (.bool true)], args := [d1, d2, d3, d4] }
  | _ => none }
def montDoesRow : OpenClaim := { program := "ythlaedebgiccgaa", sum := "db61cbee5e0996cb30f70b95ec5cdd22bf08dda4d0dab51da39cbf1af7ce3de4", func := "epicycle/epicyclelaw03.MontDoes", spec := "montDoes", inPlace := ["math/bits.Add64"], recurses := true, apart := false }
def MontDoesSaid : Prop := montDoesRow.holds Try.pinned (OpenSpec.ofChange montDoesSpec)

/-- ITS FALSE NEIGHBOUR: 'it returns false'. Refute it at one input. -/
def montDoesWrong : ChangeSpec := { name := "montDoes", fn := fun _ => fun
  | [d1, d2, d3, d4] => { results := [.lit (.bool false)], args := [d1, d2, d3, d4] }
  | _ => none }
def MontDoesWrongFalsely : Prop := montDoesRow.holds Try.pinned (OpenSpec.ofChange montDoesWrong)

/-- 'epicyclelaw03.MontHalf': WHATEVER THE INPUT: true; the input reads as it did. -/
def montHalfSpec : ChangeSpec := { name := "montHalf", fn := fun _ => fun
  | [d1, d2, d3] => { results := [.lit (.bool true)], args := [d1, d2, d3] }
  | _ => none }
def montHalfRow : OpenClaim := { program := "ythlaedebgiccgaa", sum := "db61cbee5e0996cb30f70b95ec5cdd22bf08dda4d0dab51da39cbf1af7ce3de4", func := "epicycle/epicyclelaw03.MontHalf", spec := "montHalf", inPlace := ["math/bits.Add64"], apart := false }
def MontHalfSaid : Prop := montHalfRow.holds Try.pinned (OpenSpec.ofChange montHalfSpec)

/-- ITS FALSE NEIGHBOUR: 'it returns false'. Refute it at one input. -/
def montHalfWrong : ChangeSpec := { name := "montHalf", fn := fun _ => fun
  | [d1, d2, d3] => { results := [.lit (.bool false)], args := [d1, d2, d3] }
  | _ => none }
def MontHalfWrongFalsely : Prop := montHalfRow.holds Try.pinned (OpenSpec.ofChange montHalfWrong)

/-- 'epicyclelaw03.MontRests': WHATEVER THE INPUT: true; the input reads as it did. -/
def montRestsSpec : ChangeSpec := { name := "montRests", fn := fun _ => fun
  | [d1, d2, d3] => { results := [.lit (.bool true)], args := [d1, d2, d3] }
  | _ => none }
def montRestsRow : OpenClaim := { program := "ythlaedebgiccgaa", sum := "db61cbee5e0996cb30f70b95ec5cdd22bf08dda4d0dab51da39cbf1af7ce3de4", func := "epicycle/epicyclelaw03.MontRests", spec := "montRests", inPlace := ["math/bits.Add64"], apart := false }
def MontRestsSaid : Prop := montRestsRow.holds Try.pinned (OpenSpec.ofChange montRestsSpec)

/-- ITS FALSE NEIGHBOUR: 'it returns false'. Refute it at one input. -/
def montRestsWrong : ChangeSpec := { name := "montRests", fn := fun _ => fun
  | [d1, d2, d3] => { results := [.lit (.bool false)], args := [d1, d2, d3] }
  | _ => none }
def MontRestsWrongFalsely : Prop := montRestsRow.holds Try.pinned (OpenSpec.ofChange montRestsWrong)

/- THE SECOND FORM. 'bulk': how many values and letters a reading holds, each counted each time it is reached (what is shared counts as often as it is met; a slice's spare places count too). A statement '..UptoSaid' is the law's where the arguments, and the package variables that the reading takes, are together of bulk at most 1048576: NARROWER than '..Said'. Prove '..Said' where nothing that the law and all that it calls make is longer than what came in: it says more and counts as full. Else prove '..UptoSaid'. A law counts once. -/
mutual
def uptoBulk {H : Type} : DataW H → Nat
  | .lit (.string bytes) => bytes.length + 1
  | .lit _ => 1
  | .nil => 1
  | .ptr d => uptoBulk d + 1
  | .slice elems spare => uptoBulkAll elems + uptoBulkAll spare + 1
  | .agg parts => uptoBulkAll parts + 1
  | .iface _ d => uptoBulk d + 1
  | .map entries => uptoBulkEntries entries + 1
  | .held _ => 1
def uptoBulkAll {H : Type} : List (DataW H) → Nat
  | [] => 0
  | d :: r => uptoBulk d + uptoBulkAll r
def uptoBulkEntries {H : Type} : List (Lit × DataW H) → Nat
  | [] => 0
  | x :: r => uptoBulkEntry x + uptoBulkEntries r
def uptoBulkEntry {H : Type} : Lit × DataW H → Nat
  | (.string bytes, d) => bytes.length + uptoBulk d + 1
  | (_, d) => uptoBulk d + 1
 end
def uptoSmall : (H : Type) → List (DataW H) → Bool := fun _ ds => decide (uptoBulkAll ds ≤ 1048576)
def OpenSpec.upto (s : _root_.Go.ChangeSpec) : _root_.Go.OpenSpec := { _root_.Go.OpenSpec.ofChange s with cond := some uptoSmall }

/-- 'epicyclelaw03.MontStands', WHERE WHAT IT READS IS OF BULK AT MOST 1048576: true; the input reads as it did. -/
def montStandsUptoRow : OpenClaim := { program := "ythlaedebgiccgaa", sum := "db61cbee5e0996cb30f70b95ec5cdd22bf08dda4d0dab51da39cbf1af7ce3de4", func := "epicycle/epicyclelaw03.MontStands", spec := "montStands", inPlace := ["math/bits.Add64"], apart := false, narrowed := true }
def MontStandsUptoSaid : Prop := montStandsUptoRow.holds Try.pinned (OpenSpec.upto montStandsSpec)

/-- 'epicyclelaw03.MontReturns', WHERE WHAT IT READS IS OF BULK AT MOST 1048576: true; the input reads as it did. -/
def montReturnsUptoRow : OpenClaim := { program := "ythlaedebgiccgaa", sum := "db61cbee5e0996cb30f70b95ec5cdd22bf08dda4d0dab51da39cbf1af7ce3de4", func := "epicycle/epicyclelaw03.MontReturns", spec := "montReturns", inPlace := ["math/bits.Add64"], apart := false, narrowed := true }
def MontReturnsUptoSaid : Prop := montReturnsUptoRow.holds Try.pinned (OpenSpec.upto montReturnsSpec)

/-- 'epicyclelaw03.MontDoes', WHERE WHAT IT READS IS OF BULK AT MOST 1048576: true; the input reads as it did. -/
def montDoesUptoRow : OpenClaim := { program := "ythlaedebgiccgaa", sum := "db61cbee5e0996cb30f70b95ec5cdd22bf08dda4d0dab51da39cbf1af7ce3de4", func := "epicycle/epicyclelaw03.MontDoes", spec := "montDoes", inPlace := ["math/bits.Add64"], recurses := true, apart := false, narrowed := true }
def MontDoesUptoSaid : Prop := montDoesUptoRow.holds Try.pinned (OpenSpec.upto montDoesSpec)

/-- 'epicyclelaw03.MontHalf', WHERE WHAT IT READS IS OF BULK AT MOST 1048576: true; the input reads as it did. -/
def montHalfUptoRow : OpenClaim := { program := "ythlaedebgiccgaa", sum := "db61cbee5e0996cb30f70b95ec5cdd22bf08dda4d0dab51da39cbf1af7ce3de4", func := "epicycle/epicyclelaw03.MontHalf", spec := "montHalf", inPlace := ["math/bits.Add64"], apart := false, narrowed := true }
def MontHalfUptoSaid : Prop := montHalfUptoRow.holds Try.pinned (OpenSpec.upto montHalfSpec)

/-- 'epicyclelaw03.MontRests', WHERE WHAT IT READS IS OF BULK AT MOST 1048576: true; the input reads as it did. -/
def montRestsUptoRow : OpenClaim := { program := "ythlaedebgiccgaa", sum := "db61cbee5e0996cb30f70b95ec5cdd22bf08dda4d0dab51da39cbf1af7ce3de4", func := "epicycle/epicyclelaw03.MontRests", spec := "montRests", inPlace := ["math/bits.Add64"], apart := false, narrowed := true }
def MontRestsUptoSaid : Prop := montRestsUptoRow.holds Try.pinned (OpenSpec.upto montRestsSpec)

end Rows
end Go.Proofs.Ythlaedebgiccgaa

/-
  No cell of these rows narrows 'for every input' (looked for: loops, veiled, ifaces, maps, wideKeys, modest, calm, conditions, laid).
  DERIVED. THE GIVEN ROWS OF THIS SEAT. 2 by the template 'for every input the law returns true; each argument reads behind the call as it read before'; 0 by the template 'total and deterministic' (their statements: YtehljcflodilhaaGreatTotals.lean).
  GIVEN WITH THE SEED: the statements are not yours to turn. If you find one false, say at which input.
  Laid BY PROGRAM, IN A SANDBOX (cutbox-rows.mjs): the forced cells as the released guide's own fill.sh prints them over the translation 2ce37fc118f7e5f3… (all of the seat's roots in one cut). By AI agents, Wed Nov 11 2026. No macro, syntax, notation, axiom, sorry.
-/
import Derived.Test.YtehljcflodilhaaGreatChecked
import GoSem.Claim
import GoSem.ClaimJoined
import GoSem.ClaimMapViews
import Derived.JoinedTies
import Derived.KernelRfl
namespace Go.Proofs.YtehljcflodilhaaGreat
/- THE CELL 'sum', in the pinned program and in every row, IS THE sha256 OF THE DUMP (.gsa) THAT YtehljcflodilhaaGreatProg.lean LOADS. Nothing in Lean hashes anything: it is a label: what it is worth is what the hold of that sum in a sandbox is worth. -/
noncomputable def Tryz.pinned : Pinned := { name := "ytehljcflodilhaagreat", sum := "2ce37fc118f7e5f3eb4f1ea3e7a8b3043a01d096e985084d9e016c1217b43289", checked := Tryz.checked }
namespace Rows
def none {H : Type} : Left H := { results := [], args := [] }

/-- 'epicyclelaw13.Radix4Is': WHATEVER THE INPUT: true; the input reads as it did. -/
def radix4IsSpec : ChangeSpec := { name := "radix4Is", fn := fun _ => fun
  | [d1, d2, d3] => { results := [.lit (.bool true)], args := [d1, d2, d3] }
  | _ => none }
def radix4IsRow : OpenClaim := { program := "ytehljcflodilhaagreat", sum := "2ce37fc118f7e5f3eb4f1ea3e7a8b3043a01d096e985084d9e016c1217b43289", func := "epicycle/epicyclelaw13.Radix4Is", spec := "radix4Is", inPlace := ["math/bits.Add64"], unfollowed := true, recurses := true, named := ["math/bits.divideError", "math/bits.overflowError"], apart := false }
def Radix4IsSaid : Prop := radix4IsRow.holds Tryz.pinned (OpenSpec.ofChange radix4IsSpec)

/-- ITS FALSE NEIGHBOUR: 'it returns false'. Refute it at one input. -/
def radix4IsWrong : ChangeSpec := { name := "radix4Is", fn := fun _ => fun
  | [d1, d2, d3] => { results := [.lit (.bool false)], args := [d1, d2, d3] }
  | _ => none }
def Radix4IsWrongFalsely : Prop := radix4IsRow.holds Tryz.pinned (OpenSpec.ofChange radix4IsWrong)

/-- 'epicyclelaw13.Radix4Row': WHATEVER THE INPUT: true; the input reads as it did. -/
def radix4RowSpec : ChangeSpec := { name := "radix4Row", fn := fun _ => fun
  | [d1, d2, d3, d4] => { results := [.lit (.bool true)], args := [d1, d2, d3, d4] }
  | _ => none }
def radix4RowRow : OpenClaim := { program := "ytehljcflodilhaagreat", sum := "2ce37fc118f7e5f3eb4f1ea3e7a8b3043a01d096e985084d9e016c1217b43289", func := "epicycle/epicyclelaw13.Radix4Row", spec := "radix4Row", inPlace := ["math/bits.Add64"], unfollowed := true, recurses := true, named := ["math/bits.divideError", "math/bits.overflowError"], apart := false }
def Radix4RowSaid : Prop := radix4RowRow.holds Tryz.pinned (OpenSpec.ofChange radix4RowSpec)

/-- ITS FALSE NEIGHBOUR: 'it returns false'. Refute it at one input. -/
def radix4RowWrong : ChangeSpec := { name := "radix4Row", fn := fun _ => fun
  | [d1, d2, d3, d4] => { results := [.lit (.bool false)], args := [d1, d2, d3, d4] }
  | _ => none }
def Radix4RowWrongFalsely : Prop := radix4RowRow.holds Tryz.pinned (OpenSpec.ofChange radix4RowWrong)

/- THE SECOND FORM. 'bulk': how many values and letters a reading holds, each counted each time it is reached (what is shared counts as often as it is met; a slice's spare places count too). A statement '..UptoSaid' is the law's where the arguments, and the package variables that the reading takes, are together of bulk at most 1048576: NARROWER than '..Said'. Prove '..Said' where nothing that the law and all that it calls make is longer than what came in: it says more and counts as full. Else prove '..UptoSaid'. A law counts once. -/
mutual
def uptoBulk {H : Type} : DataW H → Nat
  | .lit (.string bytes) => bytes.length + 1
  | .lit _ => 1
  | .nil => 1
  | .ptr d => uptoBulk d + 1
  | .slice elems spare => uptoBulkAll elems + uptoBulkAll spare + 1
  | .agg parts => uptoBulkAll parts + 1
  | .iface _ d => uptoBulk d + 1
  | .map entries => uptoBulkEntries entries + 1
  | .held _ => 1
def uptoBulkAll {H : Type} : List (DataW H) → Nat
  | [] => 0
  | d :: r => uptoBulk d + uptoBulkAll r
def uptoBulkEntries {H : Type} : List (Lit × DataW H) → Nat
  | [] => 0
  | x :: r => uptoBulkEntry x + uptoBulkEntries r
def uptoBulkEntry {H : Type} : Lit × DataW H → Nat
  | (.string bytes, d) => bytes.length + uptoBulk d + 1
  | (_, d) => uptoBulk d + 1
 end
def uptoSmall : (H : Type) → List (DataW H) → Bool := fun _ ds => decide (uptoBulkAll ds ≤ 1048576)
def OpenSpec.upto (s : _root_.Go.ChangeSpec) : _root_.Go.OpenSpec := { _root_.Go.OpenSpec.ofChange s with cond := some uptoSmall }

/-- 'epicyclelaw13.Radix4Is', WHERE WHAT IT READS IS OF BULK AT MOST 1048576: true; the input reads as it did. -/
def radix4IsUptoRow : OpenClaim := { program := "ytehljcflodilhaagreat", sum := "2ce37fc118f7e5f3eb4f1ea3e7a8b3043a01d096e985084d9e016c1217b43289", func := "epicycle/epicyclelaw13.Radix4Is", spec := "radix4Is", inPlace := ["math/bits.Add64"], unfollowed := true, recurses := true, named := ["math/bits.divideError", "math/bits.overflowError"], apart := false, narrowed := true }
def Radix4IsUptoSaid : Prop := radix4IsUptoRow.holds Tryz.pinned (OpenSpec.upto radix4IsSpec)

/-- 'epicyclelaw13.Radix4Row', WHERE WHAT IT READS IS OF BULK AT MOST 1048576: true; the input reads as it did. -/
def radix4RowUptoRow : OpenClaim := { program := "ytehljcflodilhaagreat", sum := "2ce37fc118f7e5f3eb4f1ea3e7a8b3043a01d096e985084d9e016c1217b43289", func := "epicycle/epicyclelaw13.Radix4Row", spec := "radix4Row", inPlace := ["math/bits.Add64"], unfollowed := true, recurses := true, named := ["math/bits.divideError", "math/bits.overflowError"], apart := false, narrowed := true }
def Radix4RowUptoSaid : Prop := radix4RowUptoRow.holds Tryz.pinned (OpenSpec.upto radix4RowSpec)

end Rows
end Go.Proofs.YtehljcflodilhaaGreat

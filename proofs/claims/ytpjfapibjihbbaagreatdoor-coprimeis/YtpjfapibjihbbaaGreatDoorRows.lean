/-
  NARROWER THAN 'FOR EVERY INPUT', by the rows' own cells (each row's printed sentence says how): CoprimeIs: laid · CoprimeTurns: laid.
  DERIVED. THE GIVEN ROWS OF THIS SEAT. 2 by the template 'for every input the law returns true; each argument reads behind the call as it read before'; 0 by the template 'total and deterministic' (their statements: YtpjfapibjihbbaaGreatDoorTotals.lean).
  GIVEN WITH THE SEED: the statements are not yours to turn. If you find one false, say at which input.
  Laid BY PROGRAM, IN A SANDBOX (cutbox-rows.mjs): the forced cells as the released guide's own fill.sh prints them over the translation 34d48e77d7e32c40… (all of the seat's roots in one cut). By AI agents, Wed Nov 11 2026. No macro, syntax, notation, axiom, sorry.
-/
import Derived.Test.YtpjfapibjihbbaaGreatDoorChecked
import GoSem.Claim
import GoSem.ClaimJoined
import GoSem.ClaimMapViews
import Derived.JoinedTies
import Derived.KernelRfl
namespace Go.Proofs.YtpjfapibjihbbaaGreatDoor
/- THE CELL 'sum', in the pinned program and in every row, IS THE sha256 OF THE DUMP (.gsa) THAT YtpjfapibjihbbaaGreatDoorProg.lean LOADS. Nothing in Lean hashes anything: it is a label: what it is worth is what the hold of that sum in a sandbox is worth. -/
noncomputable def Tryz.pinned : Pinned := { name := "ytpjfapibjihbbaagreatdoor", sum := "34d48e77d7e32c40b0efc9d791140f4f96f8f2fe76d60838b34bd5032d3b765d", checked := Tryz.checked }
namespace Rows
def none {H : Type} : Left H := { results := [], args := [] }

/- WHAT THE LISTED PACKAGE-LEVEL VARIABLES READ AS WHEN THE CALL BEGINS. Each datum BY PROGRAM (the guide's laid-datum.mjs) off the statement by which the dump's own 'gosem.cut.vars' lays the variable. In a bare row this is a premise. The card (YtpjfapibjihbbaaGreatDoorCards.lean) ties it to the program's text. -/
def laid_epicycle_mixed_factors {H : Type} : DataW H := .agg [.lit (.int .i64 2), .lit (.int .i64 3), .lit (.int .i64 5), .lit (.int .i64 7)]

/-- 'epicyclelaw15.CoprimeIs': WHATEVER THE INPUT: true; the input reads as it did. -/
def coprimeIsSpec : ChangeSpec := { name := "coprimeIs", fn := fun _ => fun
  | [d1, d2, d3, d4] => { results := [.lit (.bool true)], args := [d1, d2, d3, d4] }
  | _ => none }
def coprimeIsRow : OpenClaim := { program := "ytpjfapibjihbbaagreatdoor", sum := "34d48e77d7e32c40b0efc9d791140f4f96f8f2fe76d60838b34bd5032d3b765d", func := "epicycle/epicyclelaw15.CoprimeIs", spec := "coprimeIs", inPlace := ["math/bits.Add64"], unfollowed := true, recurses := true, named := ["math/bits.divideError", "math/bits.overflowError", "epicycle/mixed.factors"], plainKeys := false, apart := false, laid := [("epicycle/mixed.factors", laid_epicycle_mixed_factors)] }
def CoprimeIsSaid : Prop := coprimeIsRow.holds Tryz.pinned (OpenSpec.ofChange coprimeIsSpec)

/-- ITS FALSE NEIGHBOUR: 'it returns false'. Refute it at one input. -/
def coprimeIsWrong : ChangeSpec := { name := "coprimeIs", fn := fun _ => fun
  | [d1, d2, d3, d4] => { results := [.lit (.bool false)], args := [d1, d2, d3, d4] }
  | _ => none }
def CoprimeIsWrongFalsely : Prop := coprimeIsRow.holds Tryz.pinned (OpenSpec.ofChange coprimeIsWrong)

/-- 'epicyclelaw15.CoprimeTurns': WHATEVER THE INPUT: true; the input reads as it did. -/
def coprimeTurnsSpec : ChangeSpec := { name := "coprimeTurns", fn := fun _ => fun
  | [d1, d2, d3, d4] => { results := [.lit (.bool true)], args := [d1, d2, d3, d4] }
  | _ => none }
def coprimeTurnsRow : OpenClaim := { program := "ytpjfapibjihbbaagreatdoor", sum := "34d48e77d7e32c40b0efc9d791140f4f96f8f2fe76d60838b34bd5032d3b765d", func := "epicycle/epicyclelaw15.CoprimeTurns", spec := "coprimeTurns", inPlace := ["math/bits.Add64"], unfollowed := true, recurses := true, named := ["math/bits.divideError", "math/bits.overflowError", "epicycle/mixed.factors"], plainKeys := false, apart := false, laid := [("epicycle/mixed.factors", laid_epicycle_mixed_factors)] }
def CoprimeTurnsSaid : Prop := coprimeTurnsRow.holds Tryz.pinned (OpenSpec.ofChange coprimeTurnsSpec)

/-- ITS FALSE NEIGHBOUR: 'it returns false'. Refute it at one input. -/
def coprimeTurnsWrong : ChangeSpec := { name := "coprimeTurns", fn := fun _ => fun
  | [d1, d2, d3, d4] => { results := [.lit (.bool false)], args := [d1, d2, d3, d4] }
  | _ => none }
def CoprimeTurnsWrongFalsely : Prop := coprimeTurnsRow.holds Tryz.pinned (OpenSpec.ofChange coprimeTurnsWrong)

/- THE SECOND FORM. 'bulk': how many values and letters a reading holds, each counted each time it is reached (what is shared counts as often as it is met; a slice's spare places count too). A statement '..UptoSaid' is the law's where the arguments, and the package variables that the reading takes, are together of bulk at most 1048576: NARROWER than '..Said'. Prove '..Said' where nothing that the law and all that it calls make is longer than what came in: it says more and counts as full. Else prove '..UptoSaid'. A law counts once. -/
mutual
def uptoBulk {H : Type} : DataW H → Nat
  | .lit (.string bytes) => bytes.length + 1
  | .lit _ => 1
  | .nil => 1
  | .ptr d => uptoBulk d + 1
  | .slice elems spare => uptoBulkAll elems + uptoBulkAll spare + 1
  | .agg parts => uptoBulkAll parts + 1
  | .iface _ d => uptoBulk d + 1
  | .map entries => uptoBulkEntries entries + 1
  | .held _ => 1
def uptoBulkAll {H : Type} : List (DataW H) → Nat
  | [] => 0
  | d :: r => uptoBulk d + uptoBulkAll r
def uptoBulkEntries {H : Type} : List (Lit × DataW H) → Nat
  | [] => 0
  | x :: r => uptoBulkEntry x + uptoBulkEntries r
def uptoBulkEntry {H : Type} : Lit × DataW H → Nat
  | (.string bytes, d) => bytes.length + uptoBulk d + 1
  | (_, d) => uptoBulk d + 1
 end
def uptoSmall : (H : Type) → List (DataW H) → Bool := fun _ ds => decide (uptoBulkAll ds ≤ 1048576)
def OpenSpec.upto (s : _root_.Go.ChangeSpec) : _root_.Go.OpenSpec := { _root_.Go.OpenSpec.ofChange s with cond := some uptoSmall }

/-- 'epicyclelaw15.CoprimeIs', WHERE WHAT IT READS IS OF BULK AT MOST 1048576: true; the input reads as it did. -/
def coprimeIsUptoRow : OpenClaim := { program := "ytpjfapibjihbbaagreatdoor", sum := "34d48e77d7e32c40b0efc9d791140f4f96f8f2fe76d60838b34bd5032d3b765d", func := "epicycle/epicyclelaw15.CoprimeIs", spec := "coprimeIs", inPlace := ["math/bits.Add64"], unfollowed := true, recurses := true, named := ["math/bits.divideError", "math/bits.overflowError", "epicycle/mixed.factors"], plainKeys := false, apart := false, laid := [("epicycle/mixed.factors", laid_epicycle_mixed_factors)], narrowed := true }
def CoprimeIsUptoSaid : Prop := coprimeIsUptoRow.holds Tryz.pinned (OpenSpec.upto coprimeIsSpec)

/-- 'epicyclelaw15.CoprimeTurns', WHERE WHAT IT READS IS OF BULK AT MOST 1048576: true; the input reads as it did. -/
def coprimeTurnsUptoRow : OpenClaim := { program := "ytpjfapibjihbbaagreatdoor", sum := "34d48e77d7e32c40b0efc9d791140f4f96f8f2fe76d60838b34bd5032d3b765d", func := "epicycle/epicyclelaw15.CoprimeTurns", spec := "coprimeTurns", inPlace := ["math/bits.Add64"], unfollowed := true, recurses := true, named := ["math/bits.divideError", "math/bits.overflowError", "epicycle/mixed.factors"], plainKeys := false, apart := false, laid := [("epicycle/mixed.factors", laid_epicycle_mixed_factors)], narrowed := true }
def CoprimeTurnsUptoSaid : Prop := coprimeTurnsUptoRow.holds Tryz.pinned (OpenSpec.upto coprimeTurnsSpec)

end Rows
end Go.Proofs.YtpjfapibjihbbaaGreatDoor

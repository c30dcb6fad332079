/-
  No cell of these rows narrows 'for every input' (looked for: loops, veiled, ifaces, maps, wideKeys, modest, calm, conditions, laid).
  DERIVED. THE GIVEN ROWS OF THIS SEAT. 4 by the template 'for every input the law returns true; each argument reads behind the call as it read before'; 0 by the template 'total and deterministic' (their statements: YtlmhhimcihobiaaGreatTotals.lean).
  GIVEN WITH THE SEED: the statements are not yours to turn. If you find one false, say at which input.
  Laid BY PROGRAM, IN A SANDBOX (cutbox-rows.mjs): the forced cells as the released guide's own fill.sh prints them over the translation 9b94beb2ba7fa2c4… (all of the seat's roots in one cut). By AI agents, Wed Nov 11 2026. No macro, syntax, notation, axiom, sorry.
-/
import Derived.Test.YtlmhhimcihobiaaGreatChecked
import GoSem.Claim
import GoSem.ClaimJoined
import GoSem.ClaimMapViews
import Derived.JoinedTies
import Derived.KernelRfl
namespace Go.Proofs.YtlmhhimcihobiaaGreat
/- THE CELL 'sum', in the pinned program and in every row, IS THE sha256 OF THE DUMP (.gsa) THAT YtlmhhimcihobiaaGreatProg.lean LOADS. Nothing in Lean hashes anything: it is a label: what it is worth is what the hold of that sum in a sandbox is worth. -/
noncomputable def Tryz.pinned : Pinned := { name := "ytlmhhimcihobiaagreat", sum := "9b94beb2ba7fa2c422928fb5312da294d360d08c19b28b1a3fa32834f737b7f4", checked := Tryz.checked }
namespace Rows
def none {H : Type} : Left H := { results := [], args := [] }

/-- 'epicyclelaw10.TwiddleTables': WHATEVER THE INPUT: true; the input reads as it did. -/
def twiddleTablesSpec : ChangeSpec := { name := "twiddleTables", fn := fun _ => fun
  | [d1, d2, d3] => { results := [.lit (.bool true)], args := [d1, d2, d3] }
  | _ => none }
def twiddleTablesRow : OpenClaim := { program := "ytlmhhimcihobiaagreat", sum := "9b94beb2ba7fa2c422928fb5312da294d360d08c19b28b1a3fa32834f737b7f4", func := "epicycle/epicyclelaw10.TwiddleTables", spec := "twiddleTables", inPlace := ["math/bits.Add64"], unfollowed := true, recurses := true, named := ["math/bits.divideError", "math/bits.overflowError"], apart := false }
def TwiddleTablesSaid : Prop := twiddleTablesRow.holds Tryz.pinned (OpenSpec.ofChange twiddleTablesSpec)

/-- ITS FALSE NEIGHBOUR: 'it returns false'. Refute it at one input. -/
def twiddleTablesWrong : ChangeSpec := { name := "twiddleTables", fn := fun _ => fun
  | [d1, d2, d3] => { results := [.lit (.bool false)], args := [d1, d2, d3] }
  | _ => none }
def TwiddleTablesWrongFalsely : Prop := twiddleTablesRow.holds Tryz.pinned (OpenSpec.ofChange twiddleTablesWrong)

/-- 'epicyclelaw10.TwiddleVerifies': WHATEVER THE INPUT: true; the input reads as it did. -/
def twiddleVerifiesSpec : ChangeSpec := { name := "twiddleVerifies", fn := fun _ => fun
  | [d1, d2] => { results := [.lit (.bool true)], args := [d1, d2] }
  | _ => none }
def twiddleVerifiesRow : OpenClaim := { program := "ytlmhhimcihobiaagreat", sum := "9b94beb2ba7fa2c422928fb5312da294d360d08c19b28b1a3fa32834f737b7f4", func := "epicycle/epicyclelaw10.TwiddleVerifies", spec := "twiddleVerifies", inPlace := ["math/bits.Add64"], unfollowed := true, recurses := true, named := ["math/bits.divideError", "math/bits.overflowError"], apart := false }
def TwiddleVerifiesSaid : Prop := twiddleVerifiesRow.holds Tryz.pinned (OpenSpec.ofChange twiddleVerifiesSpec)

/-- ITS FALSE NEIGHBOUR: 'it returns false'. Refute it at one input. -/
def twiddleVerifiesWrong : ChangeSpec := { name := "twiddleVerifies", fn := fun _ => fun
  | [d1, d2] => { results := [.lit (.bool false)], args := [d1, d2] }
  | _ => none }
def TwiddleVerifiesWrongFalsely : Prop := twiddleVerifiesRow.holds Tryz.pinned (OpenSpec.ofChange twiddleVerifiesWrong)

/-- 'epicyclelaw10.TwiddleCertified': WHATEVER THE INPUT: true; the input reads as it did. -/
def twiddleCertifiedSpec : ChangeSpec := { name := "twiddleCertified", fn := fun _ => fun
  | [d1, d2, d3, d4] => { results := [.lit (.bool true)], args := [d1, d2, d3, d4] }
  | _ => none }
def twiddleCertifiedRow : OpenClaim := { program := "ytlmhhimcihobiaagreat", sum := "9b94beb2ba7fa2c422928fb5312da294d360d08c19b28b1a3fa32834f737b7f4", func := "epicycle/epicyclelaw10.TwiddleCertified", spec := "twiddleCertified", inPlace := ["math/bits.Add64"], unfollowed := true, recurses := true, named := ["math/bits.divideError", "math/bits.overflowError"], apart := false }
def TwiddleCertifiedSaid : Prop := twiddleCertifiedRow.holds Tryz.pinned (OpenSpec.ofChange twiddleCertifiedSpec)

/-- ITS FALSE NEIGHBOUR: 'it returns false'. Refute it at one input. -/
def twiddleCertifiedWrong : ChangeSpec := { name := "twiddleCertified", fn := fun _ => fun
  | [d1, d2, d3, d4] => { results := [.lit (.bool false)], args := [d1, d2, d3, d4] }
  | _ => none }
def TwiddleCertifiedWrongFalsely : Prop := twiddleCertifiedRow.holds Tryz.pinned (OpenSpec.ofChange twiddleCertifiedWrong)

/-- 'epicyclelaw10.TwiddleHalves': WHATEVER THE INPUT: true; the input reads as it did. -/
def twiddleHalvesSpec : ChangeSpec := { name := "twiddleHalves", fn := fun _ => fun
  | [d1, d2] => { results := [.lit (.bool true)], args := [d1, d2] }
  | _ => none }
def twiddleHalvesRow : OpenClaim := { program := "ytlmhhimcihobiaagreat", sum := "9b94beb2ba7fa2c422928fb5312da294d360d08c19b28b1a3fa32834f737b7f4", func := "epicycle/epicyclelaw10.TwiddleHalves", spec := "twiddleHalves", inPlace := ["math/bits.Add64"], unfollowed := true, recurses := true, named := ["math/bits.divideError", "math/bits.overflowError"], apart := false }
def TwiddleHalvesSaid : Prop := twiddleHalvesRow.holds Tryz.pinned (OpenSpec.ofChange twiddleHalvesSpec)

/-- ITS FALSE NEIGHBOUR: 'it returns false'. Refute it at one input. -/
def twiddleHalvesWrong : ChangeSpec := { name := "twiddleHalves", fn := fun _ => fun
  | [d1, d2] => { results := [.lit (.bool false)], args := [d1, d2] }
  | _ => none }
def TwiddleHalvesWrongFalsely : Prop := twiddleHalvesRow.holds Tryz.pinned (OpenSpec.ofChange twiddleHalvesWrong)

/- THE SECOND FORM. 'bulk': how many values and letters a reading holds, each counted each time it is reached (what is shared counts as often as it is met; a slice's spare places count too). A statement '..UptoSaid' is the law's where the arguments, and the package variables that the reading takes, are together of bulk at most 1048576: NARROWER than '..Said'. Prove '..Said' where nothing that the law and all that it calls make is longer than what came in: it says more and counts as full. Else prove '..UptoSaid'. A law counts once. -/
mutual
def uptoBulk {H : Type} : DataW H → Nat
  | .lit (.string bytes) => bytes.length + 1
  | .lit _ => 1
  | .nil => 1
  | .ptr d => uptoBulk d + 1
  | .slice elems spare => uptoBulkAll elems + uptoBulkAll spare + 1
  | .agg parts => uptoBulkAll parts + 1
  | .iface _ d => uptoBulk d + 1
  | .map entries => uptoBulkEntries entries + 1
  | .held _ => 1
def uptoBulkAll {H : Type} : List (DataW H) → Nat
  | [] => 0
  | d :: r => uptoBulk d + uptoBulkAll r
def uptoBulkEntries {H : Type} : List (Lit × DataW H) → Nat
  | [] => 0
  | x :: r => uptoBulkEntry x + uptoBulkEntries r
def uptoBulkEntry {H : Type} : Lit × DataW H → Nat
  | (.string bytes, d) => bytes.length + uptoBulk d + 1
  | (_, d) => uptoBulk d + 1
 end
def uptoSmall : (H : Type) → List (DataW H) → Bool := fun _ ds => decide (uptoBulkAll ds ≤ 1048576)
def OpenSpec.upto (s : _root_.Go.ChangeSpec) : _root_.Go.OpenSpec := { _root_.Go.OpenSpec.ofChange s with cond := some uptoSmall }

/-- 'epicyclelaw10.TwiddleTables', WHERE WHAT IT READS IS OF BULK AT MOST 1048576: true; the input reads as it did. -/
def twiddleTablesUptoRow : OpenClaim := { program := "ytlmhhimcihobiaagreat", sum := "9b94beb2ba7fa2c422928fb5312da294d360d08c19b28b1a3fa32834f737b7f4", func := "epicycle/epicyclelaw10.TwiddleTables", spec := "twiddleTables", inPlace := ["math/bits.Add64"], unfollowed := true, recurses := true, named := ["math/bits.divideError", "math/bits.overflowError"], apart := false, narrowed := true }
def TwiddleTablesUptoSaid : Prop := twiddleTablesUptoRow.holds Tryz.pinned (OpenSpec.upto twiddleTablesSpec)

/-- 'epicyclelaw10.TwiddleVerifies', WHERE WHAT IT READS IS OF BULK AT MOST 1048576: true; the input reads as it did. -/
def twiddleVerifiesUptoRow : OpenClaim := { program := "ytlmhhimcihobiaagreat", sum := "9b94beb2ba7fa2c422928fb5312da294d360d08c19b28b1a3fa32834f737b7f4", func := "epicycle/epicyclelaw10.TwiddleVerifies", spec := "twiddleVerifies", inPlace := ["math/bits.Add64"], unfollowed := true, recurses := true, named := ["math/bits.divideError", "math/bits.overflowError"], apart := false, narrowed := true }
def TwiddleVerifiesUptoSaid : Prop := twiddleVerifiesUptoRow.holds Tryz.pinned (OpenSpec.upto twiddleVerifiesSpec)

/-- 'epicyclelaw10.TwiddleCertified', WHERE WHAT IT READS IS OF BULK AT MOST 1048576: true; the input reads as it did. -/
def twiddleCertifiedUptoRow : OpenClaim := { program := "ytlmhhimcihobiaagreat", sum := "9b94beb2ba7fa2c422928fb5312da294d360d08c19b28b1a3fa32834f737b7f4", func := "epicycle/epicyclelaw10.TwiddleCertified", spec := "twiddleCertified", inPlace := ["math/bits.Add64"], unfollowed := true, recurses := true, named := ["math/bits.divideError", "math/bits.overflowError"], apart := false, narrowed := true }
def TwiddleCertifiedUptoSaid : Prop := twiddleCertifiedUptoRow.holds Tryz.pinned (OpenSpec.upto twiddleCertifiedSpec)

/-- 'epicyclelaw10.TwiddleHalves', WHERE WHAT IT READS IS OF BULK AT MOST 1048576: true; the input reads as it did. -/
def twiddleHalvesUptoRow : OpenClaim := { program := "ytlmhhimcihobiaagreat", sum := "9b94beb2ba7fa2c422928fb5312da294d360d08c19b28b1a3fa32834f737b7f4", func := "epicycle/epicyclelaw10.TwiddleHalves", spec := "twiddleHalves", inPlace := ["math/bits.Add64"], unfollowed := true, recurses := true, named := ["math/bits.divideError", "math/bits.overflowError"], apart := false, narrowed := true }
def TwiddleHalvesUptoSaid : Prop := twiddleHalvesUptoRow.holds Tryz.pinned (OpenSpec.upto twiddleHalvesSpec)

end Rows
end Go.Proofs.YtlmhhimcihobiaaGreat

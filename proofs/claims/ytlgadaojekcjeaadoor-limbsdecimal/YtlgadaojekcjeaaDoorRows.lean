/-
  NARROWER THAN 'FOR EVERY INPUT', by the rows' own cells (each row's printed sentence says how): LimbsAdds: laid · LimbsScales: laid · LimbsMoves: laid · LimbsRing: laid · LimbsSigned: laid · LimbsDecimal: laid · LimbsSpreads: laid.
  DERIVED. THE GIVEN ROWS OF THIS SEAT. 7 by the template 'for every input the law returns true; each argument reads behind the call as it read before'; 0 by the template 'total and deterministic' (their statements: YtlgadaojekcjeaaDoorTotals.lean).
  GIVEN WITH THE SEED: the statements are not yours to turn. If you find one false, say at which input.
  Laid BY PROGRAM, IN A SANDBOX (cutbox-rows.mjs): the forced cells as the released guide's own fill.sh prints them over the translation da885e9994bd6c7f… (all of the seat's roots in one cut). By AI agents, Wed Nov 11 2026. No macro, syntax, notation, axiom, sorry.
-/
import Derived.Test.YtlgadaojekcjeaaDoorChecked
import GoSem.Claim
import GoSem.ClaimJoined
import GoSem.ClaimMapViews
import Derived.JoinedTies
import Derived.KernelRfl
namespace Go.Proofs.YtlgadaojekcjeaaDoor
/- THE CELL 'sum', in the pinned program and in every row, IS THE sha256 OF THE DUMP (.gsa) THAT YtlgadaojekcjeaaDoorProg.lean LOADS. Nothing in Lean hashes anything: it is a label: what it is worth is what the hold of that sum in a sandbox is worth. -/
noncomputable def Tryd.pinned : Pinned := { name := "ytlgadaojekcjeaadoor", sum := "da885e9994bd6c7fe79dd4ec804072c2bcaa0248cc5fe64df5aea317d2b0b2c5", checked := Tryd.checked }
namespace Rows
def none {H : Type} : Left H := { results := [], args := [] }

/- WHAT THE LISTED PACKAGE-LEVEL VARIABLES READ AS WHEN THE CALL BEGINS. Each datum BY PROGRAM (the guide's laid-datum.mjs) off the statement by which the dump's own 'gosem.cut.vars' lays the variable. In a bare row this is a premise. The card (YtlgadaojekcjeaaDoorCards.lean) ties it to the program's text. -/
def laid_math_bits_deBruijn32tab {H : Type} : DataW H := .agg [.lit (.int .u8 0), .lit (.int .u8 1), .lit (.int .u8 28), .lit (.int .u8 2), .lit (.int .u8 29), .lit (.int .u8 14), .lit (.int .u8 24), .lit (.int .u8 3), .lit (.int .u8 30), .lit (.int .u8 22), .lit (.int .u8 20), .lit (.int .u8 15), .lit (.int .u8 25), .lit (.int .u8 17), .lit (.int .u8 4), .lit (.int .u8 8), .lit (.int .u8 31), .lit (.int .u8 27), .lit (.int .u8 13), .lit (.int .u8 23), .lit (.int .u8 21), .lit (.int .u8 19), .lit (.int .u8 16), .lit (.int .u8 7), .lit (.int .u8 26), .lit (.int .u8 12), .lit (.int .u8 18), .lit (.int .u8 6), .lit (.int .u8 11), .lit (.int .u8 5), .lit (.int .u8 10), .lit (.int .u8 9)]
def laid_math_bits_deBruijn64tab {H : Type} : DataW H := .agg [.lit (.int .u8 0), .lit (.int .u8 1), .lit (.int .u8 56), .lit (.int .u8 2), .lit (.int .u8 57), .lit (.int .u8 49), .lit (.int .u8 28), .lit (.int .u8 3), .lit (.int .u8 61), .lit (.int .u8 58), .lit (.int .u8 42), .lit (.int .u8 50), .lit (.int .u8 38), .lit (.int .u8 29), .lit (.int .u8 17), .lit (.int .u8 4), .lit (.int .u8 62), .lit (.int .u8 47), .lit (.int .u8 59), .lit (.int .u8 36), .lit (.int .u8 45), .lit (.int .u8 43), .lit (.int .u8 51), .lit (.int .u8 22), .lit (.int .u8 53), .lit (.int .u8 39), .lit (.int .u8 33), .lit (.int .u8 30), .lit (.int .u8 24), .lit (.int .u8 18), .lit (.int .u8 12), .lit (.int .u8 5), .lit (.int .u8 63), .lit (.int .u8 55), .lit (.int .u8 48), .lit (.int .u8 27), .lit (.int .u8 60), .lit (.int .u8 41), .lit (.int .u8 37), .lit (.int .u8 16), .lit (.int .u8 46), .lit (.int .u8 35), .lit (.int .u8 44), .lit (.int .u8 21), .lit (.int .u8 52), .lit (.int .u8 32), .lit (.int .u8 23), .lit (.int .u8 11), .lit (.int .u8 54), .lit (.int .u8 26), .lit (.int .u8 40), .lit (.int .u8 15), .lit (.int .u8 34), .lit (.int .u8 20), .lit (.int .u8 31), .lit (.int .u8 10), .lit (.int .u8 25), .lit (.int .u8 14), .lit (.int .u8 19), .lit (.int .u8 9), .lit (.int .u8 13), .lit (.int .u8 8), .lit (.int .u8 7), .lit (.int .u8 6)]
def laid_internal_strconv_uint64pow10 {H : Type} : DataW H := .agg [.lit (.int .u64 1), .lit (.int .u64 10), .lit (.int .u64 100), .lit (.int .u64 1000), .lit (.int .u64 10000), .lit (.int .u64 100000), .lit (.int .u64 1000000), .lit (.int .u64 10000000), .lit (.int .u64 100000000), .lit (.int .u64 1000000000), .lit (.int .u64 10000000000), .lit (.int .u64 100000000000), .lit (.int .u64 1000000000000), .lit (.int .u64 10000000000000), .lit (.int .u64 100000000000000), .lit (.int .u64 1000000000000000), .lit (.int .u64 10000000000000000), .lit (.int .u64 100000000000000000), .lit (.int .u64 1000000000000000000), .lit (.int .u64 10000000000000000000)]

/-- 'epicyclelaw01.LimbsAdds': WHATEVER THE INPUT: true; the input reads as it did. -/
def limbsAddsSpec : ChangeSpec := { name := "limbsAdds", fn := fun _ => fun
  | [d1, d2] => { results := [.lit (.bool true)], args := [d1, d2] }
  | _ => none }
def limbsAddsRow : OpenClaim := { program := "ytlgadaojekcjeaadoor", sum := "da885e9994bd6c7fe79dd4ec804072c2bcaa0248cc5fe64df5aea317d2b0b2c5", func := "epicycle/epicyclelaw01.LimbsAdds", spec := "limbsAdds", inPlace := ["math/bits.Sub64", "internal/abi.NoEscape", "internal/bytealg.MakeNoZero", "math/bits.Add64"], named := ["math/bits.divideError", "math/bits.overflowError", "internal/strconv.uint64pow10", "math/bits.deBruijn32tab", "math/bits.deBruijn64tab"], apart := false, laid := [("math/bits.deBruijn32tab", laid_math_bits_deBruijn32tab), ("math/bits.deBruijn64tab", laid_math_bits_deBruijn64tab), ("internal/strconv.uint64pow10", laid_internal_strconv_uint64pow10)] }
def LimbsAddsSaid : Prop := limbsAddsRow.holds Tryd.pinned (OpenSpec.ofChange limbsAddsSpec)

/-- ITS FALSE NEIGHBOUR: 'it returns false'. Refute it at one input. -/
def limbsAddsWrong : ChangeSpec := { name := "limbsAdds", fn := fun _ => fun
  | [d1, d2] => { results := [.lit (.bool false)], args := [d1, d2] }
  | _ => none }
def LimbsAddsWrongFalsely : Prop := limbsAddsRow.holds Tryd.pinned (OpenSpec.ofChange limbsAddsWrong)

/-- 'epicyclelaw01.LimbsScales': WHATEVER THE INPUT: true; the input reads as it did. -/
def limbsScalesSpec : ChangeSpec := { name := "limbsScales", fn := fun _ => fun
  | [d1, d2, d3] => { results := [.lit (.bool true)], args := [d1, d2, d3] }
  | _ => none }
def limbsScalesRow : OpenClaim := { program := "ytlgadaojekcjeaadoor", sum := "da885e9994bd6c7fe79dd4ec804072c2bcaa0248cc5fe64df5aea317d2b0b2c5", func := "epicycle/epicyclelaw01.LimbsScales", spec := "limbsScales", inPlace := ["math/bits.Sub64", "internal/abi.NoEscape", "internal/bytealg.MakeNoZero", "math/bits.Add64"], named := ["math/bits.divideError", "math/bits.overflowError", "internal/strconv.uint64pow10", "math/bits.deBruijn32tab", "math/bits.deBruijn64tab"], apart := false, laid := [("math/bits.deBruijn32tab", laid_math_bits_deBruijn32tab), ("math/bits.deBruijn64tab", laid_math_bits_deBruijn64tab), ("internal/strconv.uint64pow10", laid_internal_strconv_uint64pow10)] }
def LimbsScalesSaid : Prop := limbsScalesRow.holds Tryd.pinned (OpenSpec.ofChange limbsScalesSpec)

/-- ITS FALSE NEIGHBOUR: 'it returns false'. Refute it at one input. -/
def limbsScalesWrong : ChangeSpec := { name := "limbsScales", fn := fun _ => fun
  | [d1, d2, d3] => { results := [.lit (.bool false)], args := [d1, d2, d3] }
  | _ => none }
def LimbsScalesWrongFalsely : Prop := limbsScalesRow.holds Tryd.pinned (OpenSpec.ofChange limbsScalesWrong)

/-- 'epicyclelaw01.LimbsMoves': WHATEVER THE INPUT: true; the input reads as it did. -/
def limbsMovesSpec : ChangeSpec := { name := "limbsMoves", fn := fun _ => fun
  | [d1, d2] => { results := [.lit (.bool true)], args := [d1, d2] }
  | _ => none }
def limbsMovesRow : OpenClaim := { program := "ytlgadaojekcjeaadoor", sum := "da885e9994bd6c7fe79dd4ec804072c2bcaa0248cc5fe64df5aea317d2b0b2c5", func := "epicycle/epicyclelaw01.LimbsMoves", spec := "limbsMoves", inPlace := ["math/bits.Sub64", "internal/abi.NoEscape", "internal/bytealg.MakeNoZero"], named := ["math/bits.divideError", "math/bits.overflowError", "internal/strconv.uint64pow10", "math/bits.deBruijn32tab", "math/bits.deBruijn64tab"], apart := false, laid := [("math/bits.deBruijn32tab", laid_math_bits_deBruijn32tab), ("math/bits.deBruijn64tab", laid_math_bits_deBruijn64tab), ("internal/strconv.uint64pow10", laid_internal_strconv_uint64pow10)] }
def LimbsMovesSaid : Prop := limbsMovesRow.holds Tryd.pinned (OpenSpec.ofChange limbsMovesSpec)

/-- ITS FALSE NEIGHBOUR: 'it returns false'. Refute it at one input. -/
def limbsMovesWrong : ChangeSpec := { name := "limbsMoves", fn := fun _ => fun
  | [d1, d2] => { results := [.lit (.bool false)], args := [d1, d2] }
  | _ => none }
def LimbsMovesWrongFalsely : Prop := limbsMovesRow.holds Tryd.pinned (OpenSpec.ofChange limbsMovesWrong)

/-- 'epicyclelaw01.LimbsRing': WHATEVER THE INPUT: true; the input reads as it did. -/
def limbsRingSpec : ChangeSpec := { name := "limbsRing", fn := fun _ => fun
  | [d1, d2, d3] => { results := [.lit (.bool true)], args := [d1, d2, d3] }
  | _ => none }
def limbsRingRow : OpenClaim := { program := "ytlgadaojekcjeaadoor", sum := "da885e9994bd6c7fe79dd4ec804072c2bcaa0248cc5fe64df5aea317d2b0b2c5", func := "epicycle/epicyclelaw01.LimbsRing", spec := "limbsRing", inPlace := ["math/bits.Sub64", "internal/abi.NoEscape", "internal/bytealg.MakeNoZero", "math/bits.Add64"], named := ["math/bits.divideError", "math/bits.overflowError", "internal/strconv.uint64pow10", "math/bits.deBruijn32tab", "math/bits.deBruijn64tab"], apart := false, laid := [("math/bits.deBruijn32tab", laid_math_bits_deBruijn32tab), ("math/bits.deBruijn64tab", laid_math_bits_deBruijn64tab), ("internal/strconv.uint64pow10", laid_internal_strconv_uint64pow10)] }
def LimbsRingSaid : Prop := limbsRingRow.holds Tryd.pinned (OpenSpec.ofChange limbsRingSpec)

/-- ITS FALSE NEIGHBOUR: 'it returns false'. Refute it at one input. -/
def limbsRingWrong : ChangeSpec := { name := "limbsRing", fn := fun _ => fun
  | [d1, d2, d3] => { results := [.lit (.bool false)], args := [d1, d2, d3] }
  | _ => none }
def LimbsRingWrongFalsely : Prop := limbsRingRow.holds Tryd.pinned (OpenSpec.ofChange limbsRingWrong)

/-- 'epicyclelaw01.LimbsSigned': WHATEVER THE INPUT: true; the input reads as it did. -/
def limbsSignedSpec : ChangeSpec := { name := "limbsSigned", fn := fun _ => fun
  | [d1, d2, d3] => { results := [.lit (.bool true)], args := [d1, d2, d3] }
  | _ => none }
def limbsSignedRow : OpenClaim := { program := "ytlgadaojekcjeaadoor", sum := "da885e9994bd6c7fe79dd4ec804072c2bcaa0248cc5fe64df5aea317d2b0b2c5", func := "epicycle/epicyclelaw01.LimbsSigned", spec := "limbsSigned", inPlace := ["math/bits.Sub64", "internal/abi.NoEscape", "internal/bytealg.MakeNoZero", "math/bits.Add64"], named := ["math/bits.divideError", "math/bits.overflowError", "internal/strconv.uint64pow10", "math/bits.deBruijn32tab", "math/bits.deBruijn64tab"], apart := false, laid := [("math/bits.deBruijn32tab", laid_math_bits_deBruijn32tab), ("math/bits.deBruijn64tab", laid_math_bits_deBruijn64tab), ("internal/strconv.uint64pow10", laid_internal_strconv_uint64pow10)] }
def LimbsSignedSaid : Prop := limbsSignedRow.holds Tryd.pinned (OpenSpec.ofChange limbsSignedSpec)

/-- ITS FALSE NEIGHBOUR: 'it returns false'. Refute it at one input. -/
def limbsSignedWrong : ChangeSpec := { name := "limbsSigned", fn := fun _ => fun
  | [d1, d2, d3] => { results := [.lit (.bool false)], args := [d1, d2, d3] }
  | _ => none }
def LimbsSignedWrongFalsely : Prop := limbsSignedRow.holds Tryd.pinned (OpenSpec.ofChange limbsSignedWrong)

/-- 'epicyclelaw01.LimbsDecimal': WHATEVER THE INPUT: true; the input reads as it did. -/
def limbsDecimalSpec : ChangeSpec := { name := "limbsDecimal", fn := fun _ => fun
  | [d] => { results := [.lit (.bool true)], args := [d] }
  | _ => none }
def limbsDecimalRow : OpenClaim := { program := "ytlgadaojekcjeaadoor", sum := "da885e9994bd6c7fe79dd4ec804072c2bcaa0248cc5fe64df5aea317d2b0b2c5", func := "epicycle/epicyclelaw01.LimbsDecimal", spec := "limbsDecimal", inPlace := ["math/bits.Sub64", "internal/abi.NoEscape", "internal/bytealg.MakeNoZero"], named := ["math/bits.divideError", "math/bits.overflowError", "internal/strconv.uint64pow10", "math/bits.deBruijn32tab", "math/bits.deBruijn64tab"], apart := false, laid := [("math/bits.deBruijn32tab", laid_math_bits_deBruijn32tab), ("math/bits.deBruijn64tab", laid_math_bits_deBruijn64tab), ("internal/strconv.uint64pow10", laid_internal_strconv_uint64pow10)] }
def LimbsDecimalSaid : Prop := limbsDecimalRow.holds Tryd.pinned (OpenSpec.ofChange limbsDecimalSpec)

/-- ITS FALSE NEIGHBOUR: 'it returns false'. Refute it at one input. -/
def limbsDecimalWrong : ChangeSpec := { name := "limbsDecimal", fn := fun _ => fun
  | [d] => { results := [.lit (.bool false)], args := [d] }
  | _ => none }
def LimbsDecimalWrongFalsely : Prop := limbsDecimalRow.holds Tryd.pinned (OpenSpec.ofChange limbsDecimalWrong)

/-- 'epicyclelaw01.LimbsSpreads': WHATEVER THE INPUT: true; the input reads as it did. -/
def limbsSpreadsSpec : ChangeSpec := { name := "limbsSpreads", fn := fun _ => fun
  | [d1, d2, d3] => { results := [.lit (.bool true)], args := [d1, d2, d3] }
  | _ => none }
def limbsSpreadsRow : OpenClaim := { program := "ytlgadaojekcjeaadoor", sum := "da885e9994bd6c7fe79dd4ec804072c2bcaa0248cc5fe64df5aea317d2b0b2c5", func := "epicycle/epicyclelaw01.LimbsSpreads", spec := "limbsSpreads", inPlace := ["math/bits.Sub64", "internal/abi.NoEscape", "internal/bytealg.MakeNoZero", "math/bits.Add64"], named := ["math/bits.divideError", "math/bits.overflowError", "internal/strconv.uint64pow10", "math/bits.deBruijn32tab", "math/bits.deBruijn64tab"], apart := false, laid := [("math/bits.deBruijn32tab", laid_math_bits_deBruijn32tab), ("math/bits.deBruijn64tab", laid_math_bits_deBruijn64tab), ("internal/strconv.uint64pow10", laid_internal_strconv_uint64pow10)] }
def LimbsSpreadsSaid : Prop := limbsSpreadsRow.holds Tryd.pinned (OpenSpec.ofChange limbsSpreadsSpec)

/-- ITS FALSE NEIGHBOUR: 'it returns false'. Refute it at one input. -/
def limbsSpreadsWrong : ChangeSpec := { name := "limbsSpreads", fn := fun _ => fun
  | [d1, d2, d3] => { results := [.lit (.bool false)], args := [d1, d2, d3] }
  | _ => none }
def LimbsSpreadsWrongFalsely : Prop := limbsSpreadsRow.holds Tryd.pinned (OpenSpec.ofChange limbsSpreadsWrong)

/- THE SECOND FORM. 'bulk': how many values and letters a reading holds, each counted each time it is reached (what is shared counts as often as it is met; a slice's spare places count too). A statement '..UptoSaid' is the law's where the arguments, and the package variables that the reading takes, are together of bulk at most 1048576: NARROWER than '..Said'. Prove '..Said' where nothing that the law and all that it calls make is longer than what came in: it says more and counts as full. Else prove '..UptoSaid'. A law counts once. -/
mutual
def uptoBulk {H : Type} : DataW H → Nat
  | .lit (.string bytes) => bytes.length + 1
  | .lit _ => 1
  | .nil => 1
  | .ptr d => uptoBulk d + 1
  | .slice elems spare => uptoBulkAll elems + uptoBulkAll spare + 1
  | .agg parts => uptoBulkAll parts + 1
  | .iface _ d => uptoBulk d + 1
  | .map entries => uptoBulkEntries entries + 1
  | .held _ => 1
def uptoBulkAll {H : Type} : List (DataW H) → Nat
  | [] => 0
  | d :: r => uptoBulk d + uptoBulkAll r
def uptoBulkEntries {H : Type} : List (Lit × DataW H) → Nat
  | [] => 0
  | x :: r => uptoBulkEntry x + uptoBulkEntries r
def uptoBulkEntry {H : Type} : Lit × DataW H → Nat
  | (.string bytes, d) => bytes.length + uptoBulk d + 1
  | (_, d) => uptoBulk d + 1
 end
def uptoSmall : (H : Type) → List (DataW H) → Bool := fun _ ds => decide (uptoBulkAll ds ≤ 1048576)
def OpenSpec.upto (s : _root_.Go.ChangeSpec) : _root_.Go.OpenSpec := { _root_.Go.OpenSpec.ofChange s with cond := some uptoSmall }

/-- 'epicyclelaw01.LimbsAdds', WHERE WHAT IT READS IS OF BULK AT MOST 1048576: true; the input reads as it did. -/
def limbsAddsUptoRow : OpenClaim := { program := "ytlgadaojekcjeaadoor", sum := "da885e9994bd6c7fe79dd4ec804072c2bcaa0248cc5fe64df5aea317d2b0b2c5", func := "epicycle/epicyclelaw01.LimbsAdds", spec := "limbsAdds", inPlace := ["math/bits.Sub64", "internal/abi.NoEscape", "internal/bytealg.MakeNoZero", "math/bits.Add64"], named := ["math/bits.divideError", "math/bits.overflowError", "internal/strconv.uint64pow10", "math/bits.deBruijn32tab", "math/bits.deBruijn64tab"], apart := false, laid := [("math/bits.deBruijn32tab", laid_math_bits_deBruijn32tab), ("math/bits.deBruijn64tab", laid_math_bits_deBruijn64tab), ("internal/strconv.uint64pow10", laid_internal_strconv_uint64pow10)], narrowed := true }
def LimbsAddsUptoSaid : Prop := limbsAddsUptoRow.holds Tryd.pinned (OpenSpec.upto limbsAddsSpec)

/-- 'epicyclelaw01.LimbsScales', WHERE WHAT IT READS IS OF BULK AT MOST 1048576: true; the input reads as it did. -/
def limbsScalesUptoRow : OpenClaim := { program := "ytlgadaojekcjeaadoor", sum := "da885e9994bd6c7fe79dd4ec804072c2bcaa0248cc5fe64df5aea317d2b0b2c5", func := "epicycle/epicyclelaw01.LimbsScales", spec := "limbsScales", inPlace := ["math/bits.Sub64", "internal/abi.NoEscape", "internal/bytealg.MakeNoZero", "math/bits.Add64"], named := ["math/bits.divideError", "math/bits.overflowError", "internal/strconv.uint64pow10", "math/bits.deBruijn32tab", "math/bits.deBruijn64tab"], apart := false, laid := [("math/bits.deBruijn32tab", laid_math_bits_deBruijn32tab), ("math/bits.deBruijn64tab", laid_math_bits_deBruijn64tab), ("internal/strconv.uint64pow10", laid_internal_strconv_uint64pow10)], narrowed := true }
def LimbsScalesUptoSaid : Prop := limbsScalesUptoRow.holds Tryd.pinned (OpenSpec.upto limbsScalesSpec)

/-- 'epicyclelaw01.LimbsMoves', WHERE WHAT IT READS IS OF BULK AT MOST 1048576: true; the input reads as it did. -/
def limbsMovesUptoRow : OpenClaim := { program := "ytlgadaojekcjeaadoor", sum := "da885e9994bd6c7fe79dd4ec804072c2bcaa0248cc5fe64df5aea317d2b0b2c5", func := "epicycle/epicyclelaw01.LimbsMoves", spec := "limbsMoves", inPlace := ["math/bits.Sub64", "internal/abi.NoEscape", "internal/bytealg.MakeNoZero"], named := ["math/bits.divideError", "math/bits.overflowError", "internal/strconv.uint64pow10", "math/bits.deBruijn32tab", "math/bits.deBruijn64tab"], apart := false, laid := [("math/bits.deBruijn32tab", laid_math_bits_deBruijn32tab), ("math/bits.deBruijn64tab", laid_math_bits_deBruijn64tab), ("internal/strconv.uint64pow10", laid_internal_strconv_uint64pow10)], narrowed := true }
def LimbsMovesUptoSaid : Prop := limbsMovesUptoRow.holds Tryd.pinned (OpenSpec.upto limbsMovesSpec)

/-- 'epicyclelaw01.LimbsRing', WHERE WHAT IT READS IS OF BULK AT MOST 1048576: true; the input reads as it did. -/
def limbsRingUptoRow : OpenClaim := { program := "ytlgadaojekcjeaadoor", sum := "da885e9994bd6c7fe79dd4ec804072c2bcaa0248cc5fe64df5aea317d2b0b2c5", func := "epicycle/epicyclelaw01.LimbsRing", spec := "limbsRing", inPlace := ["math/bits.Sub64", "internal/abi.NoEscape", "internal/bytealg.MakeNoZero", "math/bits.Add64"], named := ["math/bits.divideError", "math/bits.overflowError", "internal/strconv.uint64pow10", "math/bits.deBruijn32tab", "math/bits.deBruijn64tab"], apart := false, laid := [("math/bits.deBruijn32tab", laid_math_bits_deBruijn32tab), ("math/bits.deBruijn64tab", laid_math_bits_deBruijn64tab), ("internal/strconv.uint64pow10", laid_internal_strconv_uint64pow10)], narrowed := true }
def LimbsRingUptoSaid : Prop := limbsRingUptoRow.holds Tryd.pinned (OpenSpec.upto limbsRingSpec)

/-- 'epicyclelaw01.LimbsSigned', WHERE WHAT IT READS IS OF BULK AT MOST 1048576: true; the input reads as it did. -/
def limbsSignedUptoRow : OpenClaim := { program := "ytlgadaojekcjeaadoor", sum := "da885e9994bd6c7fe79dd4ec804072c2bcaa0248cc5fe64df5aea317d2b0b2c5", func := "epicycle/epicyclelaw01.LimbsSigned", spec := "limbsSigned", inPlace := ["math/bits.Sub64", "internal/abi.NoEscape", "internal/bytealg.MakeNoZero", "math/bits.Add64"], named := ["math/bits.divideError", "math/bits.overflowError", "internal/strconv.uint64pow10", "math/bits.deBruijn32tab", "math/bits.deBruijn64tab"], apart := false, laid := [("math/bits.deBruijn32tab", laid_math_bits_deBruijn32tab), ("math/bits.deBruijn64tab", laid_math_bits_deBruijn64tab), ("internal/strconv.uint64pow10", laid_internal_strconv_uint64pow10)], narrowed := true }
def LimbsSignedUptoSaid : Prop := limbsSignedUptoRow.holds Tryd.pinned (OpenSpec.upto limbsSignedSpec)

/-- 'epicyclelaw01.LimbsDecimal', WHERE WHAT IT READS IS OF BULK AT MOST 1048576: true; the input reads as it did. -/
def limbsDecimalUptoRow : OpenClaim := { program := "ytlgadaojekcjeaadoor", sum := "da885e9994bd6c7fe79dd4ec804072c2bcaa0248cc5fe64df5aea317d2b0b2c5", func := "epicycle/epicyclelaw01.LimbsDecimal", spec := "limbsDecimal", inPlace := ["math/bits.Sub64", "internal/abi.NoEscape", "internal/bytealg.MakeNoZero"], named := ["math/bits.divideError", "math/bits.overflowError", "internal/strconv.uint64pow10", "math/bits.deBruijn32tab", "math/bits.deBruijn64tab"], apart := false, laid := [("math/bits.deBruijn32tab", laid_math_bits_deBruijn32tab), ("math/bits.deBruijn64tab", laid_math_bits_deBruijn64tab), ("internal/strconv.uint64pow10", laid_internal_strconv_uint64pow10)], narrowed := true }
def LimbsDecimalUptoSaid : Prop := limbsDecimalUptoRow.holds Tryd.pinned (OpenSpec.upto limbsDecimalSpec)

/-- 'epicyclelaw01.LimbsSpreads', WHERE WHAT IT READS IS OF BULK AT MOST 1048576: true; the input reads as it did. -/
def limbsSpreadsUptoRow : OpenClaim := { program := "ytlgadaojekcjeaadoor", sum := "da885e9994bd6c7fe79dd4ec804072c2bcaa0248cc5fe64df5aea317d2b0b2c5", func := "epicycle/epicyclelaw01.LimbsSpreads", spec := "limbsSpreads", inPlace := ["math/bits.Sub64", "internal/abi.NoEscape", "internal/bytealg.MakeNoZero", "math/bits.Add64"], named := ["math/bits.divideError", "math/bits.overflowError", "internal/strconv.uint64pow10", "math/bits.deBruijn32tab", "math/bits.deBruijn64tab"], apart := false, laid := [("math/bits.deBruijn32tab", laid_math_bits_deBruijn32tab), ("math/bits.deBruijn64tab", laid_math_bits_deBruijn64tab), ("internal/strconv.uint64pow10", laid_internal_strconv_uint64pow10)], narrowed := true }
def LimbsSpreadsUptoSaid : Prop := limbsSpreadsUptoRow.holds Tryd.pinned (OpenSpec.upto limbsSpreadsSpec)

end Rows
end Go.Proofs.YtlgadaojekcjeaaDoor

/-
  The arguments opened: a row of ints that can be read as data lies there; an index is four ints.
-/
import Derived.Test.YtfiblemandpfeaaSh4
import Derived.Test.YtfiblemandpfeaaChecked
import Derived.Deep.Slices
import Derived.Laws.IdiomArrays
import Derived.SizedLaws
import Derived.OpenShut
import Derived.Carry
namespace Go.Proofs.Ytfiblemandpfeaa
set_option linter.unusedVariables false
open Go.ChangeShapes Go.WideShapes Go.RowKit Go.Deep

theorem cellsIn : Try.prog.cellsOf 3 = 1 := by kernel_rfl
theorem cellsIx : Try.prog.cellsOf 33 = 4 := by kernel_rfl
theorem bytesIn : Try.prog.bytesOf 3 = 8 := by kernel_rfl
theorem laidOut : laidOutB Try.prog = true := by kernel_rfl
theorem own : ownKnob Try.prog.godebug = none := by kernel_rfl
theorem wf_i64 {x : Int} (h : (Lit.int .i64 x).wf = true) : -9223372036854775808 ≤ x ∧ x < 9223372036854775808 := by
  simp [Lit.wf, IntKind.min, IntKind.max, IntKind.signed, IntKind.bits] at h
  exact ⟨by omega, by omega⟩

section
variable {H : Type} {enc : TypeId × Value → H}

set_option maxRecDepth 100000 in
theorem open_row {W : World} {A : Option Addr} {len0 cap0 : Nat} {d : DataW H} {p : List MemPlace} (h : DataW.Trod enc Try.prog W 0 (fun _ => true) true 22 (.slice A len0 cap0) d p) (hsz : ∀ n ∈ d.weights Try.prog 22, n ≤ reachBytes) :
    ∃ zs, len0 = zs.length ∧ ZAt W A cap0 zs ∧ zs.length * 8 ≤ 140737488355328 := by
  obtain ⟨fuel, hf⟩ := h
  rcases open_slice1 Try.underlying22 cellsIn hf with ⟨hc, _⟩ | ⟨a, len, cap, m, k, V, D, Pl, hc, _, hl, hm, hmm, hx, hall⟩
  · simp [Value.cells] at hc
    obtain ⟨rfl, rfl, rfl⟩ := hc
    exact ⟨[], rfl, ⟨by simp, by unfold maxLen; omega, fun i f hf => by simp at hf⟩, by simp⟩
  · simp [Value.cells] at hc
    obtain ⟨rfl, rfl, rfl⟩ := hc
    simp only [if_true] at hmm
    subst hmm
    have e0 : ∀ i, i < m → ∃ z : Int, V i = .int .i64 z ∧ I64 z := fun i hi => by
      obtain ⟨x, h1, _, h3⟩ := DataW.trod_int Try.underlying3 (hall i hi).2
      simp only [List.cons.injEq, and_true] at h1
      exact ⟨x, h1, wf_i64 h3⟩
    obtain ⟨Q, hQ⟩ := choose_lt e0
    have hw := hsz ((len0 + (m - len0)) * 8) (by
      simp only [Prod.mk.injEq] at hx
      rw [hx.1, DataW.weights, Try.underlying22]
      simp [bytesIn])
    refine ⟨(List.range len0).map Q, by simp, ⟨by simpa using hl, hm, fun i z hz => ?_⟩, ?_⟩
    · have hi : i < len0 := by simpa using (List.getElem?_eq_some_iff.1 hz).1
      have hz' : z = Q i := by
        rw [List.getElem?_map, List.getElem?_range hi] at hz
        simpa using hz.symm
      obtain ⟨b, o, spot⟩ := a
      have hspot : spot = none := by simpa [Addr.add] using World.cell?_spot (hall 0 (by omega)).1
      subst hspot
      have c0 := (hall i (by omega)).1
      rw [Addr.add_lit, (hQ i (by omega)).1] at c0
      rw [hz']
      exact ⟨b, o, rfl, block_lt_of_cell (a := ⟨b, o + i, none⟩) c0, c0, (hQ i (by omega)).2⟩
    · have hr : reachBytes = 140737488351232 := rfl
      simp only [List.length_map, List.length_range]
      omega
theorem array4 {cs : Array Value} (h : cs.size = 4) : ∃ a b c d, cs = #[a, b, c, d] := by
  obtain ⟨l⟩ := cs
  match l, h with
  | [a, b, c, d], _ => exact ⟨a, b, c, d, rfl⟩
/-- Four ints by value, opened. -/
theorem open4 {W : World} {r : Reach} {b0 : Nat} {v : Value} {d : DataW H} {p : List MemPlace} (hv : Value.okWide Try.prog W r b0 33 v) (h : DataW.Trod enc Try.prog W 0 (fun _ => true) true 33 v d p) :
    ∃ q : Nat → Int, v = ixV q ∧ d = .agg [.lit (.int .i64 (q 0)), .lit (.int .i64 (q 1)), .lit (.int .i64 (q 2)), .lit (.int .i64 (q 3))] ∧ p = [] ∧ ∀ j, j < 4 → (Lit.int .i64 (q j)).wf = true := by
  simp only [Value.okWide, Try.underlying33] at hv
  obtain ⟨cs, rfl, hsz, _⟩ := hv
  obtain ⟨c0, c1, c2, c3, rfl⟩ := array4 (hsz.trans cellsIx)
  obtain ⟨fuel, hf⟩ := h
  obtain ⟨y0, y1, y2, y3, n, hx, h0, h1, h2, h3⟩ := trod_array4 Try.underlying33 cellsIn (by simpa [Value.cells] using hf)
  obtain ⟨a0, e0, rfl, w0⟩ := DataW.trod_int Try.underlying3 h0
  obtain ⟨a1, e1, rfl, w1⟩ := DataW.trod_int Try.underlying3 h1
  obtain ⟨a2, e2, rfl, w2⟩ := DataW.trod_int Try.underlying3 h2
  obtain ⟨a3, e3, rfl, w3⟩ := DataW.trod_int Try.underlying3 h3
  simp at e0 e1 e2 e3 hx
  subst e0 e1 e2 e3
  refine ⟨fun | 0 => a0 | 1 => a1 | 2 => a2 | _ => a3, rfl, hx.1, hx.2, fun j hj => ?_⟩
  match j, hj with
  | 0, _ => exact w0
  | 1, _ => exact w1
  | 2, _ => exact w2
  | 3, _ => exact w3
/-- .. shut. -/
theorem shut4 {W : World} {base : Nat} {spare : Nat → Bool} {held : Bool} {q : Nat → Int} (h : ∀ j, j < 4 → (Lit.int .i64 (q j)).wf = true) :
    DataW.Trod enc Try.prog W base spare held 33 (ixV q) (.agg [.lit (.int .i64 (q 0)), .lit (.int .i64 (q 1)), .lit (.int .i64 (q 2)), .lit (.int .i64 (q 3))]) [] := by
  refine ⟨2, ?_⟩
  have r4 : List.range 4 = [0, 1, 2, 3] := rfl
  simp [DataW.trod, Value.cells, ixV, Try.underlying33, Try.underlying3, r4, cellsIx, cellsIn, h 0 (by omega), h 1 (by omega), h 2 (by omega), h 3 (by omega)]
end
end Go.Proofs.Ytfiblemandpfeaa

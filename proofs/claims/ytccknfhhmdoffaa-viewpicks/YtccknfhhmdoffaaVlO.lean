/-
  The arguments opened: a view by value, a row of ints, that can be read as data lie there.
-/
import Derived.Test.YtccknfhhmdoffaaVw1
import Derived.Test.YtccknfhhmdoffaaChecked
import Derived.Deep.Slices
import Derived.Deep.Strs
import Derived.Laws.IdiomArrays
import Derived.SizedLaws
import Derived.OpenShut
import Derived.Carry
namespace Go.Proofs.Ytccknfhhmdoffaa
set_option linter.unusedVariables false
open Go.ChangeShapes Go.WideShapes Go.RowKit Go.Deep

theorem cellsIn : Try.prog.cellsOf 3 = 1 := by kernel_rfl
theorem cellsSl : Try.prog.cellsOf 22 = 1 := by kernel_rfl
theorem cellsVw : Try.prog.cellsOf 24 = 3 := by kernel_rfl
theorem laidOut : laidOutB Try.prog = true := by kernel_rfl
theorem own : ownKnob Try.prog.godebug = none := by kernel_rfl
theorem wf_i64 {x : Int} (h : (Lit.int .i64 x).wf = true) : I64 x := by
  simp [Lit.wf, IntKind.min, IntKind.max, IntKind.signed, IntKind.bits] at h
  exact ⟨by omega, by omega⟩
theorem array3 {cs : Array Value} (h : cs.size = 3) : ∃ a b c, cs = #[a, b, c] := by
  obtain ⟨l⟩ := cs
  match l, h with
  | [a, b, c], _ => exact ⟨a, b, c, rfl⟩

section
variable {H : Type} {enc : TypeId × Value → H}

set_option maxRecDepth 100000 in
theorem row_of {W : World} {fuel : Nat} {c : Value} {x : DataW H × List MemPlace} (hf : DataW.trod enc Try.prog W 0 (fun _ => true) true fuel 22 [c] = some x) : ∃ A zs C, c = .slice A zs.length C ∧ ZAt W A C zs := by
  rcases open_slice1 Try.underlying22 cellsIn hf with ⟨hc, _⟩ | ⟨a, len, cap, m, k, V, D, Pl, hc, _, hl, hm, hmm, hx, hall⟩
  · simp only [List.cons.injEq, and_true] at hc
    exact ⟨none, [], 0, hc, ⟨by simp, by unfold maxLen; omega, fun i f hf => by simp at hf⟩⟩
  · simp only [List.cons.injEq, and_true] at hc
    simp only [if_true] at hmm
    subst hmm
    have e0 : ∀ i, i < m → ∃ z : Int, V i = .int .i64 z ∧ I64 z := fun i hi => by
      obtain ⟨x, h1, _, h3⟩ := DataW.trod_int Try.underlying3 (hall i hi).2
      simp only [List.cons.injEq, and_true] at h1
      exact ⟨x, h1, wf_i64 h3⟩
    obtain ⟨Q, hQ⟩ := choose_lt e0
    refine ⟨some a, (List.range len).map Q, m, by rw [hc]; simp, ⟨by simpa using hl, hm, fun i z hz => ?_⟩⟩
    have hi : i < len := by simpa using (List.getElem?_eq_some_iff.1 hz).1
    have hz' : z = Q i := by
      rw [List.getElem?_map, List.getElem?_range hi] at hz
      simpa using hz.symm
    obtain ⟨b, o, spot⟩ := a
    have hspot : spot = none := by simpa [Addr.add] using World.cell?_spot (hall 0 (by omega)).1
    subst hspot
    have c0 := (hall i (by omega)).1
    rw [Addr.add_lit, (hQ i (by omega)).1] at c0
    rw [hz']
    exact ⟨b, o, rfl, block_lt_of_cell (a := ⟨b, o + i, none⟩) c0, c0, (hQ i (by omega)).2⟩
/-- A row of ints, opened. -/
theorem open_row {W : World} {v : Value} {r : Reach} {b0 : Nat} {d : DataW H} {p : List MemPlace} (hv : Value.okWide Try.prog W r b0 22 v) (h : DataW.Trod enc Try.prog W 0 (fun _ => true) true 22 v d p) :
    ∃ A zs C, v = .slice A zs.length C ∧ ZAt W A C zs := by
  obtain ⟨a, len, cap, rfl⟩ := okWide_slice Try.underlying22 hv
  obtain ⟨fuel, hf⟩ := h
  exact row_of (by simpa [Value.cells] using hf)
set_option maxRecDepth 100000 in
/-- A view, opened. -/
theorem open_view {W : World} {v : Value} {r : Reach} {b0 : Nat} {d : DataW H} {p : List MemPlace} (hv : Value.okWide Try.prog W r b0 24 v) (h : DataW.Trod enc Try.prog W 0 (fun _ => true) true 24 v d p) :
    ∃ o A zs C A' ss C', v = vw o A zs.length C A' ss.length C' ∧ ZAt W A C zs ∧ ZAt W A' C' ss ∧ I64 o := by
  obtain ⟨cs, rfl, hsz⟩ := okWide_struct Try.underlying24 hv
  obtain ⟨c0, c1, c2, rfl⟩ := array3 (hsz.trans cellsVw)
  obtain ⟨fuel, hf⟩ := h
  obtain ⟨y0, y1, y2, n, hx, _, h0, h1, h2⟩ := trod_struct3 Try.underlying24 (by simpa [Value.cells] using hf)
  simp [cellsIn, cellsSl] at h0 h1 h2
  obtain ⟨o, e0, _, w0⟩ := DataW.trod_int Try.underlying3 h0
  obtain ⟨A, zs, C, rfl, hD⟩ := row_of h1
  obtain ⟨A', ss, C', rfl, hZ⟩ := row_of h2
  simp only [List.cons.injEq, and_true] at e0
  subst e0
  exact ⟨o, A, zs, C, A', ss, C', rfl, hD, hZ, wf_i64 w0⟩
end
end Go.Proofs.Ytccknfhhmdoffaa

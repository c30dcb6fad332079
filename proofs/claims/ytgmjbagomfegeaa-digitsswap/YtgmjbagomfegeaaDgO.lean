/-
  The arguments opened: a row of ints, or of words, that can be read as data lies there. No condition.
-/
import Derived.Test.YtgmjbagomfegeaaDg6
import Derived.Test.YtgmjbagomfegeaaChecked
import Derived.Deep.Slices
import Derived.Laws.IdiomArrays
import Derived.SizedLaws
import Derived.OpenShut
import Derived.Carry
namespace Go.Proofs.Ytgmjbagomfegeaa
set_option linter.unusedVariables false
open Go.ChangeShapes Go.WideShapes Go.RowKit Go.Deep

theorem cellsIn : Try.prog.cellsOf 3 = 1 := by kernel_rfl
theorem cellsWd : Try.prog.cellsOf 38 = 1 := by kernel_rfl
theorem bytesWd : Try.prog.bytesOf 38 = 8 := by kernel_rfl
theorem bytesIn : Try.prog.bytesOf 3 = 8 := by kernel_rfl
theorem laidOut : laidOutB Try.prog = true := by kernel_rfl
theorem own : ownKnob Try.prog.godebug = none := by kernel_rfl
theorem wf_i64 {x : Int} (h : (Lit.int .i64 x).wf = true) : -9223372036854775808 ≤ x ∧ x < 9223372036854775808 := by
  simp [Lit.wf, IntKind.min, IntKind.max, IntKind.signed, IntKind.bits] at h
  exact ⟨by omega, by omega⟩

section
variable {H : Type} {enc : TypeId × Value → H}

set_option maxRecDepth 100000 in
theorem open_row {W : World} {A : Option Addr} {len0 cap0 : Nat} {d : DataW H} {p : List MemPlace} (h : DataW.Trod enc Try.prog W 0 (fun _ => true) true 22 (.slice A len0 cap0) d p) :
    ∃ zs, len0 = zs.length ∧ ZAt W A cap0 zs := by
  obtain ⟨fuel, hf⟩ := h
  rcases open_slice1 Try.underlying22 cellsIn hf with ⟨hc, _⟩ | ⟨a, len, cap, m, k, V, D, Pl, hc, _, hl, hm, hmm, hx, hall⟩
  · simp [Value.cells] at hc
    obtain ⟨rfl, rfl, rfl⟩ := hc
    exact ⟨[], rfl, ⟨by simp, by unfold maxLen; omega, fun i f hf => by simp at hf⟩⟩
  · simp [Value.cells] at hc
    obtain ⟨rfl, rfl, rfl⟩ := hc
    simp only [if_true] at hmm
    subst hmm
    have e0 : ∀ i, i < m → ∃ z : Int, V i = .int .i64 z ∧ I64 z := fun i hi => by
      obtain ⟨x, h1, _, h3⟩ := DataW.trod_int Try.underlying3 (hall i hi).2
      simp only [List.cons.injEq, and_true] at h1
      exact ⟨x, h1, wf_i64 h3⟩
    obtain ⟨Q, hQ⟩ := choose_lt e0
    refine ⟨(List.range len0).map Q, by simp, ⟨by simpa using hl, hm, fun i z hz => ?_⟩⟩
    · have hi : i < len0 := by simpa using (List.getElem?_eq_some_iff.1 hz).1
      have hz' : z = Q i := by
        rw [List.getElem?_map, List.getElem?_range hi] at hz
        simpa using hz.symm
      obtain ⟨b, o, spot⟩ := a
      have hspot : spot = none := by simpa [Addr.add] using World.cell?_spot (hall 0 (by omega)).1
      subst hspot
      have c0 := (hall i (by omega)).1
      rw [Addr.add_lit, (hQ i (by omega)).1] at c0
      rw [hz']
      exact ⟨b, o, rfl, block_lt_of_cell (a := ⟨b, o + i, none⟩) c0, c0, (hQ i (by omega)).2⟩
set_option maxRecDepth 100000 in
theorem open_words {W : World} {A : Option Addr} {len0 cap0 : Nat} {d : DataW H} {p : List MemPlace} (h : DataW.Trod enc Try.prog W 0 (fun _ => true) true 34 (.slice A len0 cap0) d p) :
    ∃ xs, len0 = xs.length ∧ UAt W A cap0 xs := by
  obtain ⟨fuel, hf⟩ := h
  rcases open_slice1 Try.underlying34 cellsWd hf with ⟨hc, _⟩ | ⟨a, len, cap, m, k, V, D, Pl, hc, _, hl, hm, hmm, hx, hall⟩
  · simp [Value.cells] at hc
    obtain ⟨rfl, rfl, rfl⟩ := hc
    exact ⟨[], rfl, ⟨fun _ => rfl, by simp, by unfold maxLen; omega, fun i f hf => by simp at hf⟩⟩
  · simp [Value.cells] at hc
    obtain ⟨rfl, rfl, rfl⟩ := hc
    simp only [if_true] at hmm
    subst hmm
    have e0 : ∀ i, i < m → ∃ z : Nat, V i = .int .u64 (z : Int) ∧ z < 18446744073709551616 := fun i hi => by
      obtain ⟨x, h1, _, h3⟩ := DataW.trod_int Try.underlying38 (hall i hi).2
      simp only [List.cons.injEq, and_true] at h1
      obtain ⟨n, hn, hl⟩ := wd_of_wf h3
      exact ⟨n, by rw [h1, hn], hl⟩
    obtain ⟨Q, hQ⟩ := choose_lt e0
    refine ⟨(List.range len0).map Q, by simp, ⟨(fun e => by cases e), by simpa using hl, hm, fun i z hz => ?_⟩⟩
    · have hi : i < len0 := by simpa using (List.getElem?_eq_some_iff.1 hz).1
      have hz' : z = Q i := by
        rw [List.getElem?_map, List.getElem?_range hi] at hz
        simpa using hz.symm
      obtain ⟨b, o, spot⟩ := a
      have hspot : spot = none := by simpa [Addr.add] using World.cell?_spot (hall 0 (by omega)).1
      subst hspot
      have c0 := (hall i (by omega)).1
      rw [Addr.add_lit, (hQ i (by omega)).1] at c0
      rw [hz']
      exact ⟨b, o, rfl, block_lt_of_cell (a := ⟨b, o + i, none⟩) c0, c0, (hQ i (by omega)).2⟩
theorem open_zrow {W : World} {v : Value} {r : Reach} {b0 : Nat} {d : DataW H} {p : List MemPlace} (hv : Value.okWide Try.prog W r b0 22 v) (h : DataW.Trod enc Try.prog W 0 (fun _ => true) true 22 v d p) :
    ∃ A zs C, v = .slice A zs.length C ∧ ZAt W A C zs := by
  obtain ⟨A, n, C, rfl⟩ := okWide_slice Try.underlying22 hv
  obtain ⟨zs, rfl, hz⟩ := open_row h
  exact ⟨A, zs, C, rfl, hz⟩
theorem open_wrow {W : World} {v : Value} {r : Reach} {b0 : Nat} {d : DataW H} {p : List MemPlace} (hv : Value.okWide Try.prog W r b0 34 v) (h : DataW.Trod enc Try.prog W 0 (fun _ => true) true 34 v d p) :
    ∃ A xs C, v = .slice A xs.length C ∧ UAt W A C xs := by
  obtain ⟨A, n, C, rfl⟩ := okWide_slice Try.underlying34 hv
  obtain ⟨xs, rfl, hz⟩ := open_words h
  exact ⟨A, xs, C, rfl, hz⟩
end
end Go.Proofs.Ytgmjbagomfegeaa

/-
  A row of words that can be read as data lies there. No condition.
-/
import Derived.Test.YtpjfapibjihbbaaGreatDoorF28
import Derived.Test.YtpjfapibjihbbaaGreatDoorF27
import Derived.Deep.Slices
import Derived.Laws.IdiomArrays
import Derived.SizedLaws
import Derived.OpenShut
import Derived.Carry
namespace Go.Proofs.YtpjfapibjihbbaaGreatDoor
set_option linter.unusedVariables false
open Go.ChangeShapes Go.WideShapes Go.RowKit Go.Deep

section
variable {H : Type} {enc : TypeId × Value → H}

set_option maxRecDepth 100000 in
theorem open_words {W : World} {A : Option Addr} {len0 cap0 : Nat} {d : DataW H} {p : List MemPlace} (h : DataW.Trod enc Tryz.prog W 0 (fun _ => true) true 26 (.slice A len0 cap0) d p) :
    ∃ xs, len0 = xs.length ∧ UAt W A cap0 xs := by
  obtain ⟨fuel, hf⟩ := h
  rcases open_slice1 Tryz.underlying26 cellsWd hf with ⟨hc, _⟩ | ⟨a, len, cap, m, k, V, D, Pl, hc, _, hl, hm, hmm, hx, hall⟩
  · simp [Value.cells] at hc
    obtain ⟨rfl, rfl, rfl⟩ := hc
    exact ⟨[], rfl, ⟨fun _ => rfl, by simp, by unfold maxLen; omega, fun i f hf => by simp at hf⟩⟩
  · simp [Value.cells] at hc
    obtain ⟨rfl, rfl, rfl⟩ := hc
    simp only [if_true] at hmm
    subst hmm
    have e0 : ∀ i, i < m → ∃ z : Nat, V i = .int .u64 (z : Int) ∧ z < 18446744073709551616 := fun i hi => by
      obtain ⟨x, h1, _, h3⟩ := DataW.trod_int Tryz.underlying22 (hall i hi).2
      simp only [List.cons.injEq, and_true] at h1
      obtain ⟨n, hn, hl⟩ := wd_of_wf h3
      exact ⟨n, by rw [h1, hn], hl⟩
    obtain ⟨Q, hQ⟩ := choose_lt e0
    refine ⟨(List.range len0).map Q, by simp, ⟨(fun e => by cases e), by simpa using hl, hm, fun i z hz => ?_⟩⟩
    · have hi : i < len0 := by simpa using (List.getElem?_eq_some_iff.1 hz).1
      have hz' : z = Q i := by
        rw [List.getElem?_map, List.getElem?_range hi] at hz
        simpa using hz.symm
      obtain ⟨b, o, spot⟩ := a
      have hspot : spot = none := by simpa [Addr.add] using World.cell?_spot (hall 0 (by omega)).1
      subst hspot
      have c0 := (hall i (by omega)).1
      rw [Addr.add_lit, (hQ i (by omega)).1] at c0
      rw [hz']
      exact ⟨b, o, rfl, block_lt_of_cell (a := ⟨b, o + i, none⟩) c0, c0, (hQ i (by omega)).2⟩
set_option maxRecDepth 100000 in
theorem open_wrow {W : World} {v : Value} {r : Reach} {b0 : Nat} {d : DataW H} {p : List MemPlace} (hv : Value.okWide Tryz.prog W r b0 26 v) (h : DataW.Trod enc Tryz.prog W 0 (fun _ => true) true 26 v d p) :
    ∃ A xs C, v = .slice A xs.length C ∧ UAt W A C xs := by
  obtain ⟨A, n, C, rfl⟩ := okWide_slice Tryz.underlying26 hv
  obtain ⟨xs, rfl, hz⟩ := open_words h
  exact ⟨A, xs, C, rfl, hz⟩
end
end Go.Proofs.YtpjfapibjihbbaaGreatDoor

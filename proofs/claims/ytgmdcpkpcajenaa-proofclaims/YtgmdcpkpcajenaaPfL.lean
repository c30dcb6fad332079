/-
  A row whose entries are right, one behind the other: each P is a prime, by Lucas' test.
-/
import Derived.Test.YtgmdcpkpcajenaaPf6
namespace Go.Proofs.Ytgmdcpkpcajenaa
set_option linter.unusedVariables false

theorem without_prod {n q r : Nat} {e : Int} (h : without n q e = some r) : n = q ^ e.toNat * r := by
  unfold without at h
  split at h
  · cases h
  · split at h
    · next h1 =>
      cases h
      exact (Nat.mul_div_cancel' (Nat.dvd_of_mod_eq_zero h1)).symm
    · cases h
theorem known_prm {es : List En} (hE : ∀ y ∈ es, Prm y.p) {i q : Nat} (h : knownB es i q = true) : Prm q := by
  unfold knownB at h
  split at h
  · have : q = 2 := by simpa using h
    subst this; exact prm_two
  · obtain ⟨y, hy, hq⟩ := List.any_eq_true.1 h
    have : y.p = q := by simpa using hq
    exact this ▸ hE y hy
theorem fac_luc {es : List En} (hE : ∀ y ∈ es, Prm y.p) : ∀ (fs : List Pw) (i left last : Nat), facLoop es i left last fs = true → (∀ f ∈ fs, Prm f.q) ∧ prodOf (fs.map fun f => (f.q, f.e.toNat)) = left
  | [], _, left, _, h => by
    refine ⟨fun f hf => (by cases hf), ?_⟩
    have : left = 1 := by simpa [facLoop] using h
    rw [this]; rfl
  | x :: fs, i, left, last, h => by
    rw [facLoop] at h
    split at h
    · cases h
    · split at h
      · cases h
      · next hk =>
        split at h
        · cases h
        · next r hr =>
          obtain ⟨h1, h2⟩ := fac_luc hE fs _ _ _ h
          have hkn : knownB es i x.q = true := by simpa using hk
          refine ⟨fun f hf => ?_, ?_⟩
          · rcases List.mem_cons.1 hf with rfl | hf
            · exact known_prm hE hkn
            · exact h1 f hf
          · show x.q ^ x.e.toNat * prodOf (fs.map fun f => (f.q, f.e.toNat)) = left
            rw [h2]; exact (without_prod hr).symm
/-- An entry's factors, as Lucas' test has them. -/
def lucL (x : En) : List (Nat × Nat) := x.fs.map fun f => (f.q, f.e.toNat)
theorem right_luc {es : List En} (hE : ∀ y ∈ es, Prm y.p) {x : En} (h : rightB es x = true) : Luc x.p x.g (lucL x) := by
  unfold rightB at h
  simp only [Bool.and_eq_true, decide_eq_true_eq] at h
  obtain ⟨⟨g1, g2, g3⟩, _, hf, hg⟩ := h
  have hf' : facLoop es 0 (x.p - 1) 0 x.fs = true := by
    unfold factoredB at hf
    split at hf
    · cases hf
    · exact hf
  obtain ⟨hp, hprod⟩ := fac_luc hE x.fs 0 _ 0 hf'
  unfold generatesB at hg
  split at hg
  · cases hg
  · split at hg
    · next hone =>
      refine ⟨by omega, fun y hy => ?_, hprod, by simpa [oneAt] using hone, fun y hy => ?_⟩
      · obtain ⟨f, hf, rfl⟩ := List.mem_map.1 hy
        exact hp f hf
      · obtain ⟨f, hf, rfl⟩ := List.mem_map.1 hy
        have : ¬ (x.fs.any fun f => oneAt x ((x.p - 1) / f.q)) = true := by simpa using hg
        intro e
        exact this (List.any_eq_true.2 ⟨f, hf, by simpa [oneAt] using e⟩)
    · cases hg
theorem check_all {es : List En} (h : checkO es = none) : ∀ k, k < es.length → badAt es k = false := by
  intro k hk
  exact List.findIdx?_eq_none_iff.1 h k (List.mem_range.2 hk)
/-- In a row that is right each P is a prime, and G has the order P - 1. -/
theorem row_luc {es : List En} (h : checkO es = none) : ∀ (k : Nat) (x : En), es[k]? = some x → Luc x.p x.g (lucL x) := by
  intro k
  induction k using Nat.strongRecOn with
  | ind k ih =>
    intro x hx
    have hk : k < es.length := (List.getElem?_eq_some_iff.1 hx).1
    have hb := check_all h k hk
    rw [bad_some hx] at hb
    refine right_luc (es := es.take k) (fun y hy => ?_) (by simpa using hb)
    obtain ⟨j, hj, rfl⟩ := List.getElem_of_mem hy
    rw [List.length_take] at hj
    refine (ih j (by omega) _ ?_).prime
    rw [List.getElem_take]
    exact List.getElem?_eq_getElem (by omega)
end Go.Proofs.Ytgmdcpkpcajenaa

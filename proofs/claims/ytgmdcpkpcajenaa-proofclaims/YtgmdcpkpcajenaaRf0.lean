/-
  The document's reading of a right entry, and the program's: plain mathematics.
-/
import Derived.Test.YtgmdcpkpcajenaaPfL
namespace Go.Proofs.Ytgmdcpkpcajenaa
set_option linter.unusedVariables false

/-- Rising from a number on. -/
def Inc : Nat → List Pw → Prop
  | _, [] => True
  | last, f :: fs => last < f.q ∧ Inc f.q fs
def prodF (fs : List Pw) : Nat := prodOf (fs.map fun f => (f.q, f.e.toNat))
theorem prodF_cons (f : Pw) (fs : List Pw) : prodF (f :: fs) = f.q ^ f.e.toNat * prodF fs := rfl
theorem without_iff {n q r : Nat} {e : Int} (hq : 0 < q) : without n q e = some r ↔ (1 ≤ e ∧ e ≤ 62) ∧ n = q ^ e.toNat * r := by
  have hp : 0 < q ^ e.toNat := Nat.pow_pos hq
  unfold without
  by_cases h : e < 1 ∨ 62 < e
  · rw [if_pos h]; constructor
    · intro h; cases h
    · intro ⟨h1, _⟩; omega
  · rw [if_neg h]
    by_cases hd : n % q ^ e.toNat = 0
    · rw [if_pos hd]
      constructor
      · intro h'; cases h'
        exact ⟨by omega, (Nat.mul_div_cancel' (Nat.dvd_of_mod_eq_zero hd)).symm⟩
      · intro ⟨_, h2⟩
        rw [h2, Nat.mul_div_cancel_left _ hp]
    · rw [if_neg hd]
      constructor
      · intro h; cases h
      · intro ⟨_, h2⟩
        exact absurd (by rw [h2, Nat.mul_mod_right]) hd
theorem fac_iff (es : List En) : ∀ (fs : List Pw) (i left last : Nat), facLoop es i left last fs = true ↔ Inc last fs ∧ (∀ k f, fs[k]? = some f → knownB es (i + k) f.q = true) ∧ (∀ f ∈ fs, 1 ≤ f.e ∧ f.e ≤ 62) ∧ left = prodF fs
  | [], i, left, last => by
    constructor
    · intro h
      have : left = 1 := by simpa [facLoop] using h
      exact ⟨trivial, fun k f hf => by simp at hf, fun f hf => by simp at hf, this⟩
    · intro ⟨_, _, _, h⟩
      have : left = 1 := h
      simp [facLoop, this]
  | x :: fs, i, left, last => by
    have ih := fac_iff es fs
    constructor
    · intro h
      rw [facLoop] at h
      split at h
      · cases h
      · next h1 =>
        split at h
        · cases h
        · next hk =>
          split at h
          · cases h
          · next r hr =>
            obtain ⟨a1, a2, a3, a4⟩ := (ih _ _ _).1 h
            obtain ⟨b1, b2⟩ := (without_iff (by omega)).1 hr
            refine ⟨⟨by omega, a1⟩, fun k f hf => ?_, fun f hf => ?_, ?_⟩
            · match k, hf with
              | 0, hf => cases hf; simpa using hk
              | k + 1, hf => have := a2 k f (by simpa using hf); rwa [show i + (k + 1) = i + 1 + k by omega]
            · rcases List.mem_cons.1 hf with rfl | hf
              · exact b1
              · exact a3 f hf
            · rw [prodF_cons, b2, a4]
    · intro ⟨⟨h1, h2⟩, h3, h4, h5⟩
      have hk := h3 0 x rfl
      rw [Nat.add_zero] at hk
      have hr : without left x.q x.e = some (prodF fs) := (without_iff (by omega)).2 ⟨h4 x (by simp), by rw [h5, prodF_cons]⟩
      rw [fac_some es i left last _ x fs (by omega) hk hr]
      refine (ih _ _ _).2 ⟨h2, fun k f hf => ?_, fun f hf => h4 f (by simp [hf]), rfl⟩
      have := h3 (k + 1) f (by simpa using hf)
      rwa [show i + (k + 1) = i + 1 + k by omega] at this
theorem inc_of : ∀ (fs : List Pw) (last : Nat), (∀ f, fs[0]? = some f → last < f.q) → (∀ k f g, fs[k]? = some f → fs[k + 1]? = some g → f.q < g.q) → Inc last fs
  | [], _, _, _ => trivial
  | x :: fs, last, h0, h => ⟨h0 x rfl, inc_of fs x.q (fun f hf => h 0 x f rfl (by simpa using hf)) (fun k f g hf hg => h (k + 1) f g (by simpa using hf) (by simpa using hg))⟩
theorem inc_get : ∀ (fs : List Pw) (last : Nat), Inc last fs → ∀ k f g, fs[k]? = some f → fs[k + 1]? = some g → f.q < g.q
  | [], _, _, k, f, g, hf, _ => by simp at hf
  | [x], _, _, k, f, g, hf, hg => by simp at hg
  | x :: y :: fs, last, h, 0, f, g, hf, hg => by
    cases hf; cases hg; exact h.2.1
  | x :: y :: fs, last, h, k + 1, f, g, hf, hg => inc_get (y :: fs) x.q h.2 k f g (by simpa using hf) (by simpa using hg)
theorem inc_pos : ∀ (fs : List Pw) (last : Nat), Inc last fs → ∀ f ∈ fs, last < f.q
  | x :: fs, last, h, f, hf => by
    rcases List.mem_cons.1 hf with rfl | hf
    · exact h.1
    · have := inc_pos fs x.q h.2 f hf
      have := h.1
      omega

/-! ### The document's product -/
def mulUp (q most : Nat) : Nat → Nat → Option Nat
  | n, 0 => some n
  | n, k + 1 => if most / q < n then none else mulUp q most (n * q) k
def prodUp (most : Nat) : Nat → List Pw → Option Nat
  | n, [] => some n
  | n, f :: fs => if f.e < 1 ∨ 62 < f.e ∨ f.q < 2 then none else match mulUp f.q most n f.e.toNat with
    | none => none
    | some m => prodUp most m fs
theorem mul_fits {n q most : Nat} (hq : 0 < q) : ¬ most / q < n ↔ n * q ≤ most := by
  rw [Nat.not_lt, Nat.le_div_iff_mul_le hq]
theorem mulUp_iff (q most : Nat) (hq : 1 ≤ q) : ∀ (k n r : Nat), n ≤ most → 0 < n → (mulUp q most n k = some r ↔ n * q ^ k = r ∧ n * q ^ k ≤ most)
  | 0, n, r, hn, _ => by
    simp only [mulUp, Nat.pow_zero, Nat.mul_one, Option.some.injEq]
    exact ⟨fun h => ⟨h, hn⟩, fun h => h.1⟩
  | k + 1, n, r, hn, h0 => by
    rw [mulUp]
    have e : n * q ^ (k + 1) = n * q * q ^ k := by rw [Nat.pow_succ, Nat.mul_comm (q ^ k), Nat.mul_assoc]
    have hp : 0 < q ^ k := Nat.pow_pos (by omega)
    by_cases h : most / q < n
    · rw [if_pos h]
      constructor
      · intro h; cases h
      · intro ⟨_, h2⟩
        exfalso
        have h3 : ¬ n * q ≤ most := fun h' => ((mul_fits (by omega)).2 h') h
        have : n * q * 1 ≤ n * q * q ^ k := Nat.mul_le_mul_left _ hp
        omega
    · rw [if_neg h, e]
      exact mulUp_iff q most hq k (n * q) r ((mul_fits (by omega)).1 h) (Nat.mul_pos h0 (by omega))
theorem prodF_pos : ∀ (fs : List Pw), (∀ f ∈ fs, 2 ≤ f.q) → 0 < prodF fs
  | [], _ => Nat.one_pos
  | f :: fs, h => Nat.mul_pos (Nat.pow_pos (by have := h f (by simp); omega)) (prodF_pos fs fun g hg => h g (by simp [hg]))
theorem prodUp_iff (most : Nat) : ∀ (fs : List Pw) (n r : Nat), n ≤ most → 0 < n → (prodUp most n fs = some r ↔ (∀ f ∈ fs, (1 ≤ f.e ∧ f.e ≤ 62) ∧ 2 ≤ f.q) ∧ n * prodF fs = r ∧ n * prodF fs ≤ most)
  | [], n, r, hn, _ => by
    have e : prodF [] = 1 := rfl
    simp only [prodUp, e, Nat.mul_one, Option.some.injEq]
    exact ⟨fun h => ⟨fun f hf => by simp at hf, h, hn⟩, fun h => h.2.1⟩
  | f :: fs, n, r, hn, h0 => by
    rw [prodUp, prodF_cons]
    by_cases hb : f.e < 1 ∨ 62 < f.e ∨ f.q < 2
    · rw [if_pos hb]
      constructor
      · intro h; cases h
      · intro ⟨h1, _⟩
        have := h1 f (by simp)
        omega
    · rw [if_neg hb]
      have hq : 1 ≤ f.q := by omega
      have hp : 0 < f.q ^ f.e.toNat := Nat.pow_pos (by omega)
      cases hm : mulUp f.q most n f.e.toNat with
      | none =>
        constructor
        · intro h; cases h
        · intro ⟨h1, h2, h3⟩
          exfalso
          have hfit : n * f.q ^ f.e.toNat ≤ most := by
            have := prodF_pos fs fun g hg => (h1 g (by simp [hg])).2
            have : n * f.q ^ f.e.toNat * 1 ≤ n * f.q ^ f.e.toNat * prodF fs := Nat.mul_le_mul_left _ this
            rw [← Nat.mul_assoc] at h3
            omega
          have := (mulUp_iff f.q most hq f.e.toNat n _ hn h0).2 ⟨rfl, hfit⟩
          rw [hm] at this; cases this
      | some m =>
        obtain ⟨m1, m2⟩ := (mulUp_iff f.q most hq f.e.toNat n m hn h0).1 hm
        show prodUp most m fs = some r ↔ _
        rw [prodUp_iff most fs m r (by omega) (by rw [← m1]; exact Nat.mul_pos h0 hp), ← Nat.mul_assoc, m1]
        constructor
        · intro ⟨a, b⟩
          refine ⟨fun g hg => ?_, b⟩
          rcases List.mem_cons.1 hg with rfl | hg
          · exact ⟨by omega, by omega⟩
          · exact a g hg
        · intro ⟨a, b⟩
          exact ⟨fun g hg => a g (by simp [hg]), b⟩

/-! ### When an entry isn't right, when it is -/
theorem right_parts {es : List En} {x : En} (h : rightB es x = true) : Gd x.p ∧ climbsB es x.p = true ∧ (1 ≤ x.fs.length ∧ x.fs.length ≤ 16) ∧ facLoop es 0 (x.p - 1) 0 x.fs = true ∧ (2 ≤ x.g ∧ x.g < x.p) ∧ oneAt x (x.p - 1) = true ∧ ∀ f ∈ x.fs, oneAt x ((x.p - 1) / f.q) = false := by
  unfold rightB at h
  simp only [Bool.and_eq_true, decide_eq_true_eq] at h
  obtain ⟨g, c, hf, hg⟩ := h
  refine ⟨g, c, ?_⟩
  unfold factoredB at hf
  split at hf
  · cases hf
  · next hl =>
    refine ⟨by omega, hf, ?_⟩
    unfold generatesB at hg
    split at hg
    · cases hg
    · next hb =>
      split at hg
      · next ho =>
        refine ⟨by omega, ho, fun f hf => ?_⟩
        have : ¬ (x.fs.any fun f => oneAt x ((x.p - 1) / f.q)) = true := by simpa using hg
        cases hc : oneAt x ((x.p - 1) / f.q) with
        | false => rfl
        | true => exact absurd (List.any_eq_true.2 ⟨f, hf, hc⟩) this
      · cases hg
theorem right_of {es : List En} {x : En} (h1 : Gd x.p) (h2 : climbsB es x.p = true) (h3 : 1 ≤ x.fs.length ∧ x.fs.length ≤ 16) (h4 : facLoop es 0 (x.p - 1) 0 x.fs = true) (h5 : 2 ≤ x.g ∧ x.g < x.p) (h6 : oneAt x (x.p - 1) = true) (h7 : ∀ f ∈ x.fs, oneAt x ((x.p - 1) / f.q) = false) : rightB es x = true := by
  have a : factoredB es x = true := by unfold factoredB; rw [if_neg (by omega)]; exact h4
  have b : generatesB x = true := by
    unfold generatesB
    rw [if_neg (by omega), if_pos h6]
    have : (x.fs.any fun f => oneAt x ((x.p - 1) / f.q)) = false := by
      rw [List.any_eq_false]
      intro f hf
      simp [h7 f hf]
    rw [this]; rfl
  unfold rightB
  rw [@decide_eq_true _ (gdDec x.p) h1, h2, a, b]; rfl
theorem not_right {es : List En} {x : En} (h : rightB es x = true → False) : rightB es x = false := by
  cases hb : rightB es x with
  | false => rfl
  | true => exact absurd hb h
theorem known_succ {es : List En} {k q : Nat} : knownB es (k + 1) q = es.any fun x => x.p == q := by unfold knownB; rw [if_neg (by omega)]
end Go.Proofs.Ytgmdcpkpcajenaa

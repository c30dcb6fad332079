/-
  The document's reading of a right entry, and the program's: plain mathematics.
-/
import Derived.Test.YtpjfapibjihbbaaGreatDoorF5
import Derived.Test.YtpjfapibjihbbaaGreatDoorF3
import Derived.Test.YtpjfapibjihbbaaGreatDoorF1
namespace Go.Proofs.YtpjfapibjihbbaaGreatDoor
set_option linter.unusedVariables false

/-- Rising from a number on. -/
def Inc : Nat → List Pw → Prop
  | _, [] => True
  | last, f :: fs => last < f.q ∧ Inc f.q fs
def prodF (fs : List Pw) : Nat := prodOf (fs.map fun f => (f.q, f.e.toNat))
theorem prodF_cons (f : Pw) (fs : List Pw) : prodF (f :: fs) = f.q ^ f.e.toNat * prodF fs := rfl
theorem without_iff {n q r : Nat} {e : Int} (hq : 0 < q) : without n q e = some r ↔ (1 ≤ e ∧ e ≤ 62) ∧ n = q ^ e.toNat * r := by
  have hp : 0 < q ^ e.toNat := Nat.pow_pos hq
  unfold without
  by_cases h : e < 1 ∨ 62 < e
  · rw [if_pos h]; constructor
    · intro h; cases h
    · intro ⟨h1, _⟩; omega
  · rw [if_neg h]
    by_cases hd : n % q ^ e.toNat = 0
    · rw [if_pos hd]
      constructor
      · intro h'; cases h'
        exact ⟨by omega, (Nat.mul_div_cancel' (Nat.dvd_of_mod_eq_zero hd)).symm⟩
      · intro ⟨_, h2⟩
        rw [h2, Nat.mul_div_cancel_left _ hp]
    · rw [if_neg hd]
      constructor
      · intro h; cases h
      · intro ⟨_, h2⟩
        exact absurd (by rw [h2, Nat.mul_mod_right]) hd
theorem fac_iff (es : List En) : ∀ (fs : List Pw) (i left last : Nat), facLoop es i left last fs = true ↔ Inc last fs ∧ (∀ k f, fs[k]? = some f → knownB es (i + k) f.q = true) ∧ (∀ f ∈ fs, 1 ≤ f.e ∧ f.e ≤ 62) ∧ left = prodF fs
  | [], i, left, last => by
    constructor
    · intro h
      have : left = 1 := by simpa [facLoop] using h
      exact ⟨trivial, fun k f hf => by simp at hf, fun f hf => by simp at hf, this⟩
    · intro ⟨_, _, _, h⟩
      have : left = 1 := h
      simp [facLoop, this]
  | x :: fs, i, left, last => by
    have ih := fac_iff es fs
    constructor
    · intro h
      rw [facLoop] at h
      split at h
      · cases h
      · next h1 =>
        split at h
        · cases h
        · next hk =>
          split at h
          · cases h
          · next r hr =>
            obtain ⟨a1, a2, a3, a4⟩ := (ih _ _ _).1 h
            obtain ⟨b1, b2⟩ := (without_iff (by omega)).1 hr
            refine ⟨⟨by omega, a1⟩, fun k f hf => ?_, fun f hf => ?_, ?_⟩
            · match k, hf with
              | 0, hf => cases hf; simpa using hk
              | k + 1, hf => have := a2 k f (by simpa using hf); rwa [show i + (k + 1) = i + 1 + k by omega]
            · rcases List.mem_cons.1 hf with rfl | hf
              · exact b1
              · exact a3 f hf
            · rw [prodF_cons, b2, a4]
    · intro ⟨⟨h1, h2⟩, h3, h4, h5⟩
      have hk := h3 0 x rfl
      rw [Nat.add_zero] at hk
      have hr : without left x.q x.e = some (prodF fs) := (without_iff (by omega)).2 ⟨h4 x (by simp), by rw [h5, prodF_cons]⟩
      rw [fac_some es i left last _ x fs (by omega) hk hr]
      refine (ih _ _ _).2 ⟨h2, fun k f hf => ?_, fun f hf => h4 f (by simp [hf]), rfl⟩
      have := h3 (k + 1) f (by simpa using hf)
      rwa [show i + (k + 1) = i + 1 + k by omega] at this
theorem inc_of : ∀ (fs : List Pw) (last : Nat), (∀ f, fs[0]? = some f → last < f.q) → (∀ k f g, fs[k]? = some f → fs[k + 1]? = some g → f.q < g.q) → Inc last fs
  | [], _, _, _ => trivial
  | x :: fs, last, h0, h => ⟨h0 x rfl, inc_of fs x.q (fun f hf => h 0 x f rfl (by simpa using hf)) (fun k f g hf hg => h (k + 1) f g (by simpa using hf) (by simpa using hg))⟩
theorem inc_get : ∀ (fs : List Pw) (last : Nat), Inc last fs → ∀ k f g, fs[k]? = some f → fs[k + 1]? = some g → f.q < g.q
  | [], _, _, k, f, g, hf, _ => by simp at hf
  | [x], _, _, k, f, g, hf, hg => by simp at hg
  | x :: y :: fs, last, h, 0, f, g, hf, hg => by
    cases hf; cases hg; exact h.2.1
  | x :: y :: fs, last, h, k + 1, f, g, hf, hg => inc_get (y :: fs) x.q h.2 k f g (by simpa using hf) (by simpa using hg)
theorem inc_pos : ∀ (fs : List Pw) (last : Nat), Inc last fs → ∀ f ∈ fs, last < f.q
  | x :: fs, last, h, f, hf => by
    rcases List.mem_cons.1 hf with rfl | hf
    · exact h.1
    · have := inc_pos fs x.q h.2 f hf
      have := h.1
      omega

/-! ### The document's product -/
def mulUp (q most : Nat) : Nat → Nat → Option Nat
  | n, 0 => some n
  | n, k + 1 => if most / q < n then none else mulUp q most (n * q) k
def prodUp (most : Nat) : Nat → List Pw → Option Nat
  | n, [] => some n
  | n, f :: fs => if f.e < 1 ∨ 62 < f.e ∨ f.q < 2 then none else match mulUp f.q most n f.e.toNat with
    | none => none
    | some m => prodUp most m fs
theorem mul_fits {n q most : Nat} (hq : 0 < q) : ¬ most / q < n ↔ n * q ≤ most := by
  rw [Nat.not_lt, Nat.le_div_iff_mul_le hq]
theorem mulUp_iff (q most : Nat) (hq : 1 ≤ q) : ∀ (k n r : Nat), n ≤ most → 0 < n → (mulUp q most n k = some r ↔ n * q ^ k = r ∧ n * q ^ k ≤ most)
  | 0, n, r, hn, _ => by
    simp only [mulUp, Nat.pow_zero, Nat.mul_one, Option.some.injEq]
    exact ⟨fun h => ⟨h, hn⟩, fun h => h.1⟩
  | k + 1, n, r, hn, h0 => by
    rw [mulUp]
    have e : n * q ^ (k + 1) = n * q * q ^ k := by rw [Nat.pow_succ, Nat.mul_comm (q ^ k), Nat.mul_assoc]
    have hp : 0 < q ^ k := Nat.pow_pos (by omega)
    by_cases h : most / q < n
    · rw [if_pos h]
      constructor
      · intro h; cases h
      · intro ⟨_, h2⟩
        exfalso
        have h3 : ¬ n * q ≤ most := fun h' => ((mul_fits (by omega)).2 h') h
        have : n * q * 1 ≤ n * q * q ^ k := Nat.mul_le_mul_left _ hp
        omega
    · rw [if_neg h, e]
      exact mulUp_iff q most hq k (n * q) r ((mul_fits (by omega)).1 h) (Nat.mul_pos h0 (by omega))
theorem prodF_pos : ∀ (fs : List Pw), (∀ f ∈ fs, 2 ≤ f.q) → 0 < prodF fs
  | [], _ => Nat.one_pos
  | f :: fs, h => Nat.mul_pos (Nat.pow_pos (by have := h f (by simp); omega)) (prodF_pos fs fun g hg => h g (by simp [hg]))
theorem prodUp_iff (most : Nat) : ∀ (fs : List Pw) (n r : Nat), n ≤ most → 0 < n → (prodUp most n fs = some r ↔ (∀ f ∈ fs, (1 ≤ f.e ∧ f.e ≤ 62) ∧ 2 ≤ f.q) ∧ n * prodF fs = r ∧ n * prodF fs ≤ most)
  | [], n, r, hn, _ => by
    have e : prodF [] = 1 := rfl
    simp only [prodUp, e, Nat.mul_one, Option.some.injEq]
    exact ⟨fun h => ⟨fun f hf => by simp at hf, h, hn⟩, fun h => h.2.1⟩
  | f :: fs, n, r, hn, h0 => by
    rw [prodUp, prodF_cons]
    by_cases hb : f.e < 1 ∨ 62 < f.e ∨ f.q < 2
    · rw [if_pos hb]
      constructor
      · intro h; cases h
      · intro ⟨h1, _⟩
        have := h1 f (by simp)
        omega
    · rw [if_neg hb]
      have hq : 1 ≤ f.q := by omega
      have hp : 0 < f.q ^ f.e.toNat := Nat.pow_pos (by omega)
      cases hm : mulUp f.q most n f.e.toNat with
      | none =>
        constructor
        · intro h; cases h
        · intro ⟨h1, h2, h3⟩
          exfalso
          have hfit : n * f.q ^ f.e.toNat ≤ most := by
            have := prodF_pos fs fun g hg => (h1 g (by simp [hg])).2
            have : n * f.q ^ f.e.toNat * 1 ≤ n * f.q ^ f.e.toNat * prodF fs := Nat.mul_le_mul_left _ this
            rw [← Nat.mul_assoc] at h3
            omega
          have := (mulUp_iff f.q most hq f.e.toNat n _ hn h0).2 ⟨rfl, hfit⟩
          rw [hm] at this; cases this
      | some m =>
        obtain ⟨m1, m2⟩ := (mulUp_iff f.q most hq f.e.toNat n m hn h0).1 hm
        show prodUp most m fs = some r ↔ _
        rw [prodUp_iff most fs m r (by omega) (by rw [← m1]; exact Nat.mul_pos h0 hp), ← Nat.mul_assoc, m1]
        constructor
        · intro ⟨a, b⟩
          refine ⟨fun g hg => ?_, b⟩
          rcases List.mem_cons.1 hg with rfl | hg
          · exact ⟨by omega, by omega⟩
          · exact a g hg
        · intro ⟨a, b⟩
          exact ⟨fun g hg => a g (by simp [hg]), b⟩

/-! ### When an entry isn't right, when it is -/
theorem right_parts {es : List En} {x : En} (h : rightB es x = true) : Gd x.p ∧ climbsB es x.p = true ∧ (1 ≤ x.fs.length ∧ x.fs.length ≤ 16) ∧ facLoop es 0 (x.p - 1) 0 x.fs = true ∧ (2 ≤ x.g ∧ x.g < x.p) ∧ oneAt x (x.p - 1) = true ∧ ∀ f ∈ x.fs, oneAt x ((x.p - 1) / f.q) = false := by
  unfold rightB at h
  simp only [Bool.and_eq_true, decide_eq_true_eq] at h
  obtain ⟨g, c, hf, hg⟩ := h
  refine ⟨g, c, ?_⟩
  unfold factoredB at hf
  split at hf
  · cases hf
  · next hl =>
    refine ⟨by omega, hf, ?_⟩
    unfold generatesB at hg
    split at hg
    · cases hg
    · next hb =>
      split at hg
      · next ho =>
        refine ⟨by omega, ho, fun f hf => ?_⟩
        have : ¬ (x.fs.any fun f => oneAt x ((x.p - 1) / f.q)) = true := by simpa using hg
        cases hc : oneAt x ((x.p - 1) / f.q) with
        | false => rfl
        | true => exact absurd (List.any_eq_true.2 ⟨f, hf, hc⟩) this
      · cases hg
theorem right_of {es : List En} {x : En} (h1 : Gd x.p) (h2 : climbsB es x.p = true) (h3 : 1 ≤ x.fs.length ∧ x.fs.length ≤ 16) (h4 : facLoop es 0 (x.p - 1) 0 x.fs = true) (h5 : 2 ≤ x.g ∧ x.g < x.p) (h6 : oneAt x (x.p - 1) = true) (h7 : ∀ f ∈ x.fs, oneAt x ((x.p - 1) / f.q) = false) : rightB es x = true := by
  have a : factoredB es x = true := by unfold factoredB; rw [if_neg (by omega)]; exact h4
  have b : generatesB x = true := by
    unfold generatesB
    rw [if_neg (by omega), if_pos h6]
    have : (x.fs.any fun f => oneAt x ((x.p - 1) / f.q)) = false := by
      rw [List.any_eq_false]
      intro f hf
      simp [h7 f hf]
    rw [this]; rfl
  unfold rightB
  rw [@decide_eq_true _ (gdDec x.p) h1, h2, a, b]; rfl
theorem not_right {es : List En} {x : En} (h : rightB es x = true → False) : rightB es x = false := by
  cases hb : rightB es x with
  | false => rfl
  | true => exact absurd hb h
theorem known_succ {es : List En} {k q : Nat} : knownB es (k + 1) q = es.any fun x => x.p == q := by unfold knownB; rw [if_neg (by omega)]
end Go.Proofs.YtpjfapibjihbbaaGreatDoor
/-
  Contracts of the document's own answers of layer 4: Claimed, Product.
-/
namespace Go.Proofs.YtpjfapibjihbbaaGreatDoor
set_option linter.unusedVariables false
open Go.RowKit

theorem any_found {es : List En} {k q : Nat} {x : En} (hx : es[k]? = some x) (h : x.p = q) : (es.any fun x => x.p == q) = true := List.any_eq_true.2 ⟨x, List.mem_of_getElem? hx, by simp [h]⟩
theorem any_none {es : List En} {q : Nat} (h : ∀ j y, j < es.length → es[j]? = some y → (y.p == q) = false) : (es.any fun x => x.p == q) = false := by
  rw [List.any_eq_false]
  intro x hx
  obtain ⟨j, hj, rfl⟩ := List.getElem_of_mem hx
  simp [h j _ hj (List.getElem?_eq_getElem hj)]

set_option maxHeartbeats 1000000 in
/-- Claimed. -/
theorem claimed_any (W : World) (A : Option Addr) (C : Nat) (es : List En) (hE : EntsAt W A C es) (q : Nat) (hq : q < 18446744073709551616) :
    AnsB W 68 #[.slice A es.length C, .int .u64 (q : Int)] (.bool (es.any fun x => x.p == q)) := by
  intro w hw
  have hlen : (es.length : Int) ≤ 9223372036854775807 := by have := hE.cap; have := hE.max; unfold maxLen at this; omega
  obtain ⟨L, hL⟩ : ∃ L, es.length = L := ⟨_, rfl⟩
  rw [hL] at hlen
  have HL : Hid (es.length = L) := hL
  rw [hL]
  clear hL
  obtain ⟨r, hr⟩ : ∃ r, (es.any fun x => x.p == q) = r := ⟨_, rfl⟩
  have HR : Hid ((es.any fun x => x.p == q) = r) := hr
  rw [hr]
  clear hr
  go_enter Tryz.func68, Tryz.ntmps68
  go_wp2
  go_loopw [9] (fun v wr => ∃ k : Nat, v = .int .i64 k ∧ k ≤ L ∧ Hid (∀ j y, j < k → es[j]? = some y → (y.p == q) = false) ∧ Below w.heap.size w wr) (fun v _ => L - (intOf v).toNat)
  case atStart => exact ⟨0, rfl, by omega, fun j y hj => absurd hj (by omega), Below.refl _ _⟩
  case round =>
    obtain ⟨k, rfl, hk, HI, hB⟩ := hrel
    by_cases hlt : k < L
    · have hlt' : k < es.length := by rw [HL.out]; exact hlt
      obtain ⟨x, hx⟩ : ∃ x, es[k]? = some x := ⟨_, List.getElem?_eq_getElem hlt'⟩
      obtain ⟨b, o, A', C', rfl, hb, c0, c1, c2, hP, hp, hg⟩ := hE.get k x hx
      have hBW : Below W.heap.size W wr := bb hw hB
      have c0' := keep_cell hBW hb c0
      have c1' := keep_cell hBW hb c1
      have c2' := keep_cell hBW hb c2
      obtain ⟨p, hp'⟩ : ∃ p : Int, (x.p : Int) = p := ⟨_, rfl⟩
      obtain ⟨g, hg'⟩ : ∃ g : Int, (x.g : Int) = g := ⟨_, rfl⟩
      obtain ⟨fl, hfl⟩ : ∃ fl : Nat, x.fs.length = fl := ⟨_, rfl⟩
      rw [hp'] at c0'
      rw [hg'] at c1'
      rw [hfl] at c2'
      by_cases ht : x.p = q
      · have hpq : (p == (q : Int)) = true := by rw [← hp', ht]; simp
        have HE : Hid (r = true) := by
          unfold Hid; rw [← HR.out]; exact any_found hx ht
        clear c0 c1 c2 hp' hg' hfl hx HI ht hP hlt'
        go_wp2
        go_ret
        exact ⟨ret_bool HE.out.symm, bb hB (below_alloc _ _)⟩
      · have hpq : (p == (q : Int)) = false := by rw [← hp']; simp; omega
        have HS : Hid (∀ j y, j < k + 1 → es[j]? = some y → (y.p == q) = false) := by
          intro j y hj hy
          by_cases h : j < k
          · exact HI.out j y h hy
          · obtain rfl : j = k := by omega
            rw [hx] at hy; cases hy; simp [ht]
        clear c0 c1 c2 hp' hg' hfl hx HI ht hP hlt'
        go_wp2
        go_roundw
        case rel => exact ⟨k + 1, by go_num, by omega, HS, bb hB (below_alloc _ _)⟩
        case measure => simp [intOf]; omega
    · obtain rfl : k = L := by omega
      have HE : Hid (r = false) := by
        unfold Hid; rw [← HR.out]; exact any_none (by rw [HL.out]; exact HI.out)
      clear HI
      go_wp2
      go_ret
      exact ⟨ret_bool HE.out.symm, hB⟩

/-! ### Product -/
theorem prodUp_bad (most n : Nat) (f : Pw) (fs : List Pw) (h : f.e < 1 ∨ 62 < f.e ∨ f.q < 2) : prodUp most n (f :: fs) = none := by rw [prodUp, if_pos h]
theorem prodUp_none (most n : Nat) (f : Pw) (fs : List Pw) (h : ¬ (f.e < 1 ∨ 62 < f.e ∨ f.q < 2)) (hm : mulUp f.q most n f.e.toNat = none) : prodUp most n (f :: fs) = none := by rw [prodUp, if_neg h, hm]
theorem prodUp_some (most n m : Nat) (f : Pw) (fs : List Pw) (h : ¬ (f.e < 1 ∨ 62 < f.e ∨ f.q < 2)) (hm : mulUp f.q most n f.e.toNat = some m) : prodUp most n (f :: fs) = prodUp most m fs := by rw [prodUp, if_neg h, hm]
theorem mulUp_stop (q most n k : Nat) (h : most / q < n) : mulUp q most n (k + 1) = none := by rw [mulUp, if_pos h]
theorem mulUp_go (q most n k : Nat) (h : ¬ most / q < n) : mulUp q most n (k + 1) = mulUp q most (n * q) k := by rw [mulUp, if_neg h]

set_option maxHeartbeats 2000000 in
theorem product_any (W : World) (A : Option Addr) (C : Nat) (fs : List Pw) (hP : PowsAt W A C fs) (most : Nat) (hm0 : 1 ≤ most) (hm : most < 18446744073709551616) :
    AnsB W 69 #[.slice A fs.length C, .int .u64 (most : Int)] (woV (prodUp most 1 fs)) := by
  intro w hw
  have hlen : (fs.length : Int) ≤ 9223372036854775807 := by have := hP.cap; have := hP.max; unfold maxLen at this; omega
  obtain ⟨L, hL⟩ : ∃ L, fs.length = L := ⟨_, rfl⟩
  rw [hL] at hlen
  have HL : Hid (fs.length = L) := hL
  rw [hL]
  clear hL
  obtain ⟨rv, hrv⟩ : ∃ rv, woV (prodUp most 1 fs) = rv := ⟨_, rfl⟩
  have HR : Hid (woV (prodUp most 1 fs) = rv) := hrv
  rw [hrv]
  clear hrv
  go_enter Tryz.func69, Tryz.ntmps69
  go_wp2
  go_loopw [6, 12] (fun s v wr => ∃ n k : Nat, s = .int .u64 n ∧ v = .int .i64 k ∧ k ≤ L ∧ 1 ≤ n ∧ n ≤ most ∧ Hid (prodUp most n (fs.drop k) = prodUp most 1 fs) ∧ Below w.heap.size w wr) (fun _ v _ => L - (intOf v).toNat)
  case atStart => exact ⟨1, 0, rfl, rfl, by omega, by omega, by omega, by unfold Hid; rw [List.drop_zero], Below.refl _ _⟩
  case round =>
    obtain ⟨n, k, rfl, rfl, hk, hn0, hn, HI, hB⟩ := hrel
    by_cases hlt : k < L
    · have hlt' : k < fs.length := by rw [HL.out]; exact hlt
      obtain ⟨f, hf⟩ : ∃ f, fs[k]? = some f := ⟨_, List.getElem?_eq_getElem hlt'⟩
      obtain ⟨b, o, rfl, hb, d0, d1, hfq, hfe, hfe'⟩ := hP.get k f hf
      have hBW : Below W.heap.size W wr := bb hw hB
      have d0' := keep_cell hBW hb d0
      have d1' := keep_cell hBW hb d1
      have HX : Hid (fs.drop k = f :: fs.drop (k + 1)) := drop_cons hf
      obtain ⟨q, hq⟩ : ∃ q : Nat, f.q = q := ⟨_, rfl⟩
      obtain ⟨e, he⟩ : ∃ e : Int, f.e = e := ⟨_, rfl⟩
      rw [hq] at d0' hfq
      rw [he] at d1' hfe hfe'
      by_cases hbad : e < 1 ∨ 62 < e ∨ q < 2
      · have HE : Hid (rv = .tuple #[.int .u64 0, .bool false]) := by
          unfold Hid; rw [← HR.out, ← HI.out, HX.out, prodUp_bad _ _ _ _ (by rw [hq, he]; exact hbad)]; rfl
        clear d0 d1 HI HX hf hlt'
        by_cases h1 : e < 1
        · go_wp2
          go_ret2
          exact ⟨congrArg Ending.returned HE.out.symm, bb hB (below_alloc _ _)⟩
        · by_cases h2 : 62 < e
          · go_wp2
            go_ret2
            exact ⟨congrArg Ending.returned HE.out.symm, bb hB (below_alloc _ _)⟩
          · have h3 : (q : Int) < 2 := by omega
            go_wp2
            go_ret2
            exact ⟨congrArg Ending.returned HE.out.symm, bb hB (below_alloc _ _)⟩
      · have b1 : ¬ e < 1 := by omega
        have b2 : ¬ 62 < e := by omega
        have b3 : ¬ (q : Int) < 2 := by omega
        have HBD : Hid (¬ (f.e < 1 ∨ 62 < f.e ∨ f.q < 2)) := by unfold Hid; rw [hq, he]; exact hbad
        have HQ : Hid (f.q = q ∧ f.e = e) := ⟨hq, he⟩
        obtain ⟨t0, t1⟩ := two_cells wr (.int .u64 (q : Int)) (.int .i64 e) 92
        obtain ⟨V, hV⟩ : ∃ V, wr.alloc (.cells #[.int .u64 (q : Int), .int .i64 e] 92) = V := ⟨_, rfl⟩
        have hBV : Below wr.heap.size wr V := hV ▸ below_alloc _ _
        rw [hV] at t0 t1
        have hBwV := bb hB hBV
        obtain ⟨bo, hbo⟩ : ∃ bo, wr.heap.size = bo := ⟨_, rfl⟩
        rw [hbo] at t0 t1
        obtain ⟨d, hd⟩ : ∃ d, most / q = d := ⟨_, rfl⟩
        have hd' : (most : Int) / (q : Int) = (d : Int) := by rw [← hd]; simp
        have hdl : d ≤ most := hd ▸ Nat.div_le_self _ _
        have hdw : IntKind.u64.wrap (d : Int) = (d : Int) := wrap_small _ (by omega) (by omega)
        have hqz : ((q : Int) == 0) = false := by simp; omega
        have hfit : ∀ n : Nat, ¬ d < n ↔ n * q ≤ most := fun n => hd ▸ mul_fits (by omega)
        have HD : Hid (most / q = d ∧ ∀ n : Nat, ¬ d < n ↔ n * q ≤ most) := ⟨hd, hfit⟩
        clear d0 d1 hf hlt' hbad hq he hd hfit hBW hB
        go_wp2
        clear hbo hV hBV
        go_loopw [6, 9] (fun s v wi => ∃ m j : Nat, s = .int .u64 m ∧ v = .int .i64 j ∧ (j : Int) ≤ e ∧ 1 ≤ m ∧ m ≤ most ∧ Hid (mulUp q most m (e.toNat - j) = mulUp q most n e.toNat) ∧ wi = V) (fun _ v _ => e.toNat - (intOf v).toNat)
        case atStart => exact ⟨n, 0, rfl, rfl, by omega, hn0, hn, by unfold Hid; rw [Nat.sub_zero], rfl⟩
        case round =>
          obtain ⟨m, j, rfl, rfl, hj, hm1, hm2, HM, rfl⟩ := hrel
          by_cases hje : (j : Int) < e
          · have hk' : e.toNat - j = (e.toNat - (j + 1)) + 1 := by omega
            by_cases hst : d < m
            · have HE : Hid (rv = .tuple #[.int .u64 0, .bool false]) := by
                unfold Hid
                rw [← HR.out, ← HI.out, HX.out, prodUp_none _ _ _ _ HBD.out]
                · rfl
                · rw [HQ.out.1, HQ.out.2, ← HM.out, hk', mulUp_stop _ _ _ _ (by rw [HD.out.1]; exact hst)]
              clear HI HX HM hk' HD HBD HQ
              go_wp2
              go_ret2
              exact ⟨congrArg Ending.returned HE.out.symm, hBwV⟩
            · have hmq := (HD.out.2 m).1 hst
              have hmqp : 1 ≤ m * q := Nat.mul_pos hm1 (by omega)
              have HS : Hid (mulUp q most (m * q) (e.toNat - (j + 1)) = mulUp q most n e.toNat) := by
                unfold Hid; rw [← HM.out, hk', mulUp_go _ _ _ _ (by rw [HD.out.1]; exact hst)]
              obtain ⟨mq, hmq'⟩ : ∃ mq, m * q = mq := ⟨_, rfl⟩
              have hmi : (m : Int) * (q : Int) = (mq : Int) := by rw [← hmq']; simp
              have hmw : IntKind.u64.wrap (mq : Int) = (mq : Int) := wrap_small _ (by omega) (by rw [hmq'] at hmq; omega)
              rw [hmq'] at HS hmq hmqp
              clear HM hk' hmq'
              go_wp2
              go_roundw
              case rel => exact ⟨mq, j + 1, rfl, by go_num, by omega, hmqp, hmq, HS, by first | rfl | trivial⟩
              case measure => simp [intOf]; omega
          · have HS : Hid (prodUp most m (fs.drop (k + 1)) = prodUp most 1 fs) := by
              unfold Hid
              rw [← HI.out, HX.out, prodUp_some _ _ m _ _ HBD.out]
              rw [HQ.out.1, HQ.out.2, ← HM.out, show e.toNat - j = 0 by omega]; rfl
            clear HI HX HM HD HBD HQ
            go_wp2
            go_roundw
            case rel => exact ⟨m, k + 1, rfl, by go_num, by omega, hm1, hm2, HS, hBwV⟩
            case measure => simp [intOf]; omega
    · obtain rfl : k = L := by omega
      have HE : Hid (rv = .tuple #[.int .u64 (n : Int), .bool true]) := by
        unfold Hid; rw [← HR.out, ← HI.out, List.drop_eq_nil_of_le (by rw [HL.out]; exact Nat.le_refl _)]; rfl
      clear HI
      go_wp2
      go_ret2
      exact ⟨congrArg Ending.returned HE.out.symm, hB⟩
end Go.Proofs.YtpjfapibjihbbaaGreatDoor
/-
  Contracts of the document's own answers of layer 2: sums, products and powers. No condition but that arguments are words, and a modulus is not 0.
-/
namespace Go.Proofs.YtpjfapibjihbbaaGreatDoor
set_option linter.unusedVariables false
open Go.RowKit

/-! ### The document's sums -/
theorem radd_walkA (a b m x y : Int) (ha0 : 0 ≤ a) (ha : a < 18446744073709551616) (hb0 : 0 ≤ b) (hb : b < 18446744073709551616) (hm0 : 0 < m) (hm : m < 18446744073709551616) (hx : a % m = x) (hy : b % m = y) (x0 : 0 ≤ x) (x1 : x < m) (y0 : 0 ≤ y) (y1 : y < m) (h : m - y ≤ x) :
    Ans 48 #[.int .u64 a, .int .u64 b, .int .u64 m] (.int .u64 (x - (m - y))) := by
  intro w
  have hm1 : (m == 0) = false := by simp; omega
  go_enter Tryz.func48, Tryz.ntmps48
  go_wp2
  go_ret
  exact ⟨rfl, 0, rfl⟩
theorem radd_walkB (a b m x y : Int) (ha0 : 0 ≤ a) (ha : a < 18446744073709551616) (hb0 : 0 ≤ b) (hb : b < 18446744073709551616) (hm0 : 0 < m) (hm : m < 18446744073709551616) (hx : a % m = x) (hy : b % m = y) (x0 : 0 ≤ x) (x1 : x < m) (y0 : 0 ≤ y) (y1 : y < m) (h : ¬ m - y ≤ x) :
    Ans 48 #[.int .u64 a, .int .u64 b, .int .u64 m] (.int .u64 (x + y)) := by
  intro w
  have hm1 : (m == 0) = false := by simp; omega
  go_enter Tryz.func48, Tryz.ntmps48
  go_wp2
  go_ret
  exact ⟨rfl, 0, rfl⟩
/-- The document's sum. -/
theorem radd_any (a b m : Nat) (ha : a < 18446744073709551616) (hb : b < 18446744073709551616) (hm : m < 18446744073709551616) (hm0 : 0 < m) :
    Ans 48 #[.int .u64 a, .int .u64 b, .int .u64 m] (.int .u64 (((a + b) % m : Nat) : Int)) := by
  have h1 := Nat.mod_lt a hm0
  have h2 := Nat.mod_lt b hm0
  have e : (a + b) % m = if m - b % m ≤ a % m then a % m - (m - b % m) else a % m + b % m := by
    rw [Nat.add_mod]
    split
    · rw [Nat.mod_eq_sub_mod (by omega), Nat.mod_eq_of_lt (by omega)]; omega
    · rw [Nat.mod_eq_of_lt (by omega)]
  by_cases h : m - b % m ≤ a % m
  · refine ans_int (radd_walkA a b m _ _ (by omega) (by omega) (by omega) (by omega) (by omega) (by omega) rfl rfl (by omega) (by omega) (by omega) (by omega) (by omega)) ?_
    rw [e, if_pos h]; omega
  · refine ans_int (radd_walkB a b m _ _ (by omega) (by omega) (by omega) (by omega) (by omega) (by omega) rfl rfl (by omega) (by omega) (by omega) (by omega) (by omega)) ?_
    rw [e, if_neg h]; omega

/-! ### The document's products -/
theorem rmul_step_odd (o x y m : Nat) (h : y % 2 = 1) : ((o + x) % m + (x + x) % m * (y / 2)) % m = (o + x * y) % m := by
  conv => rhs; rw [show y = 2 * (y / 2) + 1 by omega]
  rw [Nat.add_mod, Nat.mod_mod, Nat.mul_mod, Nat.mod_mod, ← Nat.mul_mod, ← Nat.add_mod]
  congr 1
  rw [Nat.mul_add, ← Nat.mul_assoc, Nat.mul_two, Nat.mul_one]; omega
theorem rmul_step_even (o x y m : Nat) (h : ¬ y % 2 = 1) : (o + (x + x) % m * (y / 2)) % m = (o + x * y) % m := by
  conv => rhs; rw [show y = 2 * (y / 2) by omega]
  rw [Nat.add_mod, Nat.mul_mod, Nat.mod_mod, ← Nat.mul_mod, ← Nat.add_mod, ← Nat.mul_assoc, Nat.mul_two]

set_option maxHeartbeats 1000000 in
/-- The document's product. -/
theorem rmul_any (a b m : Nat) (ha : a < 18446744073709551616) (hb : b < 18446744073709551616) (hm : m < 18446744073709551616) (hm0 : 0 < m) :
    Ans 29 #[.int .u64 a, .int .u64 b, .int .u64 m] (.int .u64 ((a * b % m : Nat) : Int)) := by
  intro w
  have hm1 : ((m : Int) == 0) = false := by simp; omega
  have hlt := Nat.mod_lt a hm0
  go_enter Tryz.func29, Tryz.ntmps29
  go_wp2
  go_loopw [0, 1, 7] (fun x y z W => ∃ c d o n : Nat, x = .int .u64 c ∧ y = .int .u64 d ∧ z = .int .u64 o ∧ c < m ∧ d < 18446744073709551616 ∧ o < m ∧ Hid ((o + c * d) % m = a * b % m) ∧ W = w.drewN n) (fun _ y _ _ => (intOf y).toNat)
  case atStart => exact ⟨a % m, b, 0, 0, by go_num, rfl, rfl, hlt, hb, hm0, by unfold Hid; rw [Nat.zero_add, Nat.mod_mul_mod], rfl⟩
  case round =>
    obtain ⟨c, d, o, n, rfl, rfl, rfl, hc, hd, ho, HI, HW⟩ := hrel
    by_cases h0 : 0 < d
    · obtain ⟨t, ht⟩ : ∃ t, (c + c) % m = t := ⟨_, rfl⟩
      have HQ : Ans 48 #[.int .u64 c, .int .u64 c, .int .u64 m] (.int .u64 (t : Int)) := ht ▸ radd_any c c m (by omega) (by omega) hm hm0
      have htl : t < m := ht ▸ Nat.mod_lt _ hm0
      by_cases h1 : d % 2 = 1
      · have h2 : ((d : Int) % 2 == 1) = true := by simp; omega
        have HS := rmul_step_odd o c d m h1
        obtain ⟨q, hq⟩ : ∃ q, (o + c) % m = q := ⟨_, rfl⟩
        have HM : Ans 48 #[.int .u64 o, .int .u64 c, .int .u64 m] (.int .u64 (q : Int)) := hq ▸ radd_any o c m (by omega) (by omega) hm hm0
        rw [hq, ht] at HS
        replace HS : Hid ((q + t * (d / 2)) % m = a * b % m) := HS.trans HI.out
        have hql : q < m := hq ▸ Nat.mod_lt _ hm0
        clear hq ht
        go_wp2_with (first | (go_at_call 48; with_reducible refine Ans.use HM _ fun n1 => ?_) | (go_at_call 48; with_reducible refine Ans.use HQ _ fun n2 => ?_))
        go_roundw
        case rel => exact ⟨t, d / 2, q, n + n1 + n2, rfl, by go_num, rfl, htl, by omega, hql, HS, rfl⟩
        case measure => simp [intOf]; omega
      · have h2 : ((d : Int) % 2 == 1) = false := by simp; omega
        have HS := rmul_step_even o c d m h1
        rw [ht] at HS
        replace HS : Hid ((o + t * (d / 2)) % m = a * b % m) := HS.trans HI.out
        clear ht
        go_wp2_with (go_at_call 48; with_reducible refine Ans.use HQ _ fun n2 => ?_)
        go_roundw
        case rel => exact ⟨t, d / 2, o, n + n2, rfl, by go_num, rfl, htl, by omega, ho, HS, rfl⟩
        case measure => simp [intOf]; omega
    · obtain rfl : d = 0 := by omega
      have HE : Hid (o = a * b % m) := by
        have h := HI.out
        rw [Nat.mul_zero, Nat.add_zero, Nat.mod_eq_of_lt ho] at h
        exact h
      clear HI
      go_wp2
      go_ret
      exact ⟨ret_int (by rw [HE.out]), n, rfl⟩

/-! ### The document's powers -/
theorem rpow_walk0 (a m : Int) (hm0 : 0 < m) (hm : m < 18446744073709551616) : Ans 47 #[.int .u64 a, .int .u64 0, .int .u64 m] (.int .u64 (1 % m)) := by
  intro w
  have hm1 : (m == 0) = false := by simp; omega
  go_enter Tryz.func47, Tryz.ntmps47
  go_wp2
  go_ret
  exact ⟨rfl, 0, rfl⟩
theorem rpow_walkO (a e m h s r : Int) (he0 : 0 < e) (he : e < 18446744073709551616) (hodd : (e % 2 == 1) = true)
    (HP : Ans 47 #[.int .u64 a, .int .u64 (e / 2), .int .u64 m] (.int .u64 h))
    (HM : Ans 29 #[.int .u64 h, .int .u64 h, .int .u64 m] (.int .u64 s))
    (HQ : Ans 29 #[.int .u64 s, .int .u64 a, .int .u64 m] (.int .u64 r)) : Ans 47 #[.int .u64 a, .int .u64 e, .int .u64 m] (.int .u64 r) := by
  intro w
  have he1 : (e == 0) = false := by simp; omega
  go_enter Tryz.func47, Tryz.ntmps47
  go_wp2_with (first | (go_at_call 47; with_reducible refine Ans.use HP _ fun n1 => ?_) | (go_at_call 29; with_reducible refine Ans.use HM _ fun n2 => ?_) | (go_at_call 29; with_reducible refine Ans.use HQ _ fun n3 => ?_))
  go_ret
  exact ⟨rfl, _, rfl⟩
theorem rpow_walkE (a e m h s : Int) (he0 : 0 < e) (he : e < 18446744073709551616) (hodd : (e % 2 == 1) = false)
    (HP : Ans 47 #[.int .u64 a, .int .u64 (e / 2), .int .u64 m] (.int .u64 h))
    (HM : Ans 29 #[.int .u64 h, .int .u64 h, .int .u64 m] (.int .u64 s)) : Ans 47 #[.int .u64 a, .int .u64 e, .int .u64 m] (.int .u64 s) := by
  intro w
  have he1 : (e == 0) = false := by simp; omega
  go_enter Tryz.func47, Tryz.ntmps47
  go_wp2_with (first | (go_at_call 47; with_reducible refine Ans.use HP _ fun n1 => ?_) | (go_at_call 29; with_reducible refine Ans.use HM _ fun n2 => ?_))
  go_ret
  exact ⟨rfl, _, rfl⟩
theorem rpow_odd (a e m : Nat) (h : e % 2 = 1) : ((a ^ (e / 2) % m) * (a ^ (e / 2) % m) % m) * a % m = a ^ e % m := by
  conv => rhs; rw [show e = e / 2 + e / 2 + 1 by omega]
  rw [Nat.pow_succ, Nat.pow_add, ← Nat.mul_mod, Nat.mod_mul_mod]
theorem rpow_even (a e m : Nat) (h : ¬ e % 2 = 1) : (a ^ (e / 2) % m) * (a ^ (e / 2) % m) % m = a ^ e % m := by
  conv => rhs; rw [show e = e / 2 + e / 2 by omega]
  rw [Nat.pow_add, ← Nat.mul_mod]
/-- The document's power. -/
theorem rpow_any (a m : Nat) (ha : a < 18446744073709551616) (hm : m < 18446744073709551616) (hm0 : 0 < m) : ∀ (e : Nat), e < 18446744073709551616 →
    Ans 47 #[.int .u64 a, .int .u64 e, .int .u64 m] (.int .u64 ((a ^ e % m : Nat) : Int)) := by
  intro e
  induction e using Nat.strongRecOn with
  | ind e ih =>
    intro he
    by_cases h0 : e = 0
    · subst h0
      exact ans_int (rpow_walk0 a m (by omega) (by omega)) (by simp)
    · have HP := ih (e / 2) (by omega) (by omega)
      have l1 := Nat.mod_lt (a ^ (e / 2)) hm0
      have l2 := Nat.mod_lt ((a ^ (e / 2) % m) * (a ^ (e / 2) % m)) hm0
      have HM := rmul_any (a ^ (e / 2) % m) (a ^ (e / 2) % m) m (by omega) (by omega) hm hm0
      have HP' : Ans 47 #[.int .u64 a, .int .u64 ((e : Int) / 2), .int .u64 m] (.int .u64 ((a ^ (e / 2) % m : Nat) : Int)) := by
        rw [show (e : Int) / 2 = ((e / 2 : Nat) : Int) by omega]; exact HP
      by_cases h1 : e % 2 = 1
      · have HQ := rmul_any ((a ^ (e / 2) % m) * (a ^ (e / 2) % m) % m) a m (by omega) ha hm hm0
        exact ans_int (rpow_walkO a e m _ _ _ (by omega) (by omega) (by simp; omega) HP' HM HQ) (by rw [rpow_odd a e m h1])
      · exact ans_int (rpow_walkE a e m _ _ (by omega) (by omega) (by simp; omega) HP' HM) (by rw [rpow_even a e m h1])

end Go.Proofs.YtpjfapibjihbbaaGreatDoor
/-
  The contract of the document's Right.
-/
namespace Go.Proofs.YtpjfapibjihbbaaGreatDoor
set_option linter.unusedVariables false
open Go.RowKit

/-- What the first test asks of an entry, and of the one ahead: as the walk reads it. -/
structure Head (W : World) (b o i : Nat) (p q r : Int) (c1 c2 c3 c4 c5 : Bool) : Prop where
  p0 : 0 ≤ p
  p1 : p < 18446744073709551616
  r1 : p % 2 = r
  r2 : Int.tmod p 2 = r
  r3 : IntKind.u64.wrap r = r
  e1 : (r == 0) = c1
  e2 : decide (p < 3) = c2
  e3 : decide (9223372036854775807 < p) = c3
  e4 : decide (0 < i) = c4
  e5 : decide (p ≤ q) = c5

set_option maxHeartbeats 1000000 in
set_option maxRecDepth 20000 in
theorem rr_head_bad (W : World) (b o i L C : Nat) (p g q r : Int) (A' : Option Addr) (fl C' : Nat) (j : Nat) (c1 c2 c3 c4 c5 : Bool) (Hd : Head W b o i p q r c1 c2 c3 c4 c5)
    (hi : (i : Int) < L) (hL : (L : Int) ≤ 9223372036854775807) (hb : b < W.heap.size) (hj : c4 = true → (i : Int) - 1 = j ∧ (j : Int) < L ∧ W.cell? ⟨b, o + j * 3, none⟩ = some (.int .u64 q))
    (d0 : W.cell? ⟨b, o + i * 3, none⟩ = some (.int .u64 p)) (d1 : W.cell? ⟨b, o + i * 3 + 1, none⟩ = some (.int .u64 g)) (d2 : W.cell? ⟨b, o + i * 3 + 2, none⟩ = some (.slice A' fl C'))
    (h : c1 = true ∨ (c1 = false ∧ c2 = true) ∨ (c1 = false ∧ c2 = false ∧ c3 = true) ∨ (c1 = false ∧ c2 = false ∧ c3 = false ∧ c4 = true ∧ c5 = true)) :
    AnsB W 52 #[.slice (some ⟨b, o, none⟩) L C, .int .i64 (i : Int)] (.bool false) := by
  intro w hw
  obtain ⟨p0, p1, r1, r2, r3, e1, e2, e3, e4, e5⟩ := Hd
  have d0' := keep_cell hw hb d0
  have d1' := keep_cell hw hb d1
  have d2' := keep_cell hw hb d2
  obtain ⟨t0, t1, t2⟩ := three_cells w (.int .u64 p) (.int .u64 g) (.slice A' fl C') 71
  obtain ⟨V, hV⟩ : ∃ V, w.alloc (.cells #[.int .u64 p, .int .u64 g, .slice A' fl C'] 71) = V := ⟨_, rfl⟩
  have hBV : Below w.heap.size w V := hV ▸ below_alloc _ _
  rw [hV] at t0 t1 t2
  have hqc : c4 = true → V.cell? ⟨b, o + j * 3, none⟩ = some (.int .u64 q) := fun h4 => keep_cell (bb hw hBV) hb (hj h4).2.2
  clear d0 d1 d2
  rcases h with rfl | ⟨rfl, rfl⟩ | ⟨rfl, rfl, rfl⟩ | ⟨rfl, rfl, rfl, rfl, rfl⟩
  · clear hj hqc e4 e5 e2 e3
    go_enter Tryz.func52, Tryz.ntmps52
    go_wp2
    go_quiet ((fail))
    go_wp2
    go_ret
    exact ⟨rfl, bb hBV (below_drewN _ _)⟩
  · clear hj hqc e4 e5 e3
    go_enter Tryz.func52, Tryz.ntmps52
    go_wp2
    go_quiet ((fail))
    go_wp2
    go_ret
    exact ⟨rfl, bb hBV (below_drewN _ _)⟩
  · clear hj hqc e4 e5
    go_enter Tryz.func52, Tryz.ntmps52
    go_wp2
    go_quiet ((fail))
    go_wp2
    go_ret
    exact ⟨rfl, bb hBV (below_drewN _ _)⟩
  · obtain ⟨j1, j2, _⟩ := hj rfl
    have hq' := hqc rfl
    clear hj hqc
    go_enter Tryz.func52, Tryz.ntmps52
    go_wp2
    go_quiet ((fail))
    go_wp2
    go_ret
    exact ⟨rfl, bb hBV (below_drewN _ _)⟩
end Go.Proofs.YtpjfapibjihbbaaGreatDoor

/-
  The known primes' rows are right.
-/
import Derived.Test.YtpjfapibjihbbaaGreatDoorF17
namespace Go.Proofs.YtpjfapibjihbbaaGreatDoor
set_option linter.unusedVariables false
open Go.RowKit

/-! ### Powers by squaring, to be reckoned -/
def pm (m : Nat) : Nat → Nat → Nat → Nat
  | 0, _, _ => 1 % m
  | f + 1, a, e => if e = 0 then 1 % m else if e % 2 = 1 then a * pm m f (a * a % m) (e / 2) % m else pm m f (a * a % m) (e / 2)
theorem pm_eq (m : Nat) : ∀ (f a e : Nat), e < 2 ^ f → pm m f a e = a ^ e % m
  | 0, a, e, h => by
    obtain rfl : e = 0 := by simpa using h
    rw [pm, Nat.pow_zero]
  | f + 1, a, e, h => by
    have h2 : e / 2 < 2 ^ f := by rw [Nat.pow_succ] at h; omega
    have ih := pm_eq m f (a * a % m) (e / 2) h2
    rw [pm, ih, ← Nat.pow_mod, ← Nat.pow_two, ← Nat.pow_mul]
    by_cases h0 : e = 0
    · subst h0; rw [if_pos rfl, Nat.pow_zero]
    · rw [if_neg h0]
      by_cases h1 : e % 2 = 1
      · rw [if_pos h1, Nat.mul_mod_mod, Nat.mul_comm a, ← Nat.pow_succ]
        congr 2; omega
      · rw [if_neg h1]
        congr 2; omega
theorem one_at {x : En} {e : Nat} (b : Bool) (he : e < 2 ^ 64) (h : (pm x.p 64 x.g e == 1) = b) : oneAt x e = b := by
  unfold oneAt; rw [← pm_eq x.p 64 x.g e he]; exact h
theorem gen_true {x : En} (h1 : 2 ≤ x.g) (h2 : x.g < x.p) (h3 : oneAt x (x.p - 1) = true) (h4 : ∀ f ∈ x.fs, oneAt x ((x.p - 1) / f.q) = false) : generatesB x = true := by
  unfold generatesB
  rw [if_neg (by omega), if_pos h3, Bool.not_eq_true', List.any_eq_false]
  intro f hf
  rw [h4 f hf]; simp

/-! ### One behind the other -/
def RightRow (es : List En) : Prop := es.length ≤ 32 ∧ checkO es = none
theorem RightRow.check {es : List En} (h : RightRow es) : checkV es = .tuple #[.int .i64 0, .int .i64 0] := by
  unfold checkV; rw [if_neg (by have := h.1; omega), h.2]
theorem rightRow_of {es : List En} (h : checkV es = .tuple #[.int .i64 0, .int .i64 0]) : RightRow es := by
  unfold checkV at h
  by_cases hl : 32 < es.length
  · rw [if_pos hl] at h; cases h
  · rw [if_neg hl] at h
    cases ho : checkO es with
    | none => exact ⟨by omega, ho⟩
    | some k => rw [ho] at h; cases h
theorem RightRow.snoc {es : List En} {x : En} (h : RightRow es) (hl : es.length < 32) (hx : rightB es x = true) : RightRow (es ++ [x]) := by
  refine ⟨by simp; omega, check_none fun j hj => ?_⟩
  rw [List.length_append, List.length_singleton] at hj
  by_cases e : j < es.length
  · have := check_all h.2 j e
    unfold badAt at this ⊢
    rw [List.getElem?_append_left e, List.take_append_of_le_length (by omega)]
    exact this
  · obtain rfl : j = es.length := by omega
    unfold badAt
    rw [List.getElem?_append_right (Nat.le_refl _), Nat.sub_self]
    simp [hx]
theorem rright_of {es : List En} {x : En} (h1 : Gd x.p) (h2 : climbsB es x.p = true) (h3 : factoredB es x = true) (h4 : generatesB x = true) : rightB es x = true := by
  unfold rightB
  rw [@decide_eq_true _ (gdDec x.p) h1, h2, h3, h4]; rfl
theorem rparts {es : List En} {x : En} (h : rightB es x = true) : Gd x.p ∧ climbsB es x.p = true ∧ factoredB es x = true ∧ generatesB x = true := by
  unfold rightB at h
  rw [Bool.and_eq_true, Bool.and_eq_true, Bool.and_eq_true] at h
  exact ⟨@of_decide_eq_true _ (gdDec x.p) h.1, h.2.1, h.2.2.1, h.2.2.2⟩
theorem row_end {p : Nat} (hp : Odd16 p) : (rowOf p).getLast? = some (enOf p) := by
  obtain ⟨k, h1, h2, _⟩ := row_last hp
  rw [List.getLast?_eq_getElem?, row_len, h1, Nat.add_sub_cancel, rowOf, List.getElem?_map, h2]; rfl
theorem row_any_p {p : Nat} (hp : Odd16 p) : ((rowOf p).any fun y => y.p == p) = true := by
  rw [List.any_eq_true]
  exact ⟨enOf p, List.mem_of_getLast? (row_end hp), by simp [enOf]⟩
theorem fac_done (es : List En) (i left last : Nat) (f : Pw) (fs : List Pw) (r : Nat) (h1 : last < f.q) (h2 : knownB es i f.q = true) (h3 : without left f.q f.e = some r) (h4 : facLoop es (i + 1) r f.q fs = true) : facLoop es i left last (f :: fs) = true := by
  rw [fac_some es i _ last _ f _ (by omega) h2 h3]; exact h4
theorem known_mono {es fs : List En} {i q : Nat} (h : knownB es i q = true) : knownB (fs ++ es) i q = true := by
  unfold knownB at h ⊢
  by_cases hi : i = 0
  · rw [if_pos hi] at h ⊢; exact h
  · rw [if_neg hi] at h ⊢
    rw [List.any_append, h]; simp
theorem fac_mono (es fs : List En) : ∀ (l : List Pw) (i left last : Nat), facLoop es i left last l = true → facLoop (fs ++ es) i left last l = true
  | [], i, left, last, h => h
  | f :: l, i, left, last, h => by
    by_cases h1 : f.q ≤ last
    · rw [facLoop, if_pos h1] at h; cases h
    · by_cases h2 : knownB es i f.q = true
      · cases hw : without left f.q f.e with
        | none => rw [facLoop, if_neg h1, if_neg (by simp [h2]), hw] at h; cases h
        | some r =>
          rw [facLoop, if_neg h1, if_neg (by simp [h2]), hw] at h
          exact fac_done _ i left last f l r (by omega) (known_mono h2) hw (fac_mono es fs l _ _ _ h)
      · rw [facLoop, if_neg h1, if_pos (by simpa using h2)] at h; cases h

/-! ### Small primes -/
theorem prm_of (p : Nat) (h2 : 2 ≤ p) (h : (List.range p).all (fun d => decide (d < 2) || decide (p % d ≠ 0)) = true) : Prm p := by
  refine ⟨h2, fun d hd => ?_⟩
  have hle := Nat.le_of_dvd (by omega) hd
  by_cases e : d = p
  · exact Or.inr e
  · have := List.all_eq_true.1 h d (List.mem_range.2 (by omega))
    simp only [Bool.or_eq_true, decide_eq_true_eq] at this
    rcases this with h' | h'
    · have : d ≠ 0 := fun h0 => by subst h0; have := Nat.eq_zero_of_zero_dvd hd; omega
      omega
    · exact absurd (Nat.mod_eq_zero_of_dvd hd) h'
theorem odd3 : Odd16 3 := ⟨prm_of 3 (by omega) (by decide), by omega, by omega⟩
theorem odd5 : Odd16 5 := ⟨prm_of 5 (by omega) (by decide), by omega, by omega⟩
theorem odd7 : Odd16 7 := ⟨prm_of 7 (by omega) (by decide), by omega, by omega⟩
theorem odd29 : Odd16 29 := ⟨prm_of 29 (by omega) (by decide), by omega, by omega⟩
theorem rowL_five : rowL 5 = [5] := by
  have hm : ∀ x, x ∈ rowL 5 ↔ x ∈ [5] := fun x => by
    rw [mem_rowL odd5, List.mem_singleton]
    refine ⟨fun h => h.ind (· = 5) rfl fun r q _ hr hq h2 hd => ?_, fun h => h ▸ Cl.self⟩
    subst hr
    have : q ∣ 2 * 2 := hd
    exfalso
    rcases hq.prod 2 2 (Nat.mod_eq_zero_of_dvd this) with e | e <;>
      (have := Nat.le_of_dvd (by omega) (Nat.dvd_of_mod_eq_zero e); have := hq.1; omega)
  exact sorted_ext (rowL_sorted 5) (List.pairwise_singleton _ _) hm
theorem small_row {p : Nat} (hp : Odd16 p) : RightRow (rowOf p) := rightRow_of (row_checks hp)
/-- A prime behind a small one's row. -/
theorem right_behind {q : Nat} (hq : Odd16 q) (x : En) (e : Nat) (k : Nat) (hx : x.fs = [⟨2, e⟩, ⟨q, k⟩]) (hp : Gd x.p) (hlt : q < x.p) (hw : without (x.p - 1) 2 e = some (q ^ k)) (hk : without (q ^ k) q k = some 1) (hg : generatesB x = true) : RightRow (rowOf q ++ [x]) := by
  have hl := rowL_few hq
  have h3 := hq.2.1
  refine (small_row hq).snoc (by rw [row_len]; omega) (rright_of hp ?_ ?_ hg)
  · unfold climbsB; rw [row_end hq]; exact decide_eq_true hlt
  · unfold factoredB
    rw [hx, if_neg (by simp)]
    refine fac_done _ 0 _ 0 _ _ (q ^ k) (by show 0 < 2; omega) rfl hw (fac_done _ 1 _ 2 _ _ 1 (by show 2 < q; omega) ?_ hk rfl)
    show knownB _ 1 q = true
    unfold knownB
    rw [if_neg (by omega)]; exact row_any_p hq

/-! ### The six rows -/
theorem kn_gen0 : generatesB (kn 0) = true := gen_true (by decide) (by decide) (one_at true (by decide) (by decide +kernel)) (by intro f hf; simp [kn, knFs] at hf; rcases hf with rfl | rfl <;> exact one_at false (by decide) (by decide +kernel))
theorem kn_gen1 : generatesB (kn 1) = true := gen_true (by decide) (by decide) (one_at true (by decide) (by decide +kernel)) (by intro f hf; simp [kn, knFs] at hf; rcases hf with rfl | rfl <;> exact one_at false (by decide) (by decide +kernel))
theorem kn_gen2 : generatesB (kn 2) = true := gen_true (by decide) (by decide) (one_at true (by decide) (by decide +kernel)) (by intro f hf; simp [kn, knFs] at hf; rcases hf with rfl | rfl <;> exact one_at false (by decide) (by decide +kernel))
theorem kn_gen3 : generatesB (kn 3) = true := gen_true (by decide) (by decide) (one_at true (by decide) (by decide +kernel)) (by intro f hf; simp [kn, knFs] at hf; rcases hf with rfl | rfl | rfl <;> exact one_at false (by decide) (by decide +kernel))
theorem kn_gen4 : generatesB (kn 4) = true := gen_true (by decide) (by decide) (one_at true (by decide) (by decide +kernel)) (by intro f hf; simp [kn, knFs] at hf; rcases hf with rfl | rfl <;> exact one_at false (by decide) (by decide +kernel))
theorem kn_gen5 : generatesB (kn 5) = true := gen_true (by decide) (by decide) (one_at true (by decide) (by decide +kernel)) (by intro f hf; simp [kn, knFs] at hf; rcases hf with rfl | rfl <;> exact one_at false (by decide) (by decide +kernel))
theorem kn_gd (i : Nat) (h : i ≤ 5) : Gd (kn i).p := by
  rcases (show i = 0 ∨ i = 1 ∨ i = 2 ∨ i = 3 ∨ i = 4 ∨ i = 5 by omega) with rfl | rfl | rfl | rfl | rfl | rfl <;> exact ⟨by decide, by decide, by decide⟩
theorem kn_row0 : RightRow (rowOf 29 ++ [kn 0]) := right_behind odd29 (kn 0) 57 1 rfl (kn_gd 0 (by omega)) (by decide) (by decide) (by decide) kn_gen0
theorem kn_row1 : RightRow (rowOf 3 ++ [kn 1]) := right_behind odd3 (kn 1) 56 3 rfl (kn_gd 1 (by omega)) (by decide) (by decide) (by decide) kn_gen1
theorem kn_row2 : RightRow (rowOf 5 ++ [kn 2]) := right_behind odd5 (kn 2) 55 1 rfl (kn_gd 2 (by omega)) (by decide) (by decide) (by decide) kn_gen2
theorem kn_row4 : RightRow (rowOf 7 ++ [kn 4]) := right_behind odd7 (kn 4) 26 1 rfl (kn_gd 4 (by omega)) (by decide) (by decide) (by decide) kn_gen4
theorem kn_row5 : RightRow (rowOf 5 ++ [kn 5]) := right_behind odd5 (kn 5) 25 1 rfl (kn_gd 5 (by omega)) (by decide) (by decide) (by decide) kn_gen5
theorem rowOf_five : rowOf 5 = [enOf 5] := by unfold rowOf; rw [rowL_five]; rfl
theorem kn_row3 : RightRow (rowOf 3 ++ rowOf 5 ++ [kn 3]) := by
  have hl := rowL_few odd3
  have h5 : rightB (rowOf 3) (enOf 5) = true := by
    have := row_right odd5 (k := 0) (q := 5) (by rw [rowL_five]; rfl)
    obtain ⟨a, b, c, d⟩ := rparts this
    refine rright_of a ?_ ?_ d
    · unfold climbsB; rw [row_end odd3]; exact decide_eq_true (show 3 < 5 by omega)
    · unfold factoredB at c ⊢
      by_cases h : (enOf 5).fs.length < 1 ∨ 16 < (enOf 5).fs.length
      · rw [if_pos h] at c; cases c
      · rw [if_neg h] at c ⊢
        have := fac_mono _ (rowOf 3) _ _ _ _ c
        rwa [List.take_zero, List.append_nil] at this
  rw [rowOf_five]
  have hr := (small_row odd3).snoc (by rw [row_len]; omega) h5
  have hlast : (rowOf 3 ++ [enOf 5]).getLast? = some (enOf 5) := by simp
  refine hr.snoc (by rw [List.length_append, row_len, List.length_singleton]; omega) (rright_of (kn_gd 3 (by omega)) ?_ ?_ kn_gen3)
  · unfold climbsB; rw [hlast]; exact decide_eq_true (show 5 < _ by decide)
  · unfold factoredB
    rw [if_neg (by decide)]
    refine fac_done _ 0 _ 0 _ _ 45 (by decide) rfl (by decide) (fac_done _ 1 _ 2 _ _ 5 (by decide) ?_ (by decide) (fac_done _ 2 _ 3 _ _ 1 (by decide) ?_ (by decide) rfl))
    · unfold knownB; rw [if_neg (by omega), List.any_append, row_any_p odd3]; rfl
    · unfold knownB; rw [if_neg (by omega), List.any_append]; simp [enOf]
/-- The row that proves a known prime. -/
noncomputable def knRow (i : Nat) : List En := rowsTo (knFs i).tail ++ [kn i]
theorem kn_row (i : Nat) (h : i ≤ 5) : RightRow (knRow i) := by
  unfold knRow rowsTo
  rcases (show i = 0 ∨ i = 1 ∨ i = 2 ∨ i = 3 ∨ i = 4 ∨ i = 5 by omega) with rfl | rfl | rfl | rfl | rfl | rfl
  · simpa [knFs] using kn_row0
  · simpa [knFs] using kn_row1
  · simpa [knFs] using kn_row2
  · simpa [knFs] using kn_row3
  · simpa [knFs] using kn_row4
  · simpa [knFs] using kn_row5
/-- P rises in a right row. -/
theorem climbs_lt {es : List En} (h : RightRow es) : ∀ (k j : Nat) (x y : En), j < k → es[j]? = some y → es[k]? = some x → y.p < x.p := by
  intro k
  induction k with
  | zero => intro j x y hj; omega
  | succ k ih =>
    intro j x y hj hy hx
    have hk := (List.getElem?_eq_some_iff.1 hx).1
    have hb := check_all h.2 (k + 1) hk
    rw [bad_some hx] at hb
    obtain ⟨_, hc, _, _⟩ := rparts (by simpa using hb)
    obtain ⟨z, hz⟩ : ∃ z, es[k]? = some z := ⟨_, List.getElem?_eq_getElem (by omega)⟩
    have hl : (es.take (k + 1)).getLast? = some z := by
      rw [List.getLast?_eq_getElem?, List.length_take, Nat.min_eq_left (by omega), Nat.add_sub_cancel, List.getElem?_take, if_pos (by omega)]; exact hz
    unfold climbsB at hc
    rw [hl] at hc
    have hzx : z.p < x.p := by simpa using hc
    by_cases e : j = k
    · subst e; rw [hz] at hy; cases hy; exact hzx
    · have := ih j z y (by omega) hy hz; omega
theorem RightRow.find {es : List En} (h : RightRow es) {k : Nat} {x : En} (hx : es[k]? = some x) : (es.findIdx? fun y => y.p == x.p) = some k := by
  refine found (x := x) hx (by simp) fun j y hj hy => ?_
  have := climbs_lt h k j x y hj hy hx
  rw [beq_eq_false_iff_ne]; omega
theorem RightRow.luc {es : List En} (h : RightRow es) {k : Nat} {x : En} (hx : es[k]? = some x) : Gd x.p ∧ x.g < x.p ∧ 2 ≤ x.g ∧ Luc x.p x.g (lucL x) ∧ x.fs.length ≤ 16 := by
  have hk := (List.getElem?_eq_some_iff.1 hx).1
  have hb := check_all h.2 k hk
  rw [bad_some hx] at hb
  obtain ⟨a, b, c, d⟩ := rparts (by simpa using hb)
  refine ⟨a, ?_, ?_, row_luc h.2 k x hx, ?_⟩
  · unfold generatesB at d
    by_cases e : x.g < 2 ∨ x.p ≤ x.g
    · rw [if_pos e] at d; cases d
    · omega
  · unfold generatesB at d
    by_cases e : x.g < 2 ∨ x.p ≤ x.g
    · rw [if_pos e] at d; cases d
    · omega
  · unfold factoredB at c
    by_cases e : x.fs.length < 1 ∨ 16 < x.fs.length
    · rw [if_pos e] at c; cases c
    · omega
theorem knRow_last (i : Nat) : (knRow i)[(rowsTo (knFs i).tail).length]? = some (kn i) := by unfold knRow; simp
end Go.Proofs.YtpjfapibjihbbaaGreatDoor

/-
  Plain mathematics of layer 9: radices, numbers whose digits are turned about, tables that have each number once. No condition.
-/
import Derived.Test.YtgmjbagomfegeaaSh0
namespace Go.Proofs.Ytgmjbagomfegeaa
set_option linter.unusedVariables false
open Go.RowKit

theorem below_dN {B : Nat} {w w' : World} (h : Below B w w') (n : Nat) : Below B w (w'.drewN n) := h.trans ⟨rfl, rfl, rfl, Nat.le_refl _, fun _ _ => rfl⟩

/-! ### Radices -/
structure Rad (rs : List Nat) : Prop where
  few : rs.length ≤ 12
  two : ∀ r ∈ rs, 2 ≤ r
  max : pr rs ≤ 4096
def isNo (zs : List Int) : Bool := zs.any fun z => decide (z < 2)
def rE (zs : List Int) : Int := if 12 < zs.length ∨ isNo zs = true then 1 else if (szGo 1 zs).isNone then 13 else 0
def rS (zs : List Int) : Int := if 12 < zs.length ∨ isNo zs = true then 0 else (((szGo 1 zs).getD 0 : Nat) : Int)
theorem r_many {zs : List Int} (h : 12 < zs.length) : rS zs = 0 ∧ rE zs = 1 := by simp [rS, rE, h]
theorem r_no {zs : List Int} (h : isNo zs = true) : rS zs = 0 ∧ rE zs = 1 := by simp [rS, rE, h]
theorem r_none {zs : List Int} (h : ¬ 12 < zs.length) (h2 : isNo zs = false) (k : szGo 1 zs = none) : rS zs = 0 ∧ rE zs = 13 := by simp [rS, rE, h, h2, k]
theorem r_some {zs : List Int} {s : Nat} (h : ¬ 12 < zs.length) (h2 : isNo zs = false) (k : szGo 1 zs = some s) : rS zs = s ∧ rE zs = 0 := by simp [rS, rE, h, h2, k]
theorem isNo_false {zs : List Int} (h : isNo zs = false) {i : Nat} {z : Int} (hz : zs[i]? = some z) : 2 ≤ z := by
  unfold isNo at h
  rw [List.any_eq_false] at h
  have := h z (List.mem_of_getElem? hz)
  simp at this
  exact this
theorem isNo_true {zs : List Int} {i : Nat} {z : Int} (hz : zs[i]? = some z) (h : z < 2) : isNo zs = true := by
  unfold isNo
  rw [List.any_eq_true]
  exact ⟨z, List.mem_of_getElem? hz, by simpa using h⟩
theorem isNo_none {zs : List Int} (h : ∀ i z, i < zs.length → zs[i]? = some z → ¬ z < 2) : isNo zs = false := by
  unfold isNo
  rw [List.any_eq_false]
  intro z hz
  obtain ⟨i, hi, rfl⟩ := List.getElem_of_mem hz
  have := h i _ hi (List.getElem?_eq_getElem hi)
  simpa using this
theorem rad_of {zs : List Int} (h : rE zs = 0) : ∃ rs, zs = ints rs ∧ Rad rs ∧ rS zs = (pr rs : Int) := by
  by_cases h1 : 12 < zs.length
  · rw [(r_many h1).2] at h; cases h
  by_cases h2 : isNo zs = true
  · rw [(r_no h2).2] at h; cases h
  have h2' : isNo zs = false := by simpa using h2
  cases h3 : szGo 1 zs with
  | none => rw [(r_none h1 h2' h3).2] at h; cases h
  | some s =>
    obtain ⟨rs, rfl, hp, ht, hm⟩ := szGo_some zs 1 s (by omega) (by omega) h3
    rw [Nat.one_mul] at ht
    subst ht
    refine ⟨rs, rfl, ⟨by simpa [ints] using h1, fun r hr => ?_, hm⟩, (r_some h1 h2' h3).1⟩
    obtain ⟨i, hi, rfl⟩ := List.getElem_of_mem hr
    have := isNo_false h2' (i := i) (z := ((rs[i] : Nat) : Int)) (by simp [ints, hi])
    omega
theorem r_not {zs : List Int} (h : rE zs ≠ 0) : rS zs = 0 := by
  by_cases h1 : 12 < zs.length
  · exact (r_many h1).1
  by_cases h2 : isNo zs = true
  · exact (r_no h2).1
  have h2' : isNo zs = false := by simpa using h2
  cases h3 : szGo 1 zs with
  | none => exact (r_none h1 h2' h3).1
  | some s => exact absurd (r_some h1 h2' h3).2 h
theorem szGo_ints : ∀ (rs : List Nat) (s : Nat), 1 ≤ s → (∀ r ∈ rs, 1 ≤ r) → s * pr rs ≤ 4096 → szGo s (ints rs) = some (s * pr rs)
  | [], s, _, _, _ => by simp [ints, szGo, pr]
  | r :: rs, s, h1, h2, h3 => by
    have hr := h2 r (List.mem_cons_self ..)
    have hp : 1 ≤ pr rs := pr_pos fun x hx => h2 x (List.mem_cons_of_mem _ hx)
    have e : s * pr (r :: rs) = s * r * pr rs := by rw [pr, Nat.mul_assoc]
    rw [e] at h3 ⊢
    have h4 : s * r ≤ 4096 := Nat.le_trans (Nat.le_mul_of_pos_right _ hp) h3
    show szGo s ((r : Int) :: ints rs) = _
    rw [szGo_ok, Int.toNat_natCast]
    · exact szGo_ints rs (s * r) (Nat.mul_le_mul h1 hr) (fun x hx => h2 x (List.mem_cons_of_mem _ hx)) h3
    · rw [not_or, ← Int.natCast_mul, Nat.mul_comm r s]; omega
theorem Rad.one {rs : List Nat} (h : Rad rs) : ∀ r ∈ rs, 1 ≤ r := fun r hr => by have := h.two r hr; omega
theorem r_rad {rs : List Nat} (h : Rad rs) : rS (ints rs) = (pr rs : Int) ∧ rE (ints rs) = 0 := by
  refine r_some (by simpa [ints] using h.few) (isNo_none fun i z hi hz hlt => ?_) ?_
  · have hi' : i < rs.length := by simpa [ints] using hi
    have e : z = (rs[i] : Int) := by simp [ints, hi'] at hz; exact hz.symm
    have := h.two rs[i] (List.getElem_mem hi')
    omega
  · have := szGo_ints rs 1 (by omega) h.one (by rw [Nat.one_mul]; exact h.max)
    rw [this, Nat.one_mul]

theorem wrS {x : Nat} (h : x ≤ 16777216) : wrap64 (x : Int) = x := by unfold wrap64; omega
theorem wrap_pred (k : Nat) (h : k ≤ 16777216 := by omega) : wrap64 ((k : Int) - 1) = (k : Int) - 1 := by unfold wrap64; omega
theorem wrA {a b : Nat} (h : a + b ≤ 16777216) : wrap64 ((a : Int) + (b : Int)) = ((a + b : Nat) : Int) := by rw [← Int.natCast_add]; exact wrS h

/-! ### Turned about -/
def tnA : List Nat → Nat → Nat → Nat
  | [], _, a => a
  | r :: rs, i, a => tnA rs (i / r) (a * r + i % r)
def tn (rs : List Nat) (i : Nat) : Nat := tnA rs i 0
theorem pr_append : ∀ (a b : List Nat), pr (a ++ b) = pr a * pr b
  | [], b => by simp [pr]
  | r :: a, b => by rw [List.cons_append, pr, pr, pr_append a b, Nat.mul_assoc]
theorem pr_reverse (a : List Nat) : pr a.reverse = pr a := by
  induction a with
  | nil => rfl
  | cons r a ih => rw [List.reverse_cons, pr_append, ih]; simp [pr, Nat.mul_comm]
theorem tnA_add : ∀ (rs : List Nat) (i a : Nat), tnA rs i a = a * pr rs + tn rs i
  | [], i, a => by simp [tnA, tn, pr]
  | r :: rs, i, a => by
    unfold tn
    rw [tnA, tnA, tnA_add rs _ (a * r + i % r), tnA_add rs _ (0 * r + i % r), pr]
    simp only [Nat.zero_mul, Nat.zero_add, Nat.add_mul]
    rw [Nat.mul_assoc, Nat.add_assoc]
theorem tn_cons (r : Nat) (rs : List Nat) (i : Nat) : tn (r :: rs) i = i % r * pr rs + tn rs (i / r) := by
  unfold tn; rw [tnA, tnA_add]; simp [tn]
theorem tn_lt : ∀ (rs : List Nat) (i : Nat), (∀ r ∈ rs, 1 ≤ r) → tn rs i < pr rs
  | [], i, _ => by simp [tn, tnA, pr]
  | r :: rs, i, h => by
    have hr := h r (List.mem_cons_self ..)
    have h1 := tn_lt rs (i / r) fun x hx => h x (List.mem_cons_of_mem _ hx)
    have h2 : i % r + 1 ≤ r := Nat.mod_lt _ hr
    rw [tn_cons, pr]
    calc i % r * pr rs + tn rs (i / r) < i % r * pr rs + pr rs := by omega
      _ = (i % r + 1) * pr rs := by rw [Nat.add_mul, Nat.one_mul]
      _ ≤ r * pr rs := Nat.mul_le_mul_right _ h2
theorem tnA_append : ∀ (a b : List Nat) (i x : Nat), tnA (a ++ b) i x = tnA b (i / pr a) (tnA a i x)
  | [], b, i, x => by simp [tnA, pr]
  | r :: a, b, i, x => by rw [List.cons_append, tnA, tnA_append a b, tnA, pr, Nat.div_div_eq_div_mul]
theorem tn_append (a b : List Nat) (i : Nat) : tn (a ++ b) i = tn a i * pr b + tn b (i / pr a) := by
  unfold tn; rw [tnA_append, tnA_add]; rfl
theorem tn_mod : ∀ (rs : List Nat) (x y : Nat), (∀ r ∈ rs, 1 ≤ r) → tn rs (x * pr rs + y) = tn rs y
  | [], x, y, _ => rfl
  | r :: rs, x, y, h => by
    have hr := h r (List.mem_cons_self ..)
    rw [tn_cons, tn_cons, pr]
    have e : x * (r * pr rs) + y = y + r * (x * pr rs) := by rw [Nat.add_comm, Nat.mul_left_comm]
    rw [e, Nat.add_mul_mod_self_left, Nat.add_mul_div_left _ _ hr, Nat.add_comm (y / r), tn_mod rs _ _ fun x hx => h x (List.mem_cons_of_mem _ hx)]
theorem tn_back : ∀ (rs : List Nat) (i : Nat), (∀ r ∈ rs, 1 ≤ r) → i < pr rs → tn rs.reverse (tn rs i) = i
  | [], i, _, h => by simp [pr] at h; subst h; rfl
  | r :: rs, i, h, hi => by
    have hr := h r (List.mem_cons_self ..)
    have h' : ∀ x ∈ rs, 1 ≤ x := fun x hx => h x (List.mem_cons_of_mem _ hx)
    have hrev : ∀ x ∈ rs.reverse, 1 ≤ x := fun x hx => h' x (List.mem_reverse.1 hx)
    have hlt := tn_lt rs (i / r) h'
    have hq : i / r < pr rs := by rw [Nat.div_lt_iff_lt_mul hr, Nat.mul_comm]; exact hi
    rw [List.reverse_cons, tn_append, tn_cons]
    have e1 : tn rs.reverse (i % r * pr rs + tn rs (i / r)) = i / r := by
      have := tn_mod rs.reverse (i % r) (tn rs (i / r)) hrev
      rw [pr_reverse] at this
      rw [this]
      exact tn_back rs (i / r) h' hq
    have e2 : (i % r * pr rs + tn rs (i / r)) / pr rs.reverse = i % r := by
      rw [pr_reverse, Nat.add_comm, Nat.add_mul_div_right _ _ (by omega), Nat.div_eq_of_lt hlt, Nat.zero_add]
    rw [e1, e2]
    simp only [tn, tnA, pr, Nat.mul_one]
    rw [Nat.mod_mod]
    have := Nat.div_add_mod i r
    rw [Nat.mul_comm] at this
    omega
theorem Rad.rev {rs : List Nat} (h : Rad rs) : Rad rs.reverse :=
  ⟨by rw [List.length_reverse]; exact h.few, fun r hr => h.two r (List.mem_reverse.1 hr), by rw [pr_reverse]; exact h.max⟩
theorem Rad.tn {rs : List Nat} (h : Rad rs) (i : Nat) : tn rs i < pr rs := tn_lt rs i h.one
theorem Rad.back {rs : List Nat} (h : Rad rs) {i : Nat} (hi : i < pr rs) : Proofs.Ytgmjbagomfegeaa.tn rs.reverse (Proofs.Ytgmjbagomfegeaa.tn rs i) = i := tn_back rs i h.one hi
theorem Rad.inj {rs : List Nat} (h : Rad rs) {i j : Nat} (hi : i < pr rs) (hj : j < pr rs) (he : Proofs.Ytgmjbagomfegeaa.tn rs i = Proofs.Ytgmjbagomfegeaa.tn rs j) : i = j := by
  rw [← h.back hi, he, h.back hj]
/-- The numbers on the way. -/
theorem pr_take_le {rs : List Nat} (h : ∀ r ∈ rs, 1 ≤ r) (k : Nat) : pr (rs.take k) ≤ pr rs := by
  have e := pr_append (rs.take k) (rs.drop k)
  rw [List.take_append_drop] at e
  have : 1 ≤ pr (rs.drop k) := pr_pos fun x hx => h x (List.mem_of_mem_drop hx)
  rw [e]
  exact Nat.le_mul_of_pos_right _ this
theorem tn_take {rs : List Nat} {k r : Nat} (hr : rs[k]? = some r) (i : Nat) : tn (rs.take (k + 1)) i = tn (rs.take k) i * r + i / pr (rs.take k) % r ∧ pr (rs.take (k + 1)) = pr (rs.take k) * r := by
  have e : rs.take (k + 1) = rs.take k ++ [r] := by rw [List.take_add_one, hr]; rfl
  rw [e, tn_append, pr_append]
  simp [tn, tnA, pr]
theorem tn_drop {rs : List Nat} {k r : Nat} (hr : rs[k]? = some r) (i : Nat) : tn (rs.drop k) i = i % r * pr (rs.drop (k + 1)) + tn (rs.drop (k + 1)) (i / r) ∧ pr (rs.drop k) = r * pr (rs.drop (k + 1)) := by
  have e : rs.drop k = r :: rs.drop (k + 1) := drop_consZ hr
  rw [e]
  exact ⟨tn_cons _ _ _, rfl⟩

/-! ### Tables that have each number once -/
def Ev (n : Nat) (zs : List Int) : Prop := zs.length = n ∧ (∀ z ∈ zs, 0 ≤ z ∧ z < (n : Int)) ∧ zs.Nodup
def cb (zs : List Int) (n : Nat) : Nat := zs.countP fun z => decide (0 ≤ z ∧ z < (n : Int))
theorem cb_zero (zs : List Int) : cb zs 0 = 0 := by
  unfold cb
  rw [List.countP_eq_zero]
  intro z _
  simp only [decide_eq_true_eq]
  omega
theorem cb_succ : ∀ (zs : List Int) (n : Nat), cb zs (n + 1) = cb zs n + zs.count (n : Int)
  | [], n => by simp [cb]
  | z :: zs, n => by
    have ih := cb_succ zs n
    unfold cb at ih ⊢
    rw [List.countP_cons, List.countP_cons, List.count_cons, ih]
    by_cases h1 : z = (n : Int)
    · subst h1
      have a1 : decide (0 ≤ (n : Int) ∧ (n : Int) < ((n + 1 : Nat) : Int)) = true := by simp; omega
      have a2 : decide (0 ≤ (n : Int) ∧ (n : Int) < (n : Int)) = false := by simp
      rw [a1, a2]
      simp
      omega
    · have a1 : decide (0 ≤ z ∧ z < ((n + 1 : Nat) : Int)) = decide (0 ≤ z ∧ z < (n : Int)) := by
        apply decide_eq_decide.2; omega
      rw [a1]
      simp [h1]
      omega
theorem cb_le {zs : List Int} (h : ∀ k : Nat, zs.count (k : Int) ≤ 1) (m : Nat) : ∀ j, cb zs (m + j) ≤ cb zs m + j
  | 0 => Nat.le_refl _
  | j + 1 => by
    have := cb_le h m j
    have h1 := h (m + j)
    rw [← Nat.add_assoc, cb_succ]
    omega
theorem ev_once {zs : List Int} (h : Ev zs.length zs) (k : Nat) (hk : k < zs.length) : zs.count (k : Int) = 1 := by
  obtain ⟨_, hb, hn⟩ := h
  have h1 : ∀ k : Nat, zs.count (k : Int) ≤ 1 := fun k => List.nodup_iff_count.1 hn _
  have hall : cb zs zs.length = zs.length := by
    unfold cb
    rw [List.countP_eq_length]
    intro z hz
    simpa using hb z hz
  have h2 := cb_le h1 (k + 1) (zs.length - (k + 1))
  have h3 := cb_le h1 0 k
  rw [cb_zero] at h3; simp only [Nat.zero_add] at h3
  rw [show k + 1 + (zs.length - (k + 1)) = zs.length by omega, hall, cb_succ] at h2
  have := h1 k
  omega
theorem once_ev {zs : List Int} (h : ∀ k : Nat, k < zs.length → zs.count (k : Int) = 1) : Ev zs.length zs := by
  have hs : ∀ n, n ≤ zs.length → cb zs n = n := by
    intro n
    induction n with
    | zero => intro _; exact cb_zero zs
    | succ n ih => intro hn; rw [cb_succ, ih (by omega), h n (by omega)]
  have hall := hs zs.length (Nat.le_refl _)
  have hb : ∀ z ∈ zs, 0 ≤ z ∧ z < (zs.length : Int) := by
    have := List.countP_eq_length.1 (show zs.countP (fun z => decide (0 ≤ z ∧ z < (zs.length : Int))) = zs.length from hall)
    intro z hz
    simpa using this z hz
  refine ⟨rfl, hb, List.nodup_iff_count.2 fun z => ?_⟩
  by_cases hz : z ∈ zs
  · obtain ⟨h0, h1⟩ := hb z hz
    obtain ⟨n, rfl⟩ := Int.eq_ofNat_of_zero_le h0
    rw [h n (by omega)]
    exact Nat.le_refl _
  · rw [List.count_eq_zero.2 hz]; omega
def evB (n : Nat) (zs : List Int) : Bool := decide (zs.length = n ∧ (∀ z ∈ zs, 0 ≤ z ∧ z < (n : Int)) ∧ zs.Nodup)
theorem evB_true {n : Nat} {zs : List Int} (h : Ev n zs) : evB n zs = true := by unfold evB; exact decide_eq_true h
theorem evB_false {n : Nat} {zs : List Int} (h : ¬ Ev n zs) : evB n zs = false := by unfold evB; exact decide_eq_false h
theorem ev_iff {n : Nat} {zs : List Int} : evB n zs = true ↔ Ev n zs := by unfold evB; exact decide_eq_true_iff
theorem ev_wrong {n : Nat} {zs : List Int} {k : Nat} {z : Int} (hz : zs[k]? = some z) (h : z < 0 ∨ (n : Int) ≤ z) : ¬ Ev n zs := fun he => by
  have := he.2.1 z (List.mem_of_getElem? hz); omega
theorem ev_twice {n : Nat} {zs : List Int} {j k : Nat} {z : Int} (hz : zs[k]? = some z) (hj : j < k) (h : zs[j]? = some z) : ¬ Ev n zs := fun he => by
  obtain ⟨h1, e1⟩ := List.getElem?_eq_some_iff.1 hz
  obtain ⟨h2, e2⟩ := List.getElem?_eq_some_iff.1 h
  have := (List.getElem_inj (h₀ := h2) (h₁ := h1) he.2.2).1 (e2.trans e1.symm)
  omega
theorem ev_of {n : Nat} {zs : List Int} (hl : zs.length = n) (h1 : ∀ (j : Nat) (z : Int), zs[j]? = some z → 0 ≤ z ∧ z < (n : Int)) (h2 : ∀ (i j : Nat) (z : Int), i < j → zs[j]? = some z → zs[i]? = some z → False) : Ev n zs := by
  refine ⟨hl, fun z hz => ?_, ?_⟩
  · obtain ⟨i, hi, rfl⟩ := List.getElem_of_mem hz
    exact h1 i _ (List.getElem?_eq_getElem hi)
  · unfold List.Nodup
    rw [List.pairwise_iff_getElem]
    intro i j hi hj hij e
    exact h2 i j _ hij (List.getElem?_eq_getElem hj) (by rw [List.getElem?_eq_getElem hi, e])
end Go.Proofs.Ytgmjbagomfegeaa

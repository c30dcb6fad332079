/-
  Rows of ints as they lie in memory, shapes, and what a shape's size is: the program's and the document's. No condition.
-/
import Derived.Test.YtpjfapibjihbbaaGreatDoorF28
import Derived.BigQuiet
namespace Go.Proofs.YtpjfapibjihbbaaGreatDoor
set_option linter.unusedVariables false
open Go.RowKit

def I64 (z : Int) : Prop := -9223372036854775808 ≤ z ∧ z < 9223372036854775808

/-- A row of ints lies there. -/
structure ZAt (w : World) (A : Option Addr) (C : Nat) (zs : List Int) : Prop where
  cap : zs.length ≤ C
  max : C ≤ maxLen
  get : ∀ (i : Nat) (z : Int), zs[i]? = some z → ∃ b o, A = some ⟨b, o, none⟩ ∧ b < w.heap.size ∧ w.cell? ⟨b, o + i, none⟩ = some (.int .i64 z) ∧ I64 z
theorem ZAt.below {w w' : World} {A : Option Addr} {C : Nat} {zs : List Int} (h : ZAt w A C zs) (hb : Below w.heap.size w w') : ZAt w' A C zs := by
  refine ⟨h.cap, h.max, fun i f hf => ?_⟩
  obtain ⟨b, o, hA, hl, c0, k⟩ := h.get i f hf
  obtain ⟨hc, _⟩ := bcell hb
  exact ⟨b, o, hA, Nat.lt_of_lt_of_le hl hb.size, by rw [hc _ _ hl]; exact c0, k⟩
theorem ZAt.len {w : World} {A : Option Addr} {C : Nat} {zs : List Int} (h : ZAt w A C zs) : (zs.length : Int) ≤ 9223372036854775807 := by
  have := h.cap; have := h.max; unfold maxLen at this; omega

/-! ### Sizes -/
def szGo : Nat → List Int → Option Nat
  | s, [] => some s
  | s, z :: zs => if z < 1 ∨ 4096 < z * (s : Int) then none else szGo (s * z.toNat) zs
def sz (zs : List Int) : Option Nat := if 4 < zs.length then none else szGo 1 zs
def sizeV (zs : List Int) : Int := (((sz zs).getD 0 : Nat) : Int)
def errV (zs : List Int) : Int := if 4 < zs.length then 1 else if (sz zs).isNone then 5 else 0
theorem szGo_bad {s : Nat} {z : Int} {zs : List Int} (h : z < 1 ∨ 4096 < z * (s : Int)) : szGo s (z :: zs) = none := by rw [szGo, if_pos h]
theorem szGo_ok {s : Nat} {z : Int} {zs : List Int} (h : ¬ (z < 1 ∨ 4096 < z * (s : Int))) : szGo s (z :: zs) = szGo (s * z.toNat) zs := by rw [szGo, if_neg h]
/-- The product. -/
def pr : List Nat → Nat
  | [] => 1
  | d :: ds => d * pr ds
/-- A shape. -/
structure Shp (ds : List Nat) : Prop where
  few : ds.length ≤ 4
  pos : ∀ d ∈ ds, 1 ≤ d
  max : pr ds ≤ 4096
def ints (ds : List Nat) : List Int := ds.map Int.ofNat
theorem szGo_some : ∀ (zs : List Int) (s t : Nat), 1 ≤ s → s ≤ 4096 → szGo s zs = some t → ∃ ds, zs = ints ds ∧ (∀ d ∈ ds, 1 ≤ d) ∧ t = s * pr ds ∧ t ≤ 4096
  | [], s, t, h1, h2, h => by
    cases h
    exact ⟨[], rfl, by simp, by simp [pr], h2⟩
  | z :: zs, s, t, h1, h2, h => by
    by_cases hz : z < 1 ∨ 4096 < z * (s : Int)
    · rw [szGo_bad hz] at h; cases h
    · rw [szGo_ok hz] at h
      simp only [not_or, Int.not_lt] at hz
      obtain ⟨d, rfl⟩ := Int.eq_ofNat_of_zero_le (show 0 ≤ z by omega)
      have hd : 1 ≤ d := by omega
      have hm : s * d ≤ 4096 := by have := hz.2; rw [Int.mul_comm, ← Int.natCast_mul] at this; omega
      rw [Int.toNat_natCast] at h
      obtain ⟨ds, rfl, hp, ht, hl⟩ := szGo_some zs (s * d) t (Nat.mul_le_mul h1 hd) hm h
      refine ⟨d :: ds, rfl, ?_, ?_, hl⟩
      · intro x hx
        rcases List.mem_cons.1 hx with rfl | hx
        · exact hd
        · exact hp x hx
      · rw [ht, pr, Nat.mul_assoc]
theorem sz_some {zs : List Int} {s : Nat} (h : sz zs = some s) : ∃ ds, zs = ints ds ∧ Shp ds ∧ s = pr ds := by
  unfold sz at h
  split at h
  · cases h
  · rename_i hl
    obtain ⟨ds, rfl, hp, ht, hm⟩ := szGo_some zs 1 s (by omega) (by omega) h
    rw [Nat.one_mul] at ht
    exact ⟨ds, rfl, ⟨by simpa [ints] using hl, hp, by omega⟩, ht⟩
theorem pr_pos : ∀ {ds : List Nat}, (∀ d ∈ ds, 1 ≤ d) → 1 ≤ pr ds
  | [], _ => by simp [pr]
  | d :: ds, h => by
    have := pr_pos (ds := ds) fun x hx => h x (List.mem_cons_of_mem _ hx)
    exact Nat.mul_le_mul (h d (List.mem_cons_self ..)) this
theorem quo_lt {z : Int} {s : Nat} (h1 : 1 ≤ s) : Int.tdiv 4096 (s : Int) < z ↔ 4096 < z * (s : Int) := by
  have e : Int.tdiv 4096 (s : Int) = ((4096 / s : Nat) : Int) := rfl
  have hd : ∀ d : Nat, 4096 / s < d ↔ 4096 < d * s := fun d => Nat.div_lt_iff_lt_mul (by omega)
  rw [e]
  generalize 4096 / s = q at hd ⊢
  constructor
  · intro h
    have h0 : 0 ≤ z := by omega
    obtain ⟨d, rfl⟩ := Int.eq_ofNat_of_zero_le h0
    have := (hd d).1 (by omega)
    rw [← Int.natCast_mul]
    omega
  · intro h
    rcases Int.lt_or_le z 0 with hz | hz
    · have := Int.mul_nonneg (show 0 ≤ -z by omega) (show (0 : Int) ≤ s by omega)
      rw [Int.neg_mul] at this
      omega
    · obtain ⟨d, rfl⟩ := Int.eq_ofNat_of_zero_le hz
      rw [← Int.natCast_mul] at h
      have := (hd d).2 (by omega)
      omega
theorem drop_consZ {α : Type} {l : List α} {k : Nat} {x : α} (h : l[k]? = some x) : l.drop k = x :: l.drop (k + 1) := by
  obtain ⟨hk, rfl⟩ := List.getElem?_eq_some_iff.1 h
  exact List.drop_eq_getElem_cons hk
theorem sizeV_many {zs : List Int} (h : 4 < zs.length) : sizeV zs = 0 ∧ errV zs = 1 := by simp [sizeV, errV, sz, h]
theorem sizeV_none {zs : List Int} (h : ¬ 4 < zs.length) (k : szGo 1 zs = none) : sizeV zs = 0 ∧ errV zs = 5 := by simp [sizeV, errV, sz, h, k]
theorem sizeV_some {zs : List Int} {s : Nat} (h : ¬ 4 < zs.length) (k : szGo 1 zs = some s) : sizeV zs = s ∧ errV zs = 0 := by simp [sizeV, errV, sz, h, k]
theorem ret_two {a b c d : Int} (h : a = c ∧ b = d) : Ending.returned (.tuple #[.int .i64 a, .int .i64 b]) = .returned (.tuple #[.int .i64 c, .int .i64 d]) := by rw [h.1, h.2]

end Go.Proofs.YtpjfapibjihbbaaGreatDoor
/-
  Plain mathematics of layer 9: radices, numbers whose digits are turned about, tables that have each number once. No condition.
-/
namespace Go.Proofs.YtpjfapibjihbbaaGreatDoor
set_option linter.unusedVariables false
open Go.RowKit

/-! ### Radices -/
structure Rad (rs : List Nat) : Prop where
  few : rs.length ≤ 12
  two : ∀ r ∈ rs, 2 ≤ r
  max : pr rs ≤ 4096
def isNo (zs : List Int) : Bool := zs.any fun z => decide (z < 2)
def rE (zs : List Int) : Int := if 12 < zs.length ∨ isNo zs = true then 1 else if (szGo 1 zs).isNone then 13 else 0
def rS (zs : List Int) : Int := if 12 < zs.length ∨ isNo zs = true then 0 else (((szGo 1 zs).getD 0 : Nat) : Int)
theorem r_many {zs : List Int} (h : 12 < zs.length) : rS zs = 0 ∧ rE zs = 1 := by simp [rS, rE, h]
theorem r_no {zs : List Int} (h : isNo zs = true) : rS zs = 0 ∧ rE zs = 1 := by simp [rS, rE, h]
theorem r_none {zs : List Int} (h : ¬ 12 < zs.length) (h2 : isNo zs = false) (k : szGo 1 zs = none) : rS zs = 0 ∧ rE zs = 13 := by simp [rS, rE, h, h2, k]
theorem r_some {zs : List Int} {s : Nat} (h : ¬ 12 < zs.length) (h2 : isNo zs = false) (k : szGo 1 zs = some s) : rS zs = s ∧ rE zs = 0 := by simp [rS, rE, h, h2, k]
theorem isNo_false {zs : List Int} (h : isNo zs = false) {i : Nat} {z : Int} (hz : zs[i]? = some z) : 2 ≤ z := by
  unfold isNo at h
  rw [List.any_eq_false] at h
  have := h z (List.mem_of_getElem? hz)
  simp at this
  exact this
theorem isNo_true {zs : List Int} {i : Nat} {z : Int} (hz : zs[i]? = some z) (h : z < 2) : isNo zs = true := by
  unfold isNo
  rw [List.any_eq_true]
  exact ⟨z, List.mem_of_getElem? hz, by simpa using h⟩
theorem isNo_none {zs : List Int} (h : ∀ i z, i < zs.length → zs[i]? = some z → ¬ z < 2) : isNo zs = false := by
  unfold isNo
  rw [List.any_eq_false]
  intro z hz
  obtain ⟨i, hi, rfl⟩ := List.getElem_of_mem hz
  have := h i _ hi (List.getElem?_eq_getElem hi)
  simpa using this
theorem rad_of {zs : List Int} (h : rE zs = 0) : ∃ rs, zs = ints rs ∧ Rad rs ∧ rS zs = (pr rs : Int) := by
  by_cases h1 : 12 < zs.length
  · rw [(r_many h1).2] at h; cases h
  by_cases h2 : isNo zs = true
  · rw [(r_no h2).2] at h; cases h
  have h2' : isNo zs = false := by simpa using h2
  cases h3 : szGo 1 zs with
  | none => rw [(r_none h1 h2' h3).2] at h; cases h
  | some s =>
    obtain ⟨rs, rfl, hp, ht, hm⟩ := szGo_some zs 1 s (by omega) (by omega) h3
    rw [Nat.one_mul] at ht
    subst ht
    refine ⟨rs, rfl, ⟨by simpa [ints] using h1, fun r hr => ?_, hm⟩, (r_some h1 h2' h3).1⟩
    obtain ⟨i, hi, rfl⟩ := List.getElem_of_mem hr
    have := isNo_false h2' (i := i) (z := ((rs[i] : Nat) : Int)) (by simp [ints, hi])
    omega
theorem r_not {zs : List Int} (h : rE zs ≠ 0) : rS zs = 0 := by
  by_cases h1 : 12 < zs.length
  · exact (r_many h1).1
  by_cases h2 : isNo zs = true
  · exact (r_no h2).1
  have h2' : isNo zs = false := by simpa using h2
  cases h3 : szGo 1 zs with
  | none => exact (r_none h1 h2' h3).1
  | some s => exact absurd (r_some h1 h2' h3).2 h
theorem szGo_ints : ∀ (rs : List Nat) (s : Nat), 1 ≤ s → (∀ r ∈ rs, 1 ≤ r) → s * pr rs ≤ 4096 → szGo s (ints rs) = some (s * pr rs)
  | [], s, _, _, _ => by simp [ints, szGo, pr]
  | r :: rs, s, h1, h2, h3 => by
    have hr := h2 r (List.mem_cons_self ..)
    have hp : 1 ≤ pr rs := pr_pos fun x hx => h2 x (List.mem_cons_of_mem _ hx)
    have e : s * pr (r :: rs) = s * r * pr rs := by rw [pr, Nat.mul_assoc]
    rw [e] at h3 ⊢
    have h4 : s * r ≤ 4096 := Nat.le_trans (Nat.le_mul_of_pos_right _ hp) h3
    show szGo s ((r : Int) :: ints rs) = _
    rw [szGo_ok, Int.toNat_natCast]
    · exact szGo_ints rs (s * r) (Nat.mul_le_mul h1 hr) (fun x hx => h2 x (List.mem_cons_of_mem _ hx)) h3
    · rw [not_or, ← Int.natCast_mul, Nat.mul_comm r s]; omega
theorem Rad.one {rs : List Nat} (h : Rad rs) : ∀ r ∈ rs, 1 ≤ r := fun r hr => by have := h.two r hr; omega
theorem r_rad {rs : List Nat} (h : Rad rs) : rS (ints rs) = (pr rs : Int) ∧ rE (ints rs) = 0 := by
  refine r_some (by simpa [ints] using h.few) (isNo_none fun i z hi hz hlt => ?_) ?_
  · have hi' : i < rs.length := by simpa [ints] using hi
    have e : z = (rs[i] : Int) := by simp [ints, hi'] at hz; exact hz.symm
    have := h.two rs[i] (List.getElem_mem hi')
    omega
  · have := szGo_ints rs 1 (by omega) h.one (by rw [Nat.one_mul]; exact h.max)
    rw [this, Nat.one_mul]

theorem wrS {x : Nat} (h : x ≤ 16777216) : wrap64 (x : Int) = x := by unfold wrap64; omega
theorem wrap_pred (k : Nat) (h : k ≤ 16777216 := by omega) : wrap64 ((k : Int) - 1) = (k : Int) - 1 := by unfold wrap64; omega
theorem wrA {a b : Nat} (h : a + b ≤ 16777216) : wrap64 ((a : Int) + (b : Int)) = ((a + b : Nat) : Int) := by rw [← Int.natCast_add]; exact wrS h

/-! ### Turned about -/
def tnA : List Nat → Nat → Nat → Nat
  | [], _, a => a
  | r :: rs, i, a => tnA rs (i / r) (a * r + i % r)
def tn (rs : List Nat) (i : Nat) : Nat := tnA rs i 0
theorem pr_append : ∀ (a b : List Nat), pr (a ++ b) = pr a * pr b
  | [], b => by simp [pr]
  | r :: a, b => by rw [List.cons_append, pr, pr, pr_append a b, Nat.mul_assoc]
theorem pr_reverse (a : List Nat) : pr a.reverse = pr a := by
  induction a with
  | nil => rfl
  | cons r a ih => rw [List.reverse_cons, pr_append, ih]; simp [pr, Nat.mul_comm]
theorem tnA_add : ∀ (rs : List Nat) (i a : Nat), tnA rs i a = a * pr rs + tn rs i
  | [], i, a => by simp [tnA, tn, pr]
  | r :: rs, i, a => by
    unfold tn
    rw [tnA, tnA, tnA_add rs _ (a * r + i % r), tnA_add rs _ (0 * r + i % r), pr]
    simp only [Nat.zero_mul, Nat.zero_add, Nat.add_mul]
    rw [Nat.mul_assoc, Nat.add_assoc]
theorem tn_cons (r : Nat) (rs : List Nat) (i : Nat) : tn (r :: rs) i = i % r * pr rs + tn rs (i / r) := by
  unfold tn; rw [tnA, tnA_add]; simp [tn]
theorem tn_lt : ∀ (rs : List Nat) (i : Nat), (∀ r ∈ rs, 1 ≤ r) → tn rs i < pr rs
  | [], i, _ => by simp [tn, tnA, pr]
  | r :: rs, i, h => by
    have hr := h r (List.mem_cons_self ..)
    have h1 := tn_lt rs (i / r) fun x hx => h x (List.mem_cons_of_mem _ hx)
    have h2 : i % r + 1 ≤ r := Nat.mod_lt _ hr
    rw [tn_cons, pr]
    calc i % r * pr rs + tn rs (i / r) < i % r * pr rs + pr rs := by omega
      _ = (i % r + 1) * pr rs := by rw [Nat.add_mul, Nat.one_mul]
      _ ≤ r * pr rs := Nat.mul_le_mul_right _ h2
theorem tnA_append : ∀ (a b : List Nat) (i x : Nat), tnA (a ++ b) i x = tnA b (i / pr a) (tnA a i x)
  | [], b, i, x => by simp [tnA, pr]
  | r :: a, b, i, x => by rw [List.cons_append, tnA, tnA_append a b, tnA, pr, Nat.div_div_eq_div_mul]
theorem tn_append (a b : List Nat) (i : Nat) : tn (a ++ b) i = tn a i * pr b + tn b (i / pr a) := by
  unfold tn; rw [tnA_append, tnA_add]; rfl
theorem tn_mod : ∀ (rs : List Nat) (x y : Nat), (∀ r ∈ rs, 1 ≤ r) → tn rs (x * pr rs + y) = tn rs y
  | [], x, y, _ => rfl
  | r :: rs, x, y, h => by
    have hr := h r (List.mem_cons_self ..)
    rw [tn_cons, tn_cons, pr]
    have e : x * (r * pr rs) + y = y + r * (x * pr rs) := by rw [Nat.add_comm, Nat.mul_left_comm]
    rw [e, Nat.add_mul_mod_self_left, Nat.add_mul_div_left _ _ hr, Nat.add_comm (y / r), tn_mod rs _ _ fun x hx => h x (List.mem_cons_of_mem _ hx)]
theorem tn_back : ∀ (rs : List Nat) (i : Nat), (∀ r ∈ rs, 1 ≤ r) → i < pr rs → tn rs.reverse (tn rs i) = i
  | [], i, _, h => by simp [pr] at h; subst h; rfl
  | r :: rs, i, h, hi => by
    have hr := h r (List.mem_cons_self ..)
    have h' : ∀ x ∈ rs, 1 ≤ x := fun x hx => h x (List.mem_cons_of_mem _ hx)
    have hrev : ∀ x ∈ rs.reverse, 1 ≤ x := fun x hx => h' x (List.mem_reverse.1 hx)
    have hlt := tn_lt rs (i / r) h'
    have hq : i / r < pr rs := by rw [Nat.div_lt_iff_lt_mul hr, Nat.mul_comm]; exact hi
    rw [List.reverse_cons, tn_append, tn_cons]
    have e1 : tn rs.reverse (i % r * pr rs + tn rs (i / r)) = i / r := by
      have := tn_mod rs.reverse (i % r) (tn rs (i / r)) hrev
      rw [pr_reverse] at this
      rw [this]
      exact tn_back rs (i / r) h' hq
    have e2 : (i % r * pr rs + tn rs (i / r)) / pr rs.reverse = i % r := by
      rw [pr_reverse, Nat.add_comm, Nat.add_mul_div_right _ _ (by omega), Nat.div_eq_of_lt hlt, Nat.zero_add]
    rw [e1, e2]
    simp only [tn, tnA, pr, Nat.mul_one]
    rw [Nat.mod_mod]
    have := Nat.div_add_mod i r
    rw [Nat.mul_comm] at this
    omega
theorem Rad.rev {rs : List Nat} (h : Rad rs) : Rad rs.reverse :=
  ⟨by rw [List.length_reverse]; exact h.few, fun r hr => h.two r (List.mem_reverse.1 hr), by rw [pr_reverse]; exact h.max⟩
theorem Rad.tn {rs : List Nat} (h : Rad rs) (i : Nat) : tn rs i < pr rs := tn_lt rs i h.one
theorem Rad.back {rs : List Nat} (h : Rad rs) {i : Nat} (hi : i < pr rs) : Proofs.YtpjfapibjihbbaaGreatDoor.tn rs.reverse (Proofs.YtpjfapibjihbbaaGreatDoor.tn rs i) = i := tn_back rs i h.one hi
theorem Rad.inj {rs : List Nat} (h : Rad rs) {i j : Nat} (hi : i < pr rs) (hj : j < pr rs) (he : Proofs.YtpjfapibjihbbaaGreatDoor.tn rs i = Proofs.YtpjfapibjihbbaaGreatDoor.tn rs j) : i = j := by
  rw [← h.back hi, he, h.back hj]
/-- The numbers on the way. -/
theorem pr_take_le {rs : List Nat} (h : ∀ r ∈ rs, 1 ≤ r) (k : Nat) : pr (rs.take k) ≤ pr rs := by
  have e := pr_append (rs.take k) (rs.drop k)
  rw [List.take_append_drop] at e
  have : 1 ≤ pr (rs.drop k) := pr_pos fun x hx => h x (List.mem_of_mem_drop hx)
  rw [e]
  exact Nat.le_mul_of_pos_right _ this
theorem tn_take {rs : List Nat} {k r : Nat} (hr : rs[k]? = some r) (i : Nat) : tn (rs.take (k + 1)) i = tn (rs.take k) i * r + i / pr (rs.take k) % r ∧ pr (rs.take (k + 1)) = pr (rs.take k) * r := by
  have e : rs.take (k + 1) = rs.take k ++ [r] := by rw [List.take_add_one, hr]; rfl
  rw [e, tn_append, pr_append]
  simp [tn, tnA, pr]
theorem tn_drop {rs : List Nat} {k r : Nat} (hr : rs[k]? = some r) (i : Nat) : tn (rs.drop k) i = i % r * pr (rs.drop (k + 1)) + tn (rs.drop (k + 1)) (i / r) ∧ pr (rs.drop k) = r * pr (rs.drop (k + 1)) := by
  have e : rs.drop k = r :: rs.drop (k + 1) := drop_consZ hr
  rw [e]
  exact ⟨tn_cons _ _ _, rfl⟩

/-! ### Tables that have each number once -/
def Ev (n : Nat) (zs : List Int) : Prop := zs.length = n ∧ (∀ z ∈ zs, 0 ≤ z ∧ z < (n : Int)) ∧ zs.Nodup
def cb (zs : List Int) (n : Nat) : Nat := zs.countP fun z => decide (0 ≤ z ∧ z < (n : Int))
theorem cb_zero (zs : List Int) : cb zs 0 = 0 := by
  unfold cb
  rw [List.countP_eq_zero]
  intro z _
  simp only [decide_eq_true_eq]
  omega
theorem cb_succ : ∀ (zs : List Int) (n : Nat), cb zs (n + 1) = cb zs n + zs.count (n : Int)
  | [], n => by simp [cb]
  | z :: zs, n => by
    have ih := cb_succ zs n
    unfold cb at ih ⊢
    rw [List.countP_cons, List.countP_cons, List.count_cons, ih]
    by_cases h1 : z = (n : Int)
    · subst h1
      have a1 : decide (0 ≤ (n : Int) ∧ (n : Int) < ((n + 1 : Nat) : Int)) = true := by simp; omega
      have a2 : decide (0 ≤ (n : Int) ∧ (n : Int) < (n : Int)) = false := by simp
      rw [a1, a2]
      simp
      omega
    · have a1 : decide (0 ≤ z ∧ z < ((n + 1 : Nat) : Int)) = decide (0 ≤ z ∧ z < (n : Int)) := by
        apply decide_eq_decide.2; omega
      rw [a1]
      simp [h1]
      omega
theorem cb_le {zs : List Int} (h : ∀ k : Nat, zs.count (k : Int) ≤ 1) (m : Nat) : ∀ j, cb zs (m + j) ≤ cb zs m + j
  | 0 => Nat.le_refl _
  | j + 1 => by
    have := cb_le h m j
    have h1 := h (m + j)
    rw [← Nat.add_assoc, cb_succ]
    omega
theorem ev_once {zs : List Int} (h : Ev zs.length zs) (k : Nat) (hk : k < zs.length) : zs.count (k : Int) = 1 := by
  obtain ⟨_, hb, hn⟩ := h
  have h1 : ∀ k : Nat, zs.count (k : Int) ≤ 1 := fun k => List.nodup_iff_count.1 hn _
  have hall : cb zs zs.length = zs.length := by
    unfold cb
    rw [List.countP_eq_length]
    intro z hz
    simpa using hb z hz
  have h2 := cb_le h1 (k + 1) (zs.length - (k + 1))
  have h3 := cb_le h1 0 k
  rw [cb_zero] at h3; simp only [Nat.zero_add] at h3
  rw [show k + 1 + (zs.length - (k + 1)) = zs.length by omega, hall, cb_succ] at h2
  have := h1 k
  omega
theorem once_ev {zs : List Int} (h : ∀ k : Nat, k < zs.length → zs.count (k : Int) = 1) : Ev zs.length zs := by
  have hs : ∀ n, n ≤ zs.length → cb zs n = n := by
    intro n
    induction n with
    | zero => intro _; exact cb_zero zs
    | succ n ih => intro hn; rw [cb_succ, ih (by omega), h n (by omega)]
  have hall := hs zs.length (Nat.le_refl _)
  have hb : ∀ z ∈ zs, 0 ≤ z ∧ z < (zs.length : Int) := by
    have := List.countP_eq_length.1 (show zs.countP (fun z => decide (0 ≤ z ∧ z < (zs.length : Int))) = zs.length from hall)
    intro z hz
    simpa using this z hz
  refine ⟨rfl, hb, List.nodup_iff_count.2 fun z => ?_⟩
  by_cases hz : z ∈ zs
  · obtain ⟨h0, h1⟩ := hb z hz
    obtain ⟨n, rfl⟩ := Int.eq_ofNat_of_zero_le h0
    rw [h n (by omega)]
    exact Nat.le_refl _
  · rw [List.count_eq_zero.2 hz]; omega
def evB (n : Nat) (zs : List Int) : Bool := decide (zs.length = n ∧ (∀ z ∈ zs, 0 ≤ z ∧ z < (n : Int)) ∧ zs.Nodup)
theorem evB_true {n : Nat} {zs : List Int} (h : Ev n zs) : evB n zs = true := by unfold evB; exact decide_eq_true h
theorem evB_false {n : Nat} {zs : List Int} (h : ¬ Ev n zs) : evB n zs = false := by unfold evB; exact decide_eq_false h
theorem ev_iff {n : Nat} {zs : List Int} : evB n zs = true ↔ Ev n zs := by unfold evB; exact decide_eq_true_iff
theorem ev_wrong {n : Nat} {zs : List Int} {k : Nat} {z : Int} (hz : zs[k]? = some z) (h : z < 0 ∨ (n : Int) ≤ z) : ¬ Ev n zs := fun he => by
  have := he.2.1 z (List.mem_of_getElem? hz); omega
theorem ev_twice {n : Nat} {zs : List Int} {j k : Nat} {z : Int} (hz : zs[k]? = some z) (hj : j < k) (h : zs[j]? = some z) : ¬ Ev n zs := fun he => by
  obtain ⟨h1, e1⟩ := List.getElem?_eq_some_iff.1 hz
  obtain ⟨h2, e2⟩ := List.getElem?_eq_some_iff.1 h
  have := (List.getElem_inj (h₀ := h2) (h₁ := h1) he.2.2).1 (e2.trans e1.symm)
  omega
theorem ev_of {n : Nat} {zs : List Int} (hl : zs.length = n) (h1 : ∀ (j : Nat) (z : Int), zs[j]? = some z → 0 ≤ z ∧ z < (n : Int)) (h2 : ∀ (i j : Nat) (z : Int), i < j → zs[j]? = some z → zs[i]? = some z → False) : Ev n zs := by
  refine ⟨hl, fun z hz => ?_, ?_⟩
  · obtain ⟨i, hi, rfl⟩ := List.getElem_of_mem hz
    exact h1 i _ (List.getElem?_eq_getElem hi)
  · unfold List.Nodup
    rw [List.pairwise_iff_getElem]
    intro i j hi hj hij e
    exact h2 i j _ hij (List.getElem?_eq_getElem hj) (by rw [List.getElem?_eq_getElem hi, e])
end Go.Proofs.YtpjfapibjihbbaaGreatDoor
/-
  Plain mathematics of bits turned about: math/bits' way, by masks and shifts, is the digits by radices of 2. No condition.
-/
namespace Go.Proofs.YtpjfapibjihbbaaGreatDoor
set_option linter.unusedVariables false

def two (n : Nat) : List Nat := List.replicate n 2
theorem two_pr (n : Nat) : pr (two n) = 2 ^ n := by
  induction n with
  | zero => rfl
  | succ n ih => unfold two at *; rw [List.replicate_succ, pr, ih, Nat.pow_succ, Nat.mul_comm]
theorem two_one (n : Nat) : ∀ r ∈ two n, 1 ≤ r := fun r hr => by
  unfold two at hr; rw [List.eq_of_mem_replicate hr]; omega
theorem two_lt (n u : Nat) : tn (two n) u < 2 ^ n := by rw [← two_pr]; exact tn_lt _ _ (two_one n)
theorem two_rev (n : Nat) : (two n).reverse = two n := by unfold two; rw [List.reverse_replicate]
theorem two_back (n u : Nat) : tn (two n) (tn (two n) u) = u % 2 ^ n := by
  have h1 := tn_mod (two n) (u / 2 ^ n) (u % 2 ^ n) (two_one n)
  rw [two_pr, Nat.mul_comm, Nat.div_add_mod] at h1
  rw [h1]
  have h2 := tn_back (two n) (u % 2 ^ n) (two_one n) (by rw [two_pr]; exact Nat.mod_lt _ (Nat.two_pow_pos n))
  rw [two_rev] at h2
  exact h2
theorem two_step (n u : Nat) : tn (two (n + 1)) u = u % 2 * 2 ^ n + tn (two n) (u / 2) := by
  rw [← two_pr]; exact tn_cons 2 (two n) u
theorem two_last (n u : Nat) : tn (two (n + 1)) u = tn (two n) u * 2 + u / 2 ^ n % 2 := by
  have e : two (n + 1) = two n ++ [2] := by unfold two; rw [List.replicate_succ', ]
  rw [e, tn_append, two_pr]
  simp [tn, tnA, pr]
theorem two_bit : ∀ (n u j : Nat), j < n → (tn (two n) u).testBit j = u.testBit (n - 1 - j)
  | 0, u, j, h => by omega
  | n + 1, u, j, h => by
    rw [two_step, Nat.mul_comm, Nat.testBit_two_pow_mul_add _ (two_lt n _)]
    by_cases hj : j < n
    · rw [if_pos hj, two_bit n (u / 2) j hj, ← Nat.testBit_succ]
      congr 1
      omega
    · obtain rfl : j = n := by omega
      rw [if_neg hj, Nat.sub_self]
      have : j + 1 - 1 - j = 0 := by omega
      rw [this]
      simp [Nat.testBit_zero]
theorem two_cut (n k u : Nat) (h : k ≤ n) : tn (two n) u / 2 ^ (n - k) = tn (two k) u := by
  have e : two n = two k ++ two (n - k) := by unfold two; rw [List.replicate_append_replicate]; congr 1; omega
  rw [e, tn_append, two_pr, Nat.mul_comm, Nat.mul_add_div (Nat.two_pow_pos _), Nat.div_eq_of_lt (two_lt _ _), Nat.add_zero]

/-! ### By masks -/
def stp (s m x : Nat) : Nat := (x >>> s &&& m) ||| ((x &&& m) <<< s)
/-- A mask: what is in it, moved by s, isn't. -/
def Mask (s m : Nat) : Prop := m < 2 ^ (64 - s) ∧ ∀ j : Fin 64, if m.testBit j then j + s < 64 ∧ (s ≤ j → m.testBit (j - s) = false) else s ≤ j ∧ m.testBit (j - s) = true
def sg (s m j : Nat) : Nat := if m.testBit j then j + s else j - s
theorem sg_lt {s m j : Nat} (h : Mask s m) (hj : j < 64) : sg s m j < 64 := by
  have := h.2 ⟨j, hj⟩
  unfold sg
  split at this
  · rename_i h1; rw [if_pos h1]; exact this.1
  · rename_i h1; rw [if_neg h1]; omega
theorem stp_bit {s m : Nat} (h : Mask s m) (x : Nat) {j : Nat} (hj : j < 64) : (stp s m x).testBit j = x.testBit (sg s m j) := by
  have := h.2 ⟨j, hj⟩
  unfold stp sg
  rw [Nat.testBit_or, Nat.testBit_and, Nat.testBit_shiftRight, Nat.testBit_shiftLeft, Nat.testBit_and]
  split at this
  · rename_i h1
    simp only at h1 this
    rw [if_pos h1, h1, Nat.add_comm s j]
    by_cases h2 : s ≤ j
    · rw [this.2 h2]; simp
    · simp [h2]
  · rename_i h1
    simp only at h1 this
    rw [if_neg h1, this.2]
    simp [h1, this.1]
theorem stp_lt {s m x : Nat} (h : Mask s m) (hs : s ≤ 64) : stp s m x < 2 ^ 64 ∧ (x >>> s &&& m) < 2 ^ 64 ∧ (x &&& m) <<< s < 2 ^ 64 ∧ (x &&& m) * 2 ^ s < 2 ^ 64 := by
  have h1 : (x >>> s &&& m) < 2 ^ 64 := Nat.lt_of_le_of_lt Nat.and_le_right (Nat.lt_of_lt_of_le h.1 (Nat.pow_le_pow_right (by omega) (by omega)))
  have h2 : (x &&& m) * 2 ^ s < 2 ^ 64 := by
    have e : 2 ^ 64 = 2 ^ (64 - s) * 2 ^ s := by rw [← Nat.pow_add]; congr 1; omega
    rw [e]
    exact Nat.mul_lt_mul_of_pos_right (Nat.lt_of_le_of_lt Nat.and_le_right h.1) (Nat.two_pow_pos s)
  have h3 : (x &&& m) <<< s < 2 ^ 64 := by rw [Nat.shiftLeft_eq]; exact h2
  exact ⟨Nat.or_lt_two_pow h1 h3, h1, h3, h2⟩
def m1 : Nat := 6148914691236517205
def m2 : Nat := 3689348814741910323
def m4 : Nat := 1085102592571150095
def m8 : Nat := 71777214294589695
def m16 : Nat := 281470681808895
theorem mask1 : Mask 1 m1 := by unfold Mask; decide +kernel
theorem mask2 : Mask 2 m2 := by unfold Mask; decide +kernel
theorem mask4 : Mask 4 m4 := by unfold Mask; decide +kernel
theorem mask8 : Mask 8 m8 := by unfold Mask; decide +kernel
theorem mask16 : Mask 16 m16 := by unfold Mask; decide +kernel
def half (x : Nat) : Nat := x >>> 32 ||| (x <<< 32 % 2 ^ 64)
theorem half_bit {x : Nat} (hx : x < 2 ^ 64) {j : Nat} (hj : j < 64) : (half x).testBit j = x.testBit (if j < 32 then j + 32 else j - 32) := by
  unfold half
  rw [Nat.testBit_or, Nat.testBit_shiftRight, Nat.testBit_mod_two_pow, Nat.testBit_shiftLeft]
  by_cases h : j < 32
  · rw [if_pos h, Nat.add_comm]
    simp
    omega
  · rw [if_neg h]
    have h1 : x.testBit (32 + j) = false := Nat.testBit_lt_two_pow (Nat.lt_of_lt_of_le hx (Nat.pow_le_pow_right (by omega) (by omega)))
    rw [h1]
    have h2 : 32 ≤ j := by omega
    simp [hj, h2]
theorem all_sg : ∀ j : Fin 64, sg 1 m1 (sg 2 m2 (sg 4 m4 (sg 8 m8 (sg 16 m16 (if (j : Nat) < 32 then j + 32 else j - 32))))) = 63 - j := by decide +kernel
theorem rev_masks (x : Nat) (hx : x < 2 ^ 64) : half (stp 16 m16 (stp 8 m8 (stp 4 m4 (stp 2 m2 (stp 1 m1 x))))) = tn (two 64) x := by
  apply Nat.eq_of_testBit_eq
  intro j
  have hl := (stp_lt (x := stp 8 m8 (stp 4 m4 (stp 2 m2 (stp 1 m1 x)))) mask16 (by omega)).1
  by_cases hj : j < 64
  · have h32 : (if j < 32 then j + 32 else j - 32) < 64 := by split <;> omega
    have h16 := sg_lt mask16 h32
    have h8 := sg_lt mask8 h16
    have h4 := sg_lt mask4 h8
    have h2 := sg_lt mask2 h4
    rw [half_bit hl hj, stp_bit mask16 _ h32, stp_bit mask8 _ h16, stp_bit mask4 _ h8, stp_bit mask2 _ h4, stp_bit mask1 _ h2, two_bit 64 x j hj]
    have := all_sg ⟨j, hj⟩
    simp only at this
    rw [this]
  · have hp : 2 ^ 64 ≤ 2 ^ j := Nat.pow_le_pow_right (by omega) (by omega)
    have hh : half (stp 16 m16 (stp 8 m8 (stp 4 m4 (stp 2 m2 (stp 1 m1 x))))) < 2 ^ 64 := by
      unfold half
      exact Nat.or_lt_two_pow (Nat.lt_of_le_of_lt (by rw [Nat.shiftRight_eq_div_pow]; exact Nat.div_le_self _ _) hl) (Nat.mod_lt _ (by decide))
    rw [Nat.testBit_lt_two_pow (Nat.lt_of_lt_of_le hh hp), Nat.testBit_lt_two_pow (Nat.lt_of_lt_of_le (two_lt 64 x) hp)]
end Go.Proofs.YtpjfapibjihbbaaGreatDoor
/-
  What math/bits' ReverseBytes64 and Reverse64 and digits.Bits answer. No condition.
-/
namespace Go.Proofs.YtpjfapibjihbbaaGreatDoor
set_option linter.unusedVariables false
open Go.RowKit

theorem stp_int (s m P x : Nat) (hM : Mask s m) (hs : s ≤ 64) (hP : P = 2 ^ s) (hx : x < 18446744073709551616) :
    bits .or .u64 (bits .and .u64 ((x : Int) / (P : Int)) (m : Int)) (IntKind.u64.wrap (bits .and .u64 (x : Int) (m : Int) * (P : Int))) = (stp s m x : Int) := by
  obtain ⟨_, h1, h2, h3⟩ := stp_lt (x := x) hM hs
  have hm : m < 18446744073709551616 := Nat.lt_of_lt_of_le hM.1 (show 2 ^ (64 - s) ≤ 2 ^ 64 from Nat.pow_le_pow_right (by omega) (by omega))
  subst hP
  have e1 : (x : Int) / ((2 ^ s : Nat) : Int) = ((x >>> s : Nat) : Int) := by rw [Nat.shiftRight_eq_div_pow]; rfl
  have hq : x >>> s < 18446744073709551616 := Nat.lt_of_le_of_lt (by rw [Nat.shiftRight_eq_div_pow]; exact Nat.div_le_self _ _) hx
  rw [e1, u64_and_nat _ _ hq hm, u64_and_nat _ _ hx hm, ← Int.natCast_mul]
  have e2 : IntKind.u64.wrap (((x &&& m) * 2 ^ s : Nat) : Int) = (((x &&& m) <<< s : Nat) : Int) := by
    rw [IntKind.wrap_u64, Nat.shiftLeft_eq]
    have h3' : (x &&& m) * 2 ^ s < 18446744073709551616 := h3
    generalize (x &&& m) * 2 ^ s = y at h3'
    omega
  rw [e2, u64_or_nat _ _ h1 h2]
  rfl
theorem half_int (x : Nat) (hx : x < 18446744073709551616) : bits .or .u64 ((x : Int) / 4294967296) (IntKind.u64.wrap ((x : Int) * 4294967296)) = (half x : Int) := by
  have e1 : (x : Int) / (4294967296 : Int) = ((x >>> 32 : Nat) : Int) := by rw [Nat.shiftRight_eq_div_pow]; rfl
  have hq : x >>> 32 < 18446744073709551616 := Nat.lt_of_le_of_lt (by rw [Nat.shiftRight_eq_div_pow]; exact Nat.div_le_self _ _) hx
  have e2 : IntKind.u64.wrap ((x : Int) * 4294967296) = ((x <<< 32 % 2 ^ 64 : Nat) : Int) := by
    rw [IntKind.wrap_u64, Nat.shiftLeft_eq]
    show _ = ((x * 4294967296 % 18446744073709551616 : Nat) : Int)
    omega
  rw [e1, e2, u64_or_nat _ _ hq (Nat.mod_lt _ (by decide))]
  rfl
theorem st1 (x : Nat) (hx : x < 18446744073709551616) : bits .or .u64 (bits .and .u64 ((x : Int) / 2) 6148914691236517205) (IntKind.u64.wrap (bits .and .u64 (x : Int) 6148914691236517205 * 2)) = (stp 1 m1 x : Int) := stp_int 1 m1 2 x mask1 (by omega) rfl hx
theorem st2 (x : Nat) (hx : x < 18446744073709551616) : bits .or .u64 (bits .and .u64 ((x : Int) / 4) 3689348814741910323) (IntKind.u64.wrap (bits .and .u64 (x : Int) 3689348814741910323 * 4)) = (stp 2 m2 x : Int) := stp_int 2 m2 4 x mask2 (by omega) rfl hx
theorem st4 (x : Nat) (hx : x < 18446744073709551616) : bits .or .u64 (bits .and .u64 ((x : Int) / 16) 1085102592571150095) (IntKind.u64.wrap (bits .and .u64 (x : Int) 1085102592571150095 * 16)) = (stp 4 m4 x : Int) := stp_int 4 m4 16 x mask4 (by omega) rfl hx
theorem st8 (x : Nat) (hx : x < 18446744073709551616) : bits .or .u64 (bits .and .u64 ((x : Int) / 256) 71777214294589695) (IntKind.u64.wrap (bits .and .u64 (x : Int) 71777214294589695 * 256)) = (stp 8 m8 x : Int) := stp_int 8 m8 256 x mask8 (by omega) rfl hx
theorem st16 (x : Nat) (hx : x < 18446744073709551616) : bits .or .u64 (bits .and .u64 ((x : Int) / 65536) 281470681808895) (IntKind.u64.wrap (bits .and .u64 (x : Int) 281470681808895 * 65536)) = (stp 16 m16 x : Int) := stp_int 16 m16 65536 x mask16 (by omega) rfl hx

/-! ### Bits -/
/-- A number's 64 bits. -/
def u64 (z : Int) : Nat := (z % 18446744073709551616).toNat
theorem u64_lt (z : Int) : u64 z < 18446744073709551616 := by unfold u64; omega
theorem u64_int (z : Int) : (u64 z : Int) = z % 18446744073709551616 := by unfold u64; omega
theorem u64_wrap (z : Int) : IntKind.u64.wrap z = (u64 z : Int) := by rw [IntKind.wrap_u64, u64_int]
def bt (k z : Int) : Int := if 1 ≤ k ∧ k ≤ 62 then (tn (two k.toNat) (u64 z) : Int) else 0
end Go.Proofs.YtpjfapibjihbbaaGreatDoor
/-
  What math/bits' TrailingZeros answers of a power of two, radix2.Fits and Pad, and the document's. No condition but that the table of the library's lies there.
-/
namespace Go.Proofs.YtpjfapibjihbbaaGreatDoor
set_option linter.unusedVariables false
open Go.RowKit

/-! ### TrailingZeros -/
def dbI (c : Nat) : Nat := 2 ^ c * 285870213051353865 % 18446744073709551616 / 288230376151711744
theorem tz_key : ∀ c : Fin 13, IntKind.u64.wrap (bits BinOp.and IntKind.u64 ((2 ^ (c : Nat) : Nat) : Int) (IntKind.u64.wrap (-((2 ^ (c : Nat) : Nat) : Int))) * 285870213051353865) / 288230376151711744 = (dbI c : Int) := by decide +kernel
theorem dbI_lt : ∀ c : Fin 13, dbI c < 64 := by decide +kernel
theorem two_le {c : Nat} (hc : c ≤ 12) : 2 ^ c ≤ 4096 := Nat.pow_le_pow_right (n := 2) (by omega) hc
/-! ### Fits, Pad -/
def padG : Nat → Nat → Int → Int
  | 0, _, _ => 0
  | f + 1, v, n => if n ≤ (v : Int) then (v : Int) else padG f (v * 2) n
/-- The least power of two that isn't below. -/
def padV (n : Int) : Int := padG 13 1 n
def fitG : Nat → Nat → Int → Bool
  | 0, _, _ => false
  | f + 1, v, n => if n = (v : Int) then true else fitG f (v * 2) n
/-- Whether it is a power of two, of at most 2 to the 12. -/
def fitV (n : Int) : Bool := fitG 13 1 n
theorem fitG_lt : ∀ (f v : Nat) (n : Int), n < (v : Int) → fitG f v n = false
  | 0, _, _, _ => rfl
  | f + 1, v, n, h => by rw [fitG, if_neg (by omega)]; exact fitG_lt f (v * 2) n (by omega)
theorem pad_fitG : ∀ (f v : Nat) (n : Int), 1 ≤ v → 1 ≤ n → (padG f v n == n) = fitG f v n
  | 0, v, n, _, h => by
    rw [padG, fitG]; simp; omega
  | f + 1, v, n, h1, h => by
    rw [padG, fitG]
    by_cases e : n = (v : Int)
    · rw [if_pos (by omega), if_pos e, e]; simp
    · rw [if_neg e]
      by_cases e2 : n ≤ (v : Int)
      · rw [if_pos e2, fitG_lt f (v * 2) n (by omega)]
        simp; omega
      · rw [if_neg e2]; exact pad_fitG f (v * 2) n (by omega) h
theorem pad_fit (n : Int) : (padV n == n) = fitV n := by
  by_cases h : 1 ≤ n
  · exact pad_fitG 13 1 n (by omega) h
  · have e1 : padV n = 1 := by unfold padV; rw [padG, if_pos (by omega)]; rfl
    have e2 : fitV n = false := fitG_lt 13 1 n (by omega)
    rw [e1, e2]; simp; omega
theorem pad_great {n : Int} (h : 4096 < n) : padV n = 0 := by
  unfold padV
  simp only [padG]
  repeat rw [if_neg (by omega)]
theorem fitG_two : ∀ (f v : Nat) (n : Int), fitG f v n = true → ∃ j, j < f ∧ n = ((v * 2 ^ j : Nat) : Int)
  | 0, _, _, h => by cases h
  | f + 1, v, n, h => by
    rw [fitG] at h
    by_cases e : n = (v : Int)
    · exact ⟨0, by omega, by rw [Nat.pow_zero, Nat.mul_one]; exact e⟩
    · rw [if_neg e] at h
      obtain ⟨j, hj, hn⟩ := fitG_two f (v * 2) n h
      exact ⟨j + 1, by omega, by rw [hn, Nat.pow_succ', Nat.mul_assoc]⟩
theorem fit_two {n : Nat} (h : fitV (n : Int) = true) : ∃ c, c ≤ 12 ∧ n = 2 ^ c := by
  obtain ⟨j, hj, hn⟩ := fitG_two 13 1 n h
  rw [Nat.one_mul] at hn
  exact ⟨j, by omega, Int.ofNat.inj hn⟩
theorem wr2 {v : Nat} (h : v ≤ 8388608) : wrap64 ((v : Int) * 2) = ((v * 2 : Nat) : Int) ∧ wrap64 (2 * (v : Int)) = ((v * 2 : Nat) : Int) := by
  constructor <;> · unfold wrap64; omega
/-! ### The document's -/
end Go.Proofs.YtpjfapibjihbbaaGreatDoor
/-
  What radix2.halves answers: a block of a list, in two. No condition.
-/
namespace Go.Proofs.YtpjfapibjihbbaaGreatDoor
set_option linter.unusedVariables false
open Go.RowKit

end Go.Proofs.YtpjfapibjihbbaaGreatDoor

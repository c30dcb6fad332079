/-
  Rows of ints as they lie in memory, shapes, and what a shape's size is: the program's and the document's. No condition.
-/
import Derived.Test.YtccknfhhmdoffaaPfD
namespace Go.Proofs.Ytccknfhhmdoffaa
set_option linter.unusedVariables false
open Go.RowKit

def I64 (z : Int) : Prop := -9223372036854775808 ≤ z ∧ z < 9223372036854775808

/-- A row of ints lies there. -/
structure ZAt (w : World) (A : Option Addr) (C : Nat) (zs : List Int) : Prop where
  cap : zs.length ≤ C
  max : C ≤ maxLen
  get : ∀ (i : Nat) (z : Int), zs[i]? = some z → ∃ b o, A = some ⟨b, o, none⟩ ∧ b < w.heap.size ∧ w.cell? ⟨b, o + i, none⟩ = some (.int .i64 z) ∧ I64 z
theorem ZAt.below {w w' : World} {A : Option Addr} {C : Nat} {zs : List Int} (h : ZAt w A C zs) (hb : Below w.heap.size w w') : ZAt w' A C zs := by
  refine ⟨h.cap, h.max, fun i f hf => ?_⟩
  obtain ⟨b, o, hA, hl, c0, k⟩ := h.get i f hf
  obtain ⟨hc, _⟩ := bcell hb
  exact ⟨b, o, hA, Nat.lt_of_lt_of_le hl hb.size, by rw [hc _ _ hl]; exact c0, k⟩
theorem ZAt.len {w : World} {A : Option Addr} {C : Nat} {zs : List Int} (h : ZAt w A C zs) : (zs.length : Int) ≤ 9223372036854775807 := by
  have := h.cap; have := h.max; unfold maxLen at this; omega

/-- A call that answers so in every world that holds what this one held, and leaves the world as it was. -/
def AnsQ (W : World) (f : FuncId) (args : Array Value) (v : Value) : Prop := ∀ w, Below W.heap.size W w → Calls Try.prog f args w fun e w' => e = .returned v ∧ w' = w
theorem AnsQ.use {W : World} {f : FuncId} {args : Array Value} {v : Value} (h : AnsQ W f args v) {w : World} (hw : Below W.heap.size W w) {R : Ending → World → Prop} (k : R (.returned v) w) : Calls Try.prog f args w R :=
  (h w hw).mono fun _ _ ⟨he, hb⟩ => by subst he; subst hb; exact k
theorem AnsQ.to {W : World} {f : FuncId} {args : Array Value} {v v' : Value} (h : AnsQ W f args v) (e : v = v') : AnsQ W f args v' := e ▸ h
theorem AnsQ.on {W W' : World} {f : FuncId} {args : Array Value} {v : Value} (h : AnsQ W f args v) (hb : Below W.heap.size W W') : AnsQ W' f args v :=
  fun w hw => h w (hb.trans (hw.mono hb.size))
theorem AnsQ.toB {W : World} {f : FuncId} {args : Array Value} {v : Value} (h : AnsQ W f args v) : AnsB W f args v :=
  fun w hw => (h w hw).mono fun _ _ ⟨he, hb⟩ => ⟨he, by subst hb; exact Below.refl _ _⟩
theorem AnsQ.toW {W : World} {f : FuncId} {args : Array Value} {v : Value} (h : AnsQ W f args v) {w : World} (hw : Below W.heap.size W w) : AnsW w f args v :=
  fun n => (h _ (hw.trans ((below_drewN w n).mono hw.size))).mono fun _ _ ⟨he, hb⟩ => ⟨he, 0, by rw [hb, Nat.add_zero]⟩

/-! ### Sizes -/
def szGo : Nat → List Int → Option Nat
  | s, [] => some s
  | s, z :: zs => if z < 1 ∨ 4096 < z * (s : Int) then none else szGo (s * z.toNat) zs
def sz (zs : List Int) : Option Nat := if 4 < zs.length then none else szGo 1 zs
def sizeV (zs : List Int) : Int := (((sz zs).getD 0 : Nat) : Int)
def errV (zs : List Int) : Int := if 4 < zs.length then 1 else if (sz zs).isNone then 5 else 0
theorem szGo_bad {s : Nat} {z : Int} {zs : List Int} (h : z < 1 ∨ 4096 < z * (s : Int)) : szGo s (z :: zs) = none := by rw [szGo, if_pos h]
theorem szGo_ok {s : Nat} {z : Int} {zs : List Int} (h : ¬ (z < 1 ∨ 4096 < z * (s : Int))) : szGo s (z :: zs) = szGo (s * z.toNat) zs := by rw [szGo, if_neg h]
/-- The product. -/
def pr : List Nat → Nat
  | [] => 1
  | d :: ds => d * pr ds
/-- A shape. -/
structure Shp (ds : List Nat) : Prop where
  few : ds.length ≤ 4
  pos : ∀ d ∈ ds, 1 ≤ d
  max : pr ds ≤ 4096
def ints (ds : List Nat) : List Int := ds.map Int.ofNat
theorem szGo_some : ∀ (zs : List Int) (s t : Nat), 1 ≤ s → s ≤ 4096 → szGo s zs = some t → ∃ ds, zs = ints ds ∧ (∀ d ∈ ds, 1 ≤ d) ∧ t = s * pr ds ∧ t ≤ 4096
  | [], s, t, h1, h2, h => by
    cases h
    exact ⟨[], rfl, by simp, by simp [pr], h2⟩
  | z :: zs, s, t, h1, h2, h => by
    by_cases hz : z < 1 ∨ 4096 < z * (s : Int)
    · rw [szGo_bad hz] at h; cases h
    · rw [szGo_ok hz] at h
      simp only [not_or, Int.not_lt] at hz
      obtain ⟨d, rfl⟩ := Int.eq_ofNat_of_zero_le (show 0 ≤ z by omega)
      have hd : 1 ≤ d := by omega
      have hm : s * d ≤ 4096 := by have := hz.2; rw [Int.mul_comm, ← Int.natCast_mul] at this; omega
      rw [Int.toNat_natCast] at h
      obtain ⟨ds, rfl, hp, ht, hl⟩ := szGo_some zs (s * d) t (Nat.mul_le_mul h1 hd) hm h
      refine ⟨d :: ds, rfl, ?_, ?_, hl⟩
      · intro x hx
        rcases List.mem_cons.1 hx with rfl | hx
        · exact hd
        · exact hp x hx
      · rw [ht, pr, Nat.mul_assoc]
theorem sz_some {zs : List Int} {s : Nat} (h : sz zs = some s) : ∃ ds, zs = ints ds ∧ Shp ds ∧ s = pr ds := by
  unfold sz at h
  split at h
  · cases h
  · rename_i hl
    obtain ⟨ds, rfl, hp, ht, hm⟩ := szGo_some zs 1 s (by omega) (by omega) h
    rw [Nat.one_mul] at ht
    exact ⟨ds, rfl, ⟨by simpa [ints] using hl, hp, by omega⟩, ht⟩
theorem pr_pos : ∀ {ds : List Nat}, (∀ d ∈ ds, 1 ≤ d) → 1 ≤ pr ds
  | [], _ => by simp [pr]
  | d :: ds, h => by
    have := pr_pos (ds := ds) fun x hx => h x (List.mem_cons_of_mem _ hx)
    exact Nat.mul_le_mul (h d (List.mem_cons_self ..)) this
theorem quo_lt {z : Int} {s : Nat} (h1 : 1 ≤ s) : Int.tdiv 4096 (s : Int) < z ↔ 4096 < z * (s : Int) := by
  have e : Int.tdiv 4096 (s : Int) = ((4096 / s : Nat) : Int) := rfl
  have hd : ∀ d : Nat, 4096 / s < d ↔ 4096 < d * s := fun d => Nat.div_lt_iff_lt_mul (by omega)
  rw [e]
  generalize 4096 / s = q at hd ⊢
  constructor
  · intro h
    have h0 : 0 ≤ z := by omega
    obtain ⟨d, rfl⟩ := Int.eq_ofNat_of_zero_le h0
    have := (hd d).1 (by omega)
    rw [← Int.natCast_mul]
    omega
  · intro h
    rcases Int.lt_or_le z 0 with hz | hz
    · have := Int.mul_nonneg (show 0 ≤ -z by omega) (show (0 : Int) ≤ s by omega)
      rw [Int.neg_mul] at this
      omega
    · obtain ⟨d, rfl⟩ := Int.eq_ofNat_of_zero_le hz
      rw [← Int.natCast_mul] at h
      have := (hd d).2 (by omega)
      omega
theorem drop_consZ {α : Type} {l : List α} {k : Nat} {x : α} (h : l[k]? = some x) : l.drop k = x :: l.drop (k + 1) := by
  obtain ⟨hk, rfl⟩ := List.getElem?_eq_some_iff.1 h
  exact List.drop_eq_getElem_cons hk
theorem sizeV_many {zs : List Int} (h : 4 < zs.length) : sizeV zs = 0 ∧ errV zs = 1 := by simp [sizeV, errV, sz, h]
theorem sizeV_none {zs : List Int} (h : ¬ 4 < zs.length) (k : szGo 1 zs = none) : sizeV zs = 0 ∧ errV zs = 5 := by simp [sizeV, errV, sz, h, k]
theorem sizeV_some {zs : List Int} {s : Nat} (h : ¬ 4 < zs.length) (k : szGo 1 zs = some s) : sizeV zs = s ∧ errV zs = 0 := by simp [sizeV, errV, sz, h, k]
theorem ret_two {a b c d : Int} (h : a = c ∧ b = d) : Ending.returned (.tuple #[.int .i64 a, .int .i64 b]) = .returned (.tuple #[.int .i64 c, .int .i64 d]) := by rw [h.1, h.2]

end Go.Proofs.Ytccknfhhmdoffaa

/-
  Rows of factors and of entries, as they lie in memory: what is there, and that it stays there while nothing old turns.
-/
import Derived.Test.YtccknfhhmdoffaaBase
import Derived.Lib.QuietBelow
import Derived.Below
namespace Go.Proofs.Ytccknfhhmdoffaa
set_option linter.unusedVariables false
open Go.RowKit

/-- A factor. -/
structure Pw where
  q : Nat
  e : Int
/-- An entry. -/
structure En where
  p : Nat
  g : Nat
  fs : List Pw
def Pw.ok (f : Pw) : Prop := f.q < 18446744073709551616 ∧ -9223372036854775808 ≤ f.e ∧ f.e < 9223372036854775808

/-- A row of factors lies there. -/
structure PowsAt (w : World) (A : Option Addr) (C : Nat) (fs : List Pw) : Prop where
  cap : fs.length ≤ C
  max : C ≤ maxLen
  get : ∀ (i : Nat) (f : Pw), fs[i]? = some f → ∃ b o, A = some ⟨b, o, none⟩ ∧ b < w.heap.size ∧ w.cell? ⟨b, o + i * 2, none⟩ = some (.int .u64 (f.q : Int)) ∧ w.cell? ⟨b, o + i * 2 + 1, none⟩ = some (.int .i64 f.e) ∧ f.ok
/-- A row of entries lies there. -/
structure EntsAt (w : World) (A : Option Addr) (C : Nat) (es : List En) : Prop where
  cap : es.length ≤ C
  max : C ≤ maxLen
  get : ∀ (i : Nat) (x : En), es[i]? = some x → ∃ b o A' C', A = some ⟨b, o, none⟩ ∧ b < w.heap.size ∧ w.cell? ⟨b, o + i * 3, none⟩ = some (.int .u64 (x.p : Int)) ∧ w.cell? ⟨b, o + i * 3 + 1, none⟩ = some (.int .u64 (x.g : Int)) ∧ w.cell? ⟨b, o + i * 3 + 2, none⟩ = some (.slice A' x.fs.length C') ∧ PowsAt w A' C' x.fs ∧ x.p < 18446744073709551616 ∧ x.g < 18446744073709551616

theorem PowsAt.below {w w' : World} {A : Option Addr} {C : Nat} {fs : List Pw} (h : PowsAt w A C fs) (hb : Below w.heap.size w w') : PowsAt w' A C fs := by
  refine ⟨h.cap, h.max, fun i f hf => ?_⟩
  obtain ⟨b, o, hA, hl, c0, c1, k⟩ := h.get i f hf
  obtain ⟨hc, _⟩ := bcell hb
  exact ⟨b, o, hA, Nat.lt_of_lt_of_le hl hb.size, by rw [hc _ _ hl]; exact c0, by rw [hc _ _ hl]; exact c1, k⟩
theorem EntsAt.below {w w' : World} {A : Option Addr} {C : Nat} {es : List En} (h : EntsAt w A C es) (hb : Below w.heap.size w w') : EntsAt w' A C es := by
  refine ⟨h.cap, h.max, fun i x hx => ?_⟩
  obtain ⟨b, o, A', C', hA, hl, c0, c1, c2, hp, k⟩ := h.get i x hx
  obtain ⟨hc, _⟩ := bcell hb
  exact ⟨b, o, A', C', hA, Nat.lt_of_lt_of_le hl hb.size, by rw [hc _ _ hl]; exact c0, by rw [hc _ _ hl]; exact c1, by rw [hc _ _ hl]; exact c2, hp.below hb, k⟩
/-- The beginning of a row. -/
theorem EntsAt.take {w : World} {A : Option Addr} {C : Nat} {es : List En} (h : EntsAt w A C es) (k : Nat) : EntsAt w A C (es.take k) := by
  refine ⟨by have := h.cap; have := List.length_take_le' k es; omega, h.max, fun i x hx => ?_⟩
  refine h.get i x ?_
  rw [List.getElem?_take] at hx
  split at hx
  · exact hx
  · cases hx

/-- A call that answers so in every world that holds what this one held, and leaves all that was there. -/
def AnsB (W : World) (f : FuncId) (args : Array Value) (v : Value) : Prop := ∀ w, Below W.heap.size W w → Calls Try.prog f args w fun e w' => e = .returned v ∧ Below w.heap.size w w'
theorem AnsB.use {W : World} {f : FuncId} {args : Array Value} {v : Value} (h : AnsB W f args v) {w : World} (hw : Below W.heap.size W w) {R : Ending → World → Prop} (k : ∀ w', Below w.heap.size w w' → R (.returned v) w') : Calls Try.prog f args w R :=
  (h w hw).mono fun _ _ ⟨he, hb⟩ => by subst he; exact k _ hb
theorem AnsB.to {W : World} {f : FuncId} {args : Array Value} {v v' : Value} (h : AnsB W f args v) (e : v = v') : AnsB W f args v' := e ▸ h
theorem AnsB.on {W W' : World} {f : FuncId} {args : Array Value} {v : Value} (h : AnsB W f args v) (hb : Below W.heap.size W W') : AnsB W' f args v :=
  fun w hw => h w (hb.trans (hw.mono hb.size))
theorem bthen {B : Nat} {w w1 w2 : World} (h : Below B w w1) (hB : B ≤ w.heap.size) (k : Below w1.heap.size w1 w2) : Below B w w2 := h.trans (k.mono (Nat.le_trans hB h.size))
/-- One behind the other. -/
theorem bb {w w1 w2 : World} (h : Below w.heap.size w w1) (k : Below w1.heap.size w1 w2) : Below w.heap.size w w2 := bthen h (Nat.le_refl _) k
theorem below_drewN (w : World) (n : Nat) : Below w.heap.size w (w.drewN n) := ⟨rfl, rfl, rfl, Nat.le_refl _, fun _ _ => rfl⟩
theorem Ans.toB {f : FuncId} {args : Array Value} {v : Value} (h : Ans f args v) (W : World) : AnsB W f args v := fun w _ => h.use w fun n => ⟨rfl, below_drewN w n⟩
theorem cell_new (w : World) (v : Value) (t : TypeId) : (w.alloc (.cells #[v] t)).cell? ⟨w.heap.size, 0, none⟩ = some v := by
  rw [World.cell?_alloc_at _ _ _ _ rfl]; rfl
theorem below_alloc (w : World) (o : Obj) : Below w.heap.size w (w.alloc o) := (Below.refl _ _).alloc (Nat.le_refl _) o
theorem AnsB.regrown {W : World} {f : FuncId} {args : Array Value} {v : Value} (h : AnsB W f args v) {w : World} (hw : Below W.heap.size W w) {d : Nat} {os : Array Obj} : Calls Try.prog f args (Go.Sort.grow (redrawn w d) os) fun e w'' => e = .returned v ∧ ∃ p : Regrown, w'' = Go.Sort.grow (redrawn w p.d) p.os :=
  Calls.regrown_of (h _ (hw.trans ((below_regrown w d os).mono hw.size)))
end Go.Proofs.Ytccknfhhmdoffaa

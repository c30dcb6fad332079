/-
  What every text of this seat stands on: words, calls that answer in every world and only draw, calls that answer so from one world on. No condition.
-/
import Derived.Test.YtpjfapibjihbbaaProg
import Derived.WalkKit
import Derived.WalkSpells
import Derived.WalkLawsBesides
import Derived.Deep.RegionHeld3
import Derived.Deep.QuietTactic
import Derived.BigQuiet
import Derived.RowKit3
import Derived.Lib.QuietBelow
import Derived.Below
import Derived.Laws.AppendOwnNone
import Derived.StillTail
import Derived.Deep.AppendLies
namespace Go.Proofs.Ytpjfapibjihbbaa
set_option linter.unusedVariables false
open Go.RowKit

/-- A word. -/
def Wd (x : Int) : Prop := 0 ≤ x ∧ x < 18446744073709551616

theorem bcell {W w1 : World} (hb : Below W.heap.size W w1) : (∀ b o, b < W.heap.size → w1.cell? ⟨b, o, none⟩ = W.cell? ⟨b, o, none⟩) ∧ (∀ b o, b < W.heap.size → w1.frozen? ⟨b, o, none⟩ = W.frozen? ⟨b, o, none⟩) :=
  ⟨fun b o h => hb.cell (p := ⟨b, o, none⟩) h, fun b o h => hb.frozen (p := ⟨b, o, none⟩) h⟩

/-- A call that answers so in every world, and leaves memory as it was (the tape may have been drawn from). -/
def Ans (f : FuncId) (args : Array Value) (v : Value) : Prop := ∀ w, Calls Try.prog f args w fun e w' => e = .returned v ∧ ∃ n, w' = w.drewN n

/-- .. used at a call. -/
theorem Ans.use {f : FuncId} {args : Array Value} {v : Value} (h : Ans f args v) (w : World) {R : Ending → World → Prop} (k : ∀ n, R (.returned v) (w.drewN n)) : Calls Try.prog f args w R :=
  (h w).mono fun _ _ ⟨he, n, hw⟩ => by subst he; subst hw; exact k n
/-- .. used at a call inside a region that draws its order. -/
theorem Ans.quiet {f : FuncId} {args : Array Value} {v : Value} (h : Ans f args v) {w : World} {N x : Nat} : Calls Try.prog f args (w.drewN (N + x)) fun e w' => e = .returned v ∧ ∃ n, w' = w.drewN (N + n) :=
  h.use _ fun n => ⟨rfl, x + n, by rw [World.drewN_drewN, Nat.add_assoc]⟩
theorem Ans.quiet0 {f : FuncId} {args : Array Value} {v : Value} (h : Ans f args v) {w : World} {x : Nat} : Calls Try.prog f args (w.drewN x) fun e w' => e = .returned v ∧ ∃ n, w' = w.drewN n :=
  h.use _ fun n => ⟨rfl, x + n, by rw [World.drewN_drewN]⟩
theorem Ans.to {f : FuncId} {args : Array Value} {v v' : Value} (h : Ans f args v) (e : v = v') : Ans f args v' := e ▸ h
theorem ans_int {f : FuncId} {args : Array Value} {a b : Int} (h : Ans f args (.int .u64 a)) (e : a = b) : Ans f args (.int .u64 b) := e ▸ h

/-- A call that answers so in a world, however far its tape was drawn from, and leaves memory as it was. -/
def AnsW (w : World) (f : FuncId) (args : Array Value) (v : Value) : Prop := ∀ n, Calls Try.prog f args (w.drewN n) fun e w' => e = .returned v ∧ ∃ k, w' = w.drewN (n + k)
theorem Ans.toW {f : FuncId} {args : Array Value} {v : Value} (h : Ans f args v) (w : World) : AnsW w f args v := fun n => h.use _ fun k => ⟨rfl, k, by rw [World.drewN_drewN]⟩
theorem AnsW.use {w : World} {f : FuncId} {args : Array Value} {v : Value} (h : AnsW w f args v) (n : Nat) {R : Ending → World → Prop} (k : ∀ j, R (.returned v) (w.drewN (n + j))) : Calls Try.prog f args (w.drewN n) R :=
  (h n).mono fun _ _ ⟨he, n, hw⟩ => by subst he; subst hw; exact k n
theorem AnsW.use0 {w : World} {f : FuncId} {args : Array Value} {v : Value} (h : AnsW w f args v) {R : Ending → World → Prop} (k : ∀ j, R (.returned v) (w.drewN j)) : Calls Try.prog f args w R :=
  (h 0).mono fun _ _ ⟨he, n, hw⟩ => by subst he; subst hw; rw [Nat.zero_add]; exact k n
theorem AnsW.quiet {w : World} {f : FuncId} {args : Array Value} {v : Value} (h : AnsW w f args v) {N x : Nat} : Calls Try.prog f args (w.drewN (N + x)) fun e w' => e = .returned v ∧ ∃ n, w' = w.drewN (N + n) :=
  h.use _ fun n => ⟨rfl, x + n, by rw [Nat.add_assoc]⟩
theorem AnsW.quiet0 {w : World} {f : FuncId} {args : Array Value} {v : Value} (h : AnsW w f args v) {x : Nat} : Calls Try.prog f args (w.drewN x) fun e w' => e = .returned v ∧ ∃ n, w' = w.drewN n :=
  h.use _ fun n => ⟨rfl, x + n, rfl⟩
theorem AnsW.to {w : World} {f : FuncId} {args : Array Value} {v v' : Value} (h : AnsW w f args v) (e : v = v') : AnsW w f args v' := e ▸ h
theorem ansW_int {w : World} {f : FuncId} {args : Array Value} {a b : Int} (h : AnsW w f args (.int .u64 a)) (e : a = b) : AnsW w f args (.int .u64 b) := e ▸ h

theorem wd_nat {x : Int} (h : Wd x) : ∃ n : Nat, x = n ∧ n < 18446744073709551616 := by
  obtain ⟨n, rfl⟩ := Int.eq_ofNat_of_zero_le h.1
  exact ⟨n, rfl, by have := h.2; omega⟩
theorem wd_of_wf {x : Int} (h : (Lit.int .u64 x).wf = true) : ∃ n : Nat, x = n ∧ n < 18446744073709551616 := by
  have : 0 ≤ x ∧ x < 18446744073709551616 := by
    simp [Lit.wf, IntKind.min, IntKind.max, IntKind.signed, IntKind.bits] at h
    exact ⟨by omega, by omega⟩
  exact wd_nat this
theorem grown_drewN (w : World) (n : Nat) : Grown w (w.drewN n) := by
  have h := Grown.refl w
  exact h
theorem Ans.grown {f : FuncId} {args : Array Value} {v : Value} (h : Ans f args v) (w : World) : Calls Try.prog f args w fun e w' => e = .returned v ∧ Grown w w' :=
  h.use w fun n => ⟨rfl, grown_drewN w n⟩
theorem ret_int {k : IntKind} {a b : Int} (h : a = b) : Ending.returned (.int k a) = .returned (.int k b) := by rw [h]
theorem nz {m : Nat} (h : m ≠ 0) : ((m : Int) == 0) = false := by simp; omega
theorem and_one (x : Int) (h0 : 0 ≤ x) (h1 : x < 18446744073709551616) : bits .and .u64 x 1 = x % 2 := by
  obtain ⟨a, rfl⟩ := Int.eq_ofNat_of_zero_le h0
  have := u64_and_nat a 1 (by omega) (by omega)
  rw [show ((1 : Nat) : Int) = 1 from rfl] at this
  rw [this, show (1 : Nat) = 2 ^ 1 - 1 from rfl, Nat.and_two_pow_sub_one_eq_mod]
  omega
end Go.Proofs.Ytpjfapibjihbbaa
/-
  Rows of factors and of entries, as they lie in memory: what is there, and that it stays there while nothing old turns.
-/
namespace Go.Proofs.Ytpjfapibjihbbaa
set_option linter.unusedVariables false
open Go.RowKit

/-- A factor. -/
structure Pw where
  q : Nat
  e : Int
/-- An entry. -/
structure En where
  p : Nat
  g : Nat
  fs : List Pw
def Pw.ok (f : Pw) : Prop := f.q < 18446744073709551616 ∧ -9223372036854775808 ≤ f.e ∧ f.e < 9223372036854775808

/-- A row of factors lies there. -/
structure PowsAt (w : World) (A : Option Addr) (C : Nat) (fs : List Pw) : Prop where
  cap : fs.length ≤ C
  max : C ≤ maxLen
  get : ∀ (i : Nat) (f : Pw), fs[i]? = some f → ∃ b o, A = some ⟨b, o, none⟩ ∧ b < w.heap.size ∧ w.cell? ⟨b, o + i * 2, none⟩ = some (.int .u64 (f.q : Int)) ∧ w.cell? ⟨b, o + i * 2 + 1, none⟩ = some (.int .i64 f.e) ∧ f.ok
/-- A row of entries lies there. -/
structure EntsAt (w : World) (A : Option Addr) (C : Nat) (es : List En) : Prop where
  cap : es.length ≤ C
  max : C ≤ maxLen
  get : ∀ (i : Nat) (x : En), es[i]? = some x → ∃ b o A' C', A = some ⟨b, o, none⟩ ∧ b < w.heap.size ∧ w.cell? ⟨b, o + i * 3, none⟩ = some (.int .u64 (x.p : Int)) ∧ w.cell? ⟨b, o + i * 3 + 1, none⟩ = some (.int .u64 (x.g : Int)) ∧ w.cell? ⟨b, o + i * 3 + 2, none⟩ = some (.slice A' x.fs.length C') ∧ PowsAt w A' C' x.fs ∧ x.p < 18446744073709551616 ∧ x.g < 18446744073709551616

theorem PowsAt.below {w w' : World} {A : Option Addr} {C : Nat} {fs : List Pw} (h : PowsAt w A C fs) (hb : Below w.heap.size w w') : PowsAt w' A C fs := by
  refine ⟨h.cap, h.max, fun i f hf => ?_⟩
  obtain ⟨b, o, hA, hl, c0, c1, k⟩ := h.get i f hf
  obtain ⟨hc, _⟩ := bcell hb
  exact ⟨b, o, hA, Nat.lt_of_lt_of_le hl hb.size, by rw [hc _ _ hl]; exact c0, by rw [hc _ _ hl]; exact c1, k⟩
theorem EntsAt.below {w w' : World} {A : Option Addr} {C : Nat} {es : List En} (h : EntsAt w A C es) (hb : Below w.heap.size w w') : EntsAt w' A C es := by
  refine ⟨h.cap, h.max, fun i x hx => ?_⟩
  obtain ⟨b, o, A', C', hA, hl, c0, c1, c2, hp, k⟩ := h.get i x hx
  obtain ⟨hc, _⟩ := bcell hb
  exact ⟨b, o, A', C', hA, Nat.lt_of_lt_of_le hl hb.size, by rw [hc _ _ hl]; exact c0, by rw [hc _ _ hl]; exact c1, by rw [hc _ _ hl]; exact c2, hp.below hb, k⟩
/-- The beginning of a row. -/
theorem EntsAt.take {w : World} {A : Option Addr} {C : Nat} {es : List En} (h : EntsAt w A C es) (k : Nat) : EntsAt w A C (es.take k) := by
  refine ⟨by have := h.cap; have := List.length_take_le' k es; omega, h.max, fun i x hx => ?_⟩
  refine h.get i x ?_
  rw [List.getElem?_take] at hx
  split at hx
  · exact hx
  · cases hx

/-- A call that answers so in every world that holds what this one held, and leaves all that was there. -/
def AnsB (W : World) (f : FuncId) (args : Array Value) (v : Value) : Prop := ∀ w, Below W.heap.size W w → Calls Try.prog f args w fun e w' => e = .returned v ∧ Below w.heap.size w w'
theorem AnsB.use {W : World} {f : FuncId} {args : Array Value} {v : Value} (h : AnsB W f args v) {w : World} (hw : Below W.heap.size W w) {R : Ending → World → Prop} (k : ∀ w', Below w.heap.size w w' → R (.returned v) w') : Calls Try.prog f args w R :=
  (h w hw).mono fun _ _ ⟨he, hb⟩ => by subst he; exact k _ hb
theorem AnsB.to {W : World} {f : FuncId} {args : Array Value} {v v' : Value} (h : AnsB W f args v) (e : v = v') : AnsB W f args v' := e ▸ h
theorem AnsB.on {W W' : World} {f : FuncId} {args : Array Value} {v : Value} (h : AnsB W f args v) (hb : Below W.heap.size W W') : AnsB W' f args v :=
  fun w hw => h w (hb.trans (hw.mono hb.size))
theorem bthen {B : Nat} {w w1 w2 : World} (h : Below B w w1) (hB : B ≤ w.heap.size) (k : Below w1.heap.size w1 w2) : Below B w w2 := h.trans (k.mono (Nat.le_trans hB h.size))
/-- One behind the other. -/
theorem bb {w w1 w2 : World} (h : Below w.heap.size w w1) (k : Below w1.heap.size w1 w2) : Below w.heap.size w w2 := bthen h (Nat.le_refl _) k
theorem below_drewN (w : World) (n : Nat) : Below w.heap.size w (w.drewN n) := ⟨rfl, rfl, rfl, Nat.le_refl _, fun _ _ => rfl⟩
theorem Ans.toB {f : FuncId} {args : Array Value} {v : Value} (h : Ans f args v) (W : World) : AnsB W f args v := fun w _ => h.use w fun n => ⟨rfl, below_drewN w n⟩
theorem cell_new (w : World) (v : Value) (t : TypeId) : (w.alloc (.cells #[v] t)).cell? ⟨w.heap.size, 0, none⟩ = some v := by
  rw [World.cell?_alloc_at _ _ _ _ rfl]; rfl
theorem below_alloc (w : World) (o : Obj) : Below w.heap.size w (w.alloc o) := (Below.refl _ _).alloc (Nat.le_refl _) o
theorem AnsB.regrown {W : World} {f : FuncId} {args : Array Value} {v : Value} (h : AnsB W f args v) {w : World} (hw : Below W.heap.size W w) {d : Nat} {os : Array Obj} : Calls Try.prog f args (Go.Sort.grow (redrawn w d) os) fun e w'' => e = .returned v ∧ ∃ p : Regrown, w'' = Go.Sort.grow (redrawn w p.d) p.os :=
  Calls.regrown_of (h _ (hw.trans ((below_regrown w d os).mono hw.size)))
end Go.Proofs.Ytpjfapibjihbbaa
/-
  Rows of words: as they lie, of one's own (made, grown by append, stored into), copied; a call that answers a new one. No condition but that the rows lie there.
-/
namespace Go.Proofs.Ytpjfapibjihbbaa
set_option linter.unusedVariables false
open Go.RowKit

/-- A call that answers so in every world that holds what this one held, and leaves the world as it was. -/
def AnsQ (W : World) (f : FuncId) (args : Array Value) (v : Value) : Prop := ∀ w, Below W.heap.size W w → Calls Try.prog f args w fun e w' => e = .returned v ∧ w' = w
theorem AnsQ.use {W : World} {f : FuncId} {args : Array Value} {v : Value} (h : AnsQ W f args v) {w : World} (hw : Below W.heap.size W w) {R : Ending → World → Prop} (k : R (.returned v) w) : Calls Try.prog f args w R :=
  (h w hw).mono fun _ _ ⟨he, hb⟩ => by subst he; subst hb; exact k
theorem AnsQ.to {W : World} {f : FuncId} {args : Array Value} {v v' : Value} (h : AnsQ W f args v) (e : v = v') : AnsQ W f args v' := e ▸ h
theorem AnsQ.on {W W' : World} {f : FuncId} {args : Array Value} {v : Value} (h : AnsQ W f args v) (hb : Below W.heap.size W W') : AnsQ W' f args v :=
  fun w hw => h w (hb.trans (hw.mono hb.size))
theorem AnsQ.toB {W : World} {f : FuncId} {args : Array Value} {v : Value} (h : AnsQ W f args v) : AnsB W f args v :=
  fun w hw => (h w hw).mono fun _ _ ⟨he, hb⟩ => ⟨he, by subst hb; exact Below.refl _ _⟩
theorem AnsQ.toW {W : World} {f : FuncId} {args : Array Value} {v : Value} (h : AnsQ W f args v) {w : World} (hw : Below W.heap.size W w) : AnsW w f args v :=
  fun n => (h _ (hw.trans ((below_drewN w n).mono hw.size))).mono fun _ _ ⟨he, hb⟩ => ⟨he, 0, by rw [hb, Nat.add_zero]⟩

theorem below_dN {B : Nat} {w w' : World} (h : Below B w w') (n : Nat) : Below B w (w'.drewN n) := h.trans ⟨rfl, rfl, rfl, Nat.le_refl _, fun _ _ => rfl⟩

theorem ret_b {a b : Bool} (h : a = b) : Ending.returned (.bool a) = .returned (.bool b) := by rw [h]

theorem infoWd : (Try.prog.info? 31).map (fun i => (i.zero, i.size, i.bytes)) = some (some (.int .u64 0), 1, 8) := by kernel_rfl
theorem grown_below {W W' : World} (h : Below W.heap.size W W') : W.grownBy W' none := ⟨h.os, h.tape, h.output, h.size, fun k hk _ => h.block k hk⟩
theorem row_below {base : Nat} {e : TypeId} {v : Value} {n : Nat} {xs : List Value} {X Y : World} (h : X.ownsRow base e 1 v n xs) (hb : Below X.heap.size X Y) : Y.ownsRow base e 1 v n xs := h.kept (grown_below hb) (by
  cases hv : v.ownBlock with
  | none => exact .inl rfl
  | some g => exact .inr (by simp))
theorem one_new (w : World) (v : Value) (t : TypeId) : ∀ (i : Nat) (x : Value), [v][i]? = some x → (w.alloc (.cells #[v] t)).cell? ((⟨w.heap.size, 0, none⟩ : Addr).add i) = some x := by
  intro i x hx
  rw [Addr.add_lit, World.cell?_alloc_at _ _ _ _ rfl]
  match i, hx with
  | 0, hx => cases hx; rfl
  | i + 1, hx => simp at hx
/-- The first k of n, the others as they are made. -/
def wfl {α : Type} (d : α) (n k : Nat) (f : Nat → α) : List α := (List.range n).map fun j => if j < k then f j else d
theorem wfl_len {α : Type} (d : α) (n k : Nat) (f : Nat → α) : (wfl d n k f).length = n := by simp [wfl]
theorem wfl_get {α : Type} (d : α) {n k j : Nat} (f : Nat → α) (h : j < n) : (wfl d n k f)[j]? = some (if j < k then f j else d) := by
  unfold wfl; rw [List.getElem?_map, List.getElem?_range h]; rfl
theorem wfl_zero {α : Type} (d : α) (n : Nat) (f : Nat → α) : wfl d n 0 f = List.replicate n d := by
  apply List.ext_getElem?
  intro j
  by_cases h : j < n
  · rw [wfl_get d f h, List.getElem?_replicate, if_pos h, if_neg (by omega)]
  · rw [List.getElem?_eq_none (by rw [wfl_len]; omega), List.getElem?_eq_none (by simp; omega)]
theorem wfl_set {α : Type} (d : α) (n k : Nat) (f : Nat → α) : (wfl d n k f).set k (f k) = wfl d n (k + 1) f := by
  apply List.ext_getElem?
  intro j
  rw [List.getElem?_set]
  by_cases h : j < n
  · rw [wfl_get d f h, wfl_get d f h, wfl_len]
    by_cases e : k = j
    · subst e; rw [if_pos rfl, if_pos h, if_pos (by omega)]
    · rw [if_neg e]
      by_cases h2 : j < k
      · rw [if_pos h2, if_pos (by omega)]
      · rw [if_neg h2, if_neg (by omega)]
  · rw [List.getElem?_eq_none (by rw [wfl_len]; omega), List.getElem?_eq_none (by rw [wfl_len]; omega), wfl_len]
    by_cases e : k = j
    · rw [if_pos e, if_neg (by omega)]
    · rw [if_neg e]
theorem wfl_all {α : Type} (d : α) (n : Nat) (f : Nat → α) : wfl d n n f = (List.range n).map f := by
  unfold wfl
  apply List.map_congr_left
  intro j hj
  rw [if_pos (List.mem_range.1 hj)]
theorem made_list {d : Value} (h : d.cells = #[d]) (n : Nat) : (madeCells d.cells (n * 1)).toList = List.replicate n d := by
  rw [Nat.mul_one, h, toList_madeCells_one]

/-- A row of words lies there. -/
structure UAt (w : World) (A : Option Addr) (C : Nat) (xs : List Nat) : Prop where
  nil : A = none → C = 0
  cap : xs.length ≤ C
  max : C ≤ maxLen
  get : ∀ (i : Nat) (x : Nat), xs[i]? = some x → ∃ b o, A = some ⟨b, o, none⟩ ∧ b < w.heap.size ∧ w.cell? ⟨b, o + i, none⟩ = some (.int .u64 (x : Int)) ∧ x < 18446744073709551616
theorem UAt.below {w w' : World} {A : Option Addr} {C : Nat} {xs : List Nat} (h : UAt w A C xs) (hb : Below w.heap.size w w') : UAt w' A C xs := by
  refine ⟨h.nil, h.cap, h.max, fun i f hf => ?_⟩
  obtain ⟨b, o, hA, hl, c0, k⟩ := h.get i f hf
  obtain ⟨hc, _⟩ := bcell hb
  exact ⟨b, o, hA, Nat.lt_of_lt_of_le hl hb.size, by rw [hc _ _ hl]; exact c0, k⟩
theorem UAt.len {w : World} {A : Option Addr} {C : Nat} {xs : List Nat} (h : UAt w A C xs) : (xs.length : Int) ≤ 9223372036854775807 := by
  have := h.cap; have := h.max; unfold maxLen at this; omega
def ucells (xs : List Nat) : List Value := xs.map fun (x : Nat) => .int .u64 (x : Int)
theorem ucells_at {xs : List Nat} {j : Nat} {u : Value} (h : (ucells xs)[j]? = some u) : ∃ x : Nat, xs[j]? = some x ∧ u = .int .u64 (x : Int) := by
  unfold ucells at h
  rw [List.getElem?_map] at h
  cases hz : xs[j]? with
  | none => rw [hz] at h; cases h
  | some z => rw [hz] at h; cases h; exact ⟨z, rfl, rfl⟩
theorem ucells_get {xs : List Nat} {j x : Nat} (h : xs[j]? = some x) : (ucells xs)[j]? = some (.int .u64 (x : Int)) := by
  unfold ucells; rw [List.getElem?_map, h]; rfl
theorem ucells_set (xs : List Nat) (k x : Nat) : ucells (xs.set k x) = (ucells xs).set k (.int .u64 (x : Int)) := by simp [ucells, List.map_set]
/-- A row of words of one's own. -/
def OwnU (w : World) (base : Nat) (A : Option Addr) (C : Nat) (xs : List Nat) : Prop := w.ownsRow base 31 1 (.slice A xs.length C) xs.length (ucells xs)
theorem OwnU.below {w w' : World} {base : Nat} {A : Option Addr} {C : Nat} {xs : List Nat} (h : OwnU w base A C xs) (hb : Below w.heap.size w w') : OwnU w' base A C xs := row_below h hb
theorem OwnU.words {w : World} {base : Nat} {A : Option Addr} {C : Nat} {xs : List Nat} (h : OwnU w base A C xs) (hok : ∀ x ∈ xs, x < 18446744073709551616) : UAt w A C xs := by
  have h' := h
  rcases h.2 with ⟨hv, hn⟩ | ⟨g, cap, cur, hv, hb, hg, hc, hm, _⟩
  · simp only [Value.slice.injEq] at hv
    obtain ⟨rfl, hl, rfl⟩ := hv
    refine ⟨fun _ => rfl, by omega, by unfold maxLen; omega, fun i f hf => ?_⟩
    have := (List.getElem?_eq_some_iff.1 hf).1; omega
  · simp only [Value.slice.injEq] at hv
    obtain ⟨rfl, hl, rfl⟩ := hv
    refine ⟨(fun h => by cases h), hc, hm, fun i x hx => ?_⟩
    have ca := World.ownsRow.cells h' (g := g) rfl i (.int .u64 (x : Int)) (ucells_get hx)
    refine ⟨g, 0, rfl, (Array.getElem?_eq_some_iff.1 hg).1, ?_, hok x (List.mem_of_getElem? hx)⟩
    rw [Nat.zero_add]; rw [Addr.add_lit] at ca; simpa using ca
theorem UAt.small {w : World} {A : Option Addr} {C : Nat} {xs : List Nat} (h : UAt w A C xs) : ∀ x ∈ xs, x < 18446744073709551616 := fun x hx => by
  obtain ⟨j, hj, rfl⟩ := List.getElem_of_mem hx
  obtain ⟨_, _, _, _, _, k⟩ := h.get j _ (List.getElem?_eq_getElem hj)
  exact k
theorem UAt.empty {w : World} {C : Nat} {xs : List Nat} (h : UAt w none C xs) : xs = [] ∧ C = 0 := by
  refine ⟨?_, h.nil rfl⟩
  cases xs with
  | nil => rfl
  | cons f fs => obtain ⟨_, _, h, _⟩ := h.get 0 f rfl; cases h
theorem grownBy_set (W : World) (b k : Nat) (v : Value) : W.grownBy (W.setCell ⟨b, k, none⟩ v) (some b) :=
  ⟨rfl, rfl, rfl, (show W.heap.size ≤ (W.heap.modify b _).size by rw [Array.size_modify]; exact Nat.le_refl _), fun k _ hk => Below.heap_setCell _ _ _ k (fun e => hk (by rw [e]))⟩
theorem own_other {w : World} {base : Nat} {e : TypeId} {v : Value} {n : Nat} {xs : List Value} (h : w.ownsRow base e 1 v n xs) {g : Nat} (hne : v.ownBlock ≠ some g) (k : Nat) (u : Value) : (w.setCell ⟨g, k, none⟩ u).ownsRow base e 1 v n xs :=
  h.kept (row := some g) (grownBy_set _ _ _ _) (.inr hne)
theorem own_some {w : World} {base : Nat} {e : TypeId} {A : Option Addr} {C n : Nat} {xs : List Value} (h : w.ownsRow base e 1 (.slice A n C) n xs) (hn : 0 < n) : ∃ g, A = some ⟨g, 0, none⟩ := by
  rcases h.2 with ⟨_, hz⟩ | ⟨g, cap, cur, hv, _⟩
  · omega
  · simp only [Value.slice.injEq] at hv
    exact ⟨g, hv.1⟩
theorem ret_slice {A : Option Addr} {n C : Nat} {a c : Int} (h : a = c) : Ending.returned (.tuple #[.slice A n C, .int .i64 a]) = .returned (.tuple #[.slice A n C, .int .i64 c]) := by rw [h]
theorem ucells_len (xs : List Nat) : (ucells xs).length = xs.length := by simp [ucells]
theorem ucells_snoc (xs : List Nat) (x : Nat) : ucells (xs ++ [x]) = ucells xs ++ [.int .u64 (x : Int)] := by simp [ucells]
/-- A call that answers a new row of words of its own, and no error. -/
def OwnT (W : World) (f : FuncId) (args : Array Value) (l : List Nat) : Prop := ∀ w, Below W.heap.size W w → Calls Try.prog f args w fun e w' => ∃ A1 C1, e = .returned (.tuple #[.slice A1 l.length C1, .int .i64 0]) ∧ OwnU w' w.heap.size A1 C1 l ∧ Below w.heap.size w w'
theorem OwnT.use {W : World} {f : FuncId} {args : Array Value} {l : List Nat} (h : OwnT W f args l) {w : World} (hw : Below W.heap.size W w) {R : Ending → World → Prop} (k : ∀ A1 C1 w', OwnU w' w.heap.size A1 C1 l → Below w.heap.size w w' → R (.returned (.tuple #[.slice A1 l.length C1, .int .i64 0])) w') : Calls Try.prog f args w R :=
  (h w hw).mono fun _ _ ⟨A', C', he, h1, h2⟩ => by subst he; exact k _ _ _ h1 h2
/-- A call that answers a new row of words of its own. -/
def OwnR (W : World) (f : FuncId) (args : Array Value) (l : List Nat) : Prop := ∀ w, Below W.heap.size W w → Calls Try.prog f args w fun e w' => ∃ A1 C1, e = .returned (.slice A1 l.length C1) ∧ OwnU w' w.heap.size A1 C1 l ∧ Below w.heap.size w w'
theorem OwnR.use {W : World} {f : FuncId} {args : Array Value} {l : List Nat} (h : OwnR W f args l) {w : World} (hw : Below W.heap.size W w) {R : Ending → World → Prop} (k : ∀ A1 C1 w', OwnU w' w.heap.size A1 C1 l → Below w.heap.size w w' → R (.returned (.slice A1 l.length C1)) w') : Calls Try.prog f args w R :=
  (h w hw).mono fun _ _ ⟨A', C', he, h1, h2⟩ => by subst he; exact k _ _ _ h1 h2
theorem OwnU.get {w : World} {base : Nat} {A : Option Addr} {C : Nat} {xs : List Nat} (h : OwnU w base A C xs) {i x : Nat} (hx : xs[i]? = some x) : ∃ g, A = some ⟨g, 0, none⟩ ∧ base ≤ g ∧ g < w.heap.size ∧ w.cell? ⟨g, i, none⟩ = some (.int .u64 (x : Int)) ∧ w.frozen? ⟨g, i, none⟩ = false := by
  have h' := h
  rcases h.2 with ⟨_, hz⟩ | ⟨g, cap, cur, hv, hb, hg, _⟩
  · have := (List.getElem?_eq_some_iff.1 hx).1; omega
  · simp only [Value.slice.injEq] at hv
    obtain ⟨rfl, _, rfl⟩ := hv
    have hi := (List.getElem?_eq_some_iff.1 hx).1
    refine ⟨g, rfl, hb, (Array.getElem?_eq_some_iff.1 hg).1, ?_, World.ownsRow.frozenAt h' i⟩
    exact (World.ownsRow.cellAt h' i (by omega)).trans (ucells_get hx)
theorem OwnU.set {w : World} {base : Nat} {g C : Nat} {xs : List Nat} (h : OwnU w base (some ⟨g, 0, none⟩) C xs) (k y : Nat) : OwnU (w.setCell ⟨g, k, none⟩ (.int .u64 (y : Int))) base (some ⟨g, 0, none⟩) C (xs.set k y) := by
  have := (World.ownsRow.stored h k (.int .u64 (y : Int))).1
  unfold OwnU
  rw [ucells_set, List.length_set]
  exact this
theorem OwnU.base {w : World} {base base' : Nat} {A : Option Addr} {C : Nat} {xs : List Nat} (h : OwnU w base A C xs) (hb : base' ≤ base) : OwnU w base' A C xs :=
  ⟨h.1, h.2.imp id fun ⟨g, cap, cur, hv, h1, r⟩ => ⟨g, cap, cur, hv, Nat.le_trans hb h1, r⟩⟩
theorem UAt.at {w : World} {b o C : Nat} {xs : List Nat} (h : UAt w (some ⟨b, o, none⟩) C xs) {i x : Nat} (hx : xs[i]? = some x) : w.cell? ⟨b, o + i, none⟩ = some (.int .u64 (x : Int)) ∧ x < 18446744073709551616 ∧ b < w.heap.size := by
  obtain ⟨b2, o2, hA, hb, c, hl⟩ := h.get i x hx
  simp only [Option.some.injEq, Addr.mk.injEq, and_true] at hA
  obtain ⟨rfl, rfl⟩ := hA
  exact ⟨c, hl, hb⟩
theorem UAt.addr {w : World} {A : Option Addr} {C : Nat} {xs : List Nat} (h : UAt w A C xs) (hn : 1 ≤ xs.length) : ∃ b o, A = some ⟨b, o, none⟩ := by
  obtain ⟨b, o, hA, _⟩ := h.get 0 _ (List.getElem?_eq_getElem (by omega))
  exact ⟨b, o, hA⟩
theorem getD_of {t : List Nat} {i x : Nat} (h : t[i]? = some x) : t.getD i 0 = x := by rw [List.getD_eq_getElem?_getD, h]; rfl
theorem get_of {t : List Nat} {i : Nat} (h : i < t.length) : t[i]? = some (t.getD i 0) := by rw [List.getD_eq_getElem?_getD, List.getElem?_eq_getElem h]; rfl
theorem wrN {x : Nat} (h : x ≤ 16777216) : wrap64 (x : Int) = (x : Int) := by unfold wrap64; omega
theorem wrN1 {x : Nat} (h : x ≤ 16777216) : wrap64 ((x : Int) + 1) = (x : Int) + 1 := by unfold wrap64; omega
theorem wrL {x n : Nat} (h : x < n) (hn : n ≤ 4096) : wrap64 (x : Int) = (x : Int) := wrN (Nat.le_trans (Nat.le_of_lt h) (Nat.le_trans hn (by decide)))
theorem wrL1 {x n : Nat} (h : x < n) (hn : n ≤ 4096) : wrap64 ((x : Int) + 1) = (x : Int) + 1 := wrN1 (Nat.le_trans (Nat.le_of_lt h) (Nat.le_trans hn (by decide)))
theorem ltI {x n : Nat} (h : x < n) : (x : Int) < (n : Int) := Int.ofNat_lt.2 h
theorem neB {x y : Nat} (h : x ≠ y) : ((x : Int) != (y : Int)) = true ∧ ¬ (x : Int) = (y : Int) := by
  have : ¬ (x : Int) = (y : Int) := by omega
  exact ⟨by simp; omega, this⟩
theorem eqB {x y : Nat} (h : x = y) : ((x : Int) != (y : Int)) = false ∧ (x : Int) = (y : Int) := by
  subst h; exact ⟨by simp, rfl⟩
theorem modI (x n : Nat) : Int.tmod (x : Int) (n : Int) = ((x % n : Nat) : Int) := rfl
theorem modI1 (x n : Nat) : Int.tmod ((x : Int) + 1) (n : Int) = (((x + 1) % n : Nat) : Int) := rfl
theorem divI (x n : Nat) : Int.tdiv (x : Int) (n : Int) = ((x / n : Nat) : Int) := rfl
theorem oneB {x : Nat} (h : x = 1) : ((x : Int) == 1) = true ∧ (x : Int) = 1 := by subst h; exact ⟨rfl, rfl⟩
theorem notOne {x : Nat} (h : ¬ x = 1) : ((x : Int) == 1) = false ∧ ¬ (x : Int) = 1 := by
  have : ¬ (x : Int) = 1 := by omega
  exact ⟨by simp; omega, this⟩
theorem natNe {x : Nat} (h : 1 ≤ x) : ¬ (x : Int) = 0 := by omega
theorem wrI {x : Nat} (h : x ≤ 16777216) : IntKind.i64.wrap (x : Int) = (x : Int) := by rw [IntKind.wrap_i64]; omega
theorem wrLI {x n : Nat} (h : x < n) (hn : n ≤ 4096) : IntKind.i64.wrap (x : Int) = (x : Int) := wrI (Nat.le_trans (Nat.le_of_lt h) (Nat.le_trans hn (by decide)))
/-- A quotient of ints, as the walk has it. -/
theorem divW {n q d : Nat} (h : n / q = d) (hd : d ≤ 16777216) : IntKind.i64.wrap ((n : Int) / (q : Int)) = (d : Int) := by rw [← Int.natCast_ediv, h]; exact wrI hd
theorem UAt.at0 {w : World} {b C : Nat} {xs : List Nat} (h : UAt w (some ⟨b, 0, none⟩) C xs) {i x : Nat} (hx : xs[i]? = some x) : w.cell? ⟨b, i, none⟩ = some (.int .u64 (x : Int)) := by
  have := (h.at hx).1
  rwa [Nat.zero_add] at this
/-- .. used where the row isn't empty, its length a letter. -/
theorem OwnT.useG {W : World} {f : FuncId} {args : Array Value} {l : List Nat} {n : Nat} (h : OwnT W f args l) (hl : l.length = n) (hn : 1 ≤ n) {w : World} (hw : Below W.heap.size W w) {R : Ending → World → Prop} (k : ∀ g C1 w', OwnU w' w.heap.size (some ⟨g, 0, none⟩) C1 l → Below w.heap.size w w' → R (.returned (.tuple #[.slice (some ⟨g, 0, none⟩) n C1, .int .i64 0])) w') : Calls Try.prog f args w R := by
  subst hl
  refine h.use hw fun A1 C1 w' h1 h2 => ?_
  obtain ⟨g, rfl, _⟩ := h1.get (List.getElem?_eq_getElem (show 0 < l.length by omega))
  exact k g C1 w' h1 h2
theorem OwnR.useG {W : World} {f : FuncId} {args : Array Value} {l : List Nat} {n : Nat} (h : OwnR W f args l) (hl : l.length = n) (hn : 1 ≤ n) {w : World} (hw : Below W.heap.size W w) {R : Ending → World → Prop} (k : ∀ g C1 w', OwnU w' w.heap.size (some ⟨g, 0, none⟩) C1 l → Below w.heap.size w w' → R (.returned (.slice (some ⟨g, 0, none⟩) n C1)) w') : Calls Try.prog f args w R := by
  subst hl
  refine h.use hw fun A1 C1 w' h1 h2 => ?_
  obtain ⟨g, rfl, _⟩ := h1.get (List.getElem?_eq_getElem (show 0 < l.length by omega))
  exact k g C1 w' h1 h2
theorem drewAny {w w' : World} (n : Nat) (h : w' = w.drewN n) : Below w.heap.size w w' := by subst h; exact below_drewN w n
end Go.Proofs.Ytpjfapibjihbbaa
/-
  Rows of ints as they lie in memory, shapes, and what a shape's size is: the program's and the document's. No condition.
-/
namespace Go.Proofs.Ytpjfapibjihbbaa
set_option linter.unusedVariables false
open Go.RowKit

def I64 (z : Int) : Prop := -9223372036854775808 ≤ z ∧ z < 9223372036854775808

/-- A row of ints lies there. -/
structure ZAt (w : World) (A : Option Addr) (C : Nat) (zs : List Int) : Prop where
  cap : zs.length ≤ C
  max : C ≤ maxLen
  get : ∀ (i : Nat) (z : Int), zs[i]? = some z → ∃ b o, A = some ⟨b, o, none⟩ ∧ b < w.heap.size ∧ w.cell? ⟨b, o + i, none⟩ = some (.int .i64 z) ∧ I64 z
theorem ZAt.below {w w' : World} {A : Option Addr} {C : Nat} {zs : List Int} (h : ZAt w A C zs) (hb : Below w.heap.size w w') : ZAt w' A C zs := by
  refine ⟨h.cap, h.max, fun i f hf => ?_⟩
  obtain ⟨b, o, hA, hl, c0, k⟩ := h.get i f hf
  obtain ⟨hc, _⟩ := bcell hb
  exact ⟨b, o, hA, Nat.lt_of_lt_of_le hl hb.size, by rw [hc _ _ hl]; exact c0, k⟩
theorem ZAt.len {w : World} {A : Option Addr} {C : Nat} {zs : List Int} (h : ZAt w A C zs) : (zs.length : Int) ≤ 9223372036854775807 := by
  have := h.cap; have := h.max; unfold maxLen at this; omega

/-! ### Sizes -/
def szGo : Nat → List Int → Option Nat
  | s, [] => some s
  | s, z :: zs => if z < 1 ∨ 4096 < z * (s : Int) then none else szGo (s * z.toNat) zs
def sz (zs : List Int) : Option Nat := if 4 < zs.length then none else szGo 1 zs
def sizeV (zs : List Int) : Int := (((sz zs).getD 0 : Nat) : Int)
def errV (zs : List Int) : Int := if 4 < zs.length then 1 else if (sz zs).isNone then 5 else 0
theorem szGo_bad {s : Nat} {z : Int} {zs : List Int} (h : z < 1 ∨ 4096 < z * (s : Int)) : szGo s (z :: zs) = none := by rw [szGo, if_pos h]
theorem szGo_ok {s : Nat} {z : Int} {zs : List Int} (h : ¬ (z < 1 ∨ 4096 < z * (s : Int))) : szGo s (z :: zs) = szGo (s * z.toNat) zs := by rw [szGo, if_neg h]
/-- The product. -/
def pr : List Nat → Nat
  | [] => 1
  | d :: ds => d * pr ds
/-- A shape. -/
structure Shp (ds : List Nat) : Prop where
  few : ds.length ≤ 4
  pos : ∀ d ∈ ds, 1 ≤ d
  max : pr ds ≤ 4096
def ints (ds : List Nat) : List Int := ds.map Int.ofNat
theorem szGo_some : ∀ (zs : List Int) (s t : Nat), 1 ≤ s → s ≤ 4096 → szGo s zs = some t → ∃ ds, zs = ints ds ∧ (∀ d ∈ ds, 1 ≤ d) ∧ t = s * pr ds ∧ t ≤ 4096
  | [], s, t, h1, h2, h => by
    cases h
    exact ⟨[], rfl, by simp, by simp [pr], h2⟩
  | z :: zs, s, t, h1, h2, h => by
    by_cases hz : z < 1 ∨ 4096 < z * (s : Int)
    · rw [szGo_bad hz] at h; cases h
    · rw [szGo_ok hz] at h
      simp only [not_or, Int.not_lt] at hz
      obtain ⟨d, rfl⟩ := Int.eq_ofNat_of_zero_le (show 0 ≤ z by omega)
      have hd : 1 ≤ d := by omega
      have hm : s * d ≤ 4096 := by have := hz.2; rw [Int.mul_comm, ← Int.natCast_mul] at this; omega
      rw [Int.toNat_natCast] at h
      obtain ⟨ds, rfl, hp, ht, hl⟩ := szGo_some zs (s * d) t (Nat.mul_le_mul h1 hd) hm h
      refine ⟨d :: ds, rfl, ?_, ?_, hl⟩
      · intro x hx
        rcases List.mem_cons.1 hx with rfl | hx
        · exact hd
        · exact hp x hx
      · rw [ht, pr, Nat.mul_assoc]
theorem sz_some {zs : List Int} {s : Nat} (h : sz zs = some s) : ∃ ds, zs = ints ds ∧ Shp ds ∧ s = pr ds := by
  unfold sz at h
  split at h
  · cases h
  · rename_i hl
    obtain ⟨ds, rfl, hp, ht, hm⟩ := szGo_some zs 1 s (by omega) (by omega) h
    rw [Nat.one_mul] at ht
    exact ⟨ds, rfl, ⟨by simpa [ints] using hl, hp, by omega⟩, ht⟩
theorem pr_pos : ∀ {ds : List Nat}, (∀ d ∈ ds, 1 ≤ d) → 1 ≤ pr ds
  | [], _ => by simp [pr]
  | d :: ds, h => by
    have := pr_pos (ds := ds) fun x hx => h x (List.mem_cons_of_mem _ hx)
    exact Nat.mul_le_mul (h d (List.mem_cons_self ..)) this
theorem quo_lt {z : Int} {s : Nat} (h1 : 1 ≤ s) : Int.tdiv 4096 (s : Int) < z ↔ 4096 < z * (s : Int) := by
  have e : Int.tdiv 4096 (s : Int) = ((4096 / s : Nat) : Int) := rfl
  have hd : ∀ d : Nat, 4096 / s < d ↔ 4096 < d * s := fun d => Nat.div_lt_iff_lt_mul (by omega)
  rw [e]
  generalize 4096 / s = q at hd ⊢
  constructor
  · intro h
    have h0 : 0 ≤ z := by omega
    obtain ⟨d, rfl⟩ := Int.eq_ofNat_of_zero_le h0
    have := (hd d).1 (by omega)
    rw [← Int.natCast_mul]
    omega
  · intro h
    rcases Int.lt_or_le z 0 with hz | hz
    · have := Int.mul_nonneg (show 0 ≤ -z by omega) (show (0 : Int) ≤ s by omega)
      rw [Int.neg_mul] at this
      omega
    · obtain ⟨d, rfl⟩ := Int.eq_ofNat_of_zero_le hz
      rw [← Int.natCast_mul] at h
      have := (hd d).2 (by omega)
      omega
theorem drop_consZ {α : Type} {l : List α} {k : Nat} {x : α} (h : l[k]? = some x) : l.drop k = x :: l.drop (k + 1) := by
  obtain ⟨hk, rfl⟩ := List.getElem?_eq_some_iff.1 h
  exact List.drop_eq_getElem_cons hk
theorem sizeV_many {zs : List Int} (h : 4 < zs.length) : sizeV zs = 0 ∧ errV zs = 1 := by simp [sizeV, errV, sz, h]
theorem sizeV_none {zs : List Int} (h : ¬ 4 < zs.length) (k : szGo 1 zs = none) : sizeV zs = 0 ∧ errV zs = 5 := by simp [sizeV, errV, sz, h, k]
theorem sizeV_some {zs : List Int} {s : Nat} (h : ¬ 4 < zs.length) (k : szGo 1 zs = some s) : sizeV zs = s ∧ errV zs = 0 := by simp [sizeV, errV, sz, h, k]
theorem ret_two {a b c d : Int} (h : a = c ∧ b = d) : Ending.returned (.tuple #[.int .i64 a, .int .i64 b]) = .returned (.tuple #[.int .i64 c, .int .i64 d]) := by rw [h.1, h.2]

end Go.Proofs.Ytpjfapibjihbbaa
/-
  A region that leaves its order open, whose first operations read and call, and whose last ones follow one upon another (a store): one walk serves every order.
-/
namespace Go.Proofs.Ytpjfapibjihbbaa
open Go.RowKit Go.Sort

section
variable {P : Program} {ops : Array Oper} {md : Region.Mode} {C : World → Prop}

/-- Some operations of the head, in whatever order, then what is asked. -/
def headQ (P : Program) (md : Region.Mode) (ops : Array Oper) (C : World → Prop) (n : Nat) (L : Array Bool → Act → Prop) : Nat → Array Bool → Act → Prop
  | 0, s, a => L s a
  | f + 1, s, a => Region.ready md ops s ≠ [] ∧ ∀ i ∈ Region.ready md ops s, i < n ∧ qOp P ops C i (headQ P md ops C n L f (s.setIfInBounds i true)) a

theorem any_of_headQ {n g : Nat} {L : Array Bool → Act → Prop} {Q : Exit → Act → World → Prop} (hL : ∀ s a w, C w → L s a → wpAny P md ops Q g s a w) :
    ∀ (f : Nat) (s : Array Bool) (a : Act) (w : World), C w → headQ P md ops C n L f s a → wpAny P md ops Q (f + g) s a w
  | 0, s, a, w, hw, h => by rw [Nat.zero_add]; exact hL s a w hw h
  | f + 1, s, a, w, hw, h => by
    rw [show f + 1 + g = (f + g) + 1 by omega]
    exact ⟨fun h0 => absurd h0 h.1, fun i hi => wpOp_of_qOp hw (fun a' w' hw' h' => any_of_headQ hL f _ a' w' hw' h') (h.2 i hi).2⟩

/-- Nothing of the tail comes up while something of the head is left. -/
theorem in_head {n i j : Nat} {s : Array Bool} (hs : Region.sinkB md ops n = true) (hc : Region.chainB md ops n = true) (hn : n < ops.size) (inv : HeadInv md ops n s) (hi : i < n)
    (hr : i ∈ Region.ready md ops s) (hj : j ∈ Region.ready md ops s) : j < n := by
  rcases Nat.lt_or_ge j n with h | h
  · exact h
  · exact absurd hj (tail_waits hs hc hn inv _ i rfl hi (mem_ready.1 hr).1 j h)

theorem headQ_first {n i : Nat} {oi : Oper} {v : Value} {L : Array Bool → Act → Prop} (hi : ops[i]? = some oi) (hsel : ∀ (j : Nat) (o : Oper) cs b, ops[j]? = some o → o.op ≠ .select cs b)
    (hs : Region.sinkB md ops n = true) (hc : Region.chainB md ops n = true) (hn : n < ops.size) (hin : i < n) (hdone : ∀ s a, L s a → ∀ j ∈ Region.ready md ops s, n ≤ j) :
    ∀ (f : Nat) (s : Array Bool) (a : Act), HeadInv md ops n s →
      (∀ j oj, ops[j]? = some oj → j ≠ i → s.getD j true = false → (∀ e ∈ oj.after, Region.binds md e = true → e.on ≠ i) → oi.apart ops oj = true) →
      i ∈ Region.ready md ops s → YieldsIn P ops C oi v a → headQ P md ops C n L f (s.setIfInBounds i true) (a.put oi.dst v) → headQ P md ops C n L (f + 1) s a := by
  intro f
  induction f with
  | zero =>
    intro s a inv _ hr hy H
    refine ⟨fun h => (by rw [h] at hr; cases hr), fun j hj => ⟨in_head hs hc hn inv hin hr hj, ?_⟩⟩
    by_cases e : j = i
    · subst e; exact hy.qOp hi H
    · have h1 := hdone _ _ H j (ready_mono hj e)
      have h2 := in_head hs hc hn inv hin hr hj
      omega
  | succ f ih =>
    intro s a inv free hr hy H
    refine ⟨fun h => (by rw [h] at hr; cases hr), fun j hj => ⟨in_head hs hc hn inv hin hr hj, ?_⟩⟩
    by_cases e : j = i
    · subst e; exact hy.qOp hi H
    · obtain ⟨un, oj, hoj, hall⟩ := mem_ready.1 hj
      have no : ∀ x ∈ oj.after, Region.binds md x = true → x.on ≠ i := fun x hx hb he => by
        have := hall x hx hb
        rw [he, getD_both (mem_ready.1 hr).1] at this
        cases this
      refine qOp_mono (fun a' h3 => ih _ a' (inv.set hj (in_head hs hc hn inv hin hr hj)) (fun k ok hk hki hu hno => free k ok hk hki ?_ hno) (ready_mono hr (Ne.symm e)) h3.1 ?_)
        (qOp_put hoj (free j oj hoj e un no) (fun cs b => hsel i oi cs b hi) (fun cs b => hsel j oj cs b hoj) hy (H.2 j (ready_mono hj e)).2)
      · by_cases hjk : j = k
        · subst hjk; exact un
        · rw [getD_set_ne true hjk] at hu; exact hu
      · rw [Array.setIfInBounds_comm _ _ e]; exact h3.2

theorem headQ_lex {n g : Nat} {Lq : Act → Prop} (hsel : Region.noSelect ops = true) (hs : Region.sinkB md ops n = true) (hc : Region.chainB md ops n = true) (hn : n < ops.size) :
    ∀ (l : List Oper) (k : Nat) (s : Array Bool) (a : Act), (∀ j, j < l.length → l[j]? = ops[k + j]?) → k + l.length = n → HeadInv md ops n s →
    Region.lexHead md ops g l.length k s = true → wpQuiet P ops C Lq l a → headQ P md ops C n (fun s' a' => Region.seqB md ops g n s' = true ∧ Lq a') l.length s a
  | [], k, s, a, _, hk, _, hB, h => by
    have e : k = n := by simpa using hk
    subst e
    exact ⟨by simpa [Region.lexHead] using hB, h⟩
  | o :: l, k, s, a, hl, hk, inv, hB, h => by
    have h0 : ops[k]? = some o := by simpa using (hl 0 (by simp)).symm
    simp only [List.length_cons, Region.lexHead, Bool.and_eq_true] at hB
    simp only [List.length_cons] at hk
    have hr : k ∈ Region.ready md ops s := by simpa using hB.1.1
    have hq : qOp P ops C k (wpQuiet P ops C Lq l) a := by unfold qOp; simp only [h0]; exact h
    obtain ⟨v, hy, hK⟩ := yieldsIn_of_qOp h0 hq
    exact headQ_first h0 (Region.noSelect_spec hsel) hs hc hn (by omega) (fun s' a' hL => seqB_ready hL.1) l.length s a inv (Region.free_spec h0 hB.1.2) hr hy
      (headQ_lex hsel hs hc hn l (k + 1) _ _ (fun j hj => by have := hl (j + 1) (by simp; omega); simpa [Nat.add_assoc, Nat.add_comm 1 j] using this) (by omega) (inv.set hr (by omega)) hB.2 hK)
end

/-- THE LAW: the first n operations read and call (the callees may lay blocks); the others follow one upon another, in whatever world those leave. -/
theorem wp_region_tail {P : Program} {id : Nat} {Q : Exit → Act → World → Prop} {a : Act} {w : World} {l : List Oper} (n : Nat) (hm : P.follows .mixedOrders = true) (hB : Region.lexTailB .any l.toArray n = true)
    (h : wpQuiet P l.toArray (fun w' => ∃ p : Regrown, w' = grow (redrawn w p.d) p.os) (fun a' => ∀ w', (∃ p : Regrown, w' = grow (redrawn w p.d) p.os) → wpList P l.toArray Q (l.drop n) a' w') (l.take n) a) : (Code.region id l.toArray true).wp P Q a w := by
  simp only [Region.lexTailB, Bool.and_eq_true, decide_eq_true_eq] at hB
  obtain ⟨⟨⟨⟨hsel, hn⟩, hs⟩, hc⟩, hlex⟩ := hB
  have hn' : n < l.length := by simpa using hn
  have tl : (l.take n).length = n := by simp; omega
  have dl : (l.drop n).length = l.toArray.size - n := by simp
  have inv0 : HeadInv .any l.toArray n (Array.replicate l.toArray.size false) :=
    ⟨by simp, fun j oj _ hl => (by rw [getD_replicate_false] at hl; cases hl), fun t _ ht => getD_in (by simpa using ht) (getD_replicate_false _ _)⟩
  have H := headQ_lex (C := fun w' => ∃ p : Regrown, w' = grow (redrawn w p.d) p.os) (md := .any) (g := l.toArray.size - n) hsel hs hc hn (l.take n) 0 _ a (fun j hj => by
    have hj' : j < n := by rw [tl] at hj; exact hj
    simp [hj']) (by simpa using tl) inv0 (by rw [tl]; exact hlex) h
  have K := any_of_headQ (Q := Q) (g := l.toArray.size - n) (fun s a' w' hw' hL => by
    have := wpAny_of_seq (md := .any) (Q' := Q) (l.drop n) n s a' w' (fun j => by simp [List.getElem?_drop]) (by rw [dl]; exact hL.1) (hL.2 w' hw')
    rwa [dl] at this) _ _ _ { w with drawn := w.drawn + 1 } ⟨⟨w.drawn + 1, #[]⟩, by rw [grow_empty]; rfl⟩ H
  rw [tl, show n + (l.toArray.size - n) = l.toArray.size by omega] at K
  exact wp_region_any hm K

/-- A callee that only draws: the world behind it is a letter. -/
theorem Ans.useB {f : FuncId} {args : Array Value} {v : Value} (h : Ans f args v) {w : World} {R : Ending → World → Prop} (k : ∀ w', Below w.heap.size w w' → R (.returned v) w') : Calls Try.prog f args w R :=
  h.use _ fun n => k _ (below_drewN w n)
/-- .. behind a region's draw. -/
theorem below_undrew {w X : World} (h : Below w.drew.heap.size w.drew X) : Below w.heap.size w X := ⟨h.os, h.tape, h.output, h.size, h.block⟩
end Go.Proofs.Ytpjfapibjihbbaa
/-
  A region that leaves its order open, whose first operations read and call what only draws, and whose last ones follow one upon another (stores): one walk serves every order.
-/
namespace Go.Proofs.Ytpjfapibjihbbaa
open Go.RowKit Go.Sort

/-- THE LAW: the first n operations read and call (the callees only draw); the others follow one upon another, in whatever world those leave. -/
theorem wp_region_tail_lit {P : Program} {id : Nat} {Q : Exit → Act → World → Prop} {a : Act} {w : World} {l : List Oper} (n : Nat) (hm : P.follows .mixedOrders = true) (hB : Region.lexTailB .any l.toArray n = true)
    (h : wpQuiet P l.toArray (fun w' => ∃ x : Nat, w' = w.drewN x) (fun a' => ∀ w', (∃ x : Nat, w' = w.drewN x) → wpList P l.toArray Q (l.drop n) a' w') (l.take n) a) : (Code.region id l.toArray true).wp P Q a w := by
  simp only [Region.lexTailB, Bool.and_eq_true, decide_eq_true_eq] at hB
  obtain ⟨⟨⟨⟨hsel, hn⟩, hs⟩, hc⟩, hlex⟩ := hB
  have hn' : n < l.length := by simpa using hn
  have tl : (l.take n).length = n := by simp; omega
  have dl : (l.drop n).length = l.toArray.size - n := by simp
  have inv0 : HeadInv .any l.toArray n (Array.replicate l.toArray.size false) :=
    ⟨by simp, fun j oj _ hl => (by rw [getD_replicate_false] at hl; cases hl), fun t _ ht => getD_in (by simpa using ht) (getD_replicate_false _ _)⟩
  have H := headQ_lex (C := fun w' => ∃ x : Nat, w' = w.drewN x) (md := .any) (g := l.toArray.size - n) hsel hs hc hn (l.take n) 0 _ a (fun j hj => by
    have hj' : j < n := by rw [tl] at hj; exact hj
    simp [hj']) (by simpa using tl) inv0 (by rw [tl]; exact hlex) h
  have K := any_of_headQ (Q := Q) (g := l.toArray.size - n) (fun s a' w' hw' hL => by
    have := wpAny_of_seq (md := .any) (Q' := Q) (l.drop n) n s a' w' (fun j => by simp [List.getElem?_drop]) (by rw [dl]; exact hL.1) (hL.2 w' hw')
    rwa [dl] at this) _ _ _ { w with drawn := w.drawn + 1 } ⟨1, rfl⟩ H
  rw [tl, show n + (l.toArray.size - n) = l.toArray.size by omega] at K
  exact wp_region_any hm K

end Go.Proofs.Ytpjfapibjihbbaa

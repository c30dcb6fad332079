/-
  What every text of this seat stands on: words, calls that answer in every world and only draw, calls that answer so from one world on. No condition.
-/
import Derived.Test.YtpjfapibjihbbaaGreatDoorProg
import Derived.WalkKit
import Derived.WalkSpells
import Derived.WalkLawsBesides
import Derived.Deep.RegionHeld3
import Derived.Deep.QuietTactic
import Derived.BigQuiet
import Derived.RowKit3
import Derived.Lib.QuietBelow
import Derived.Below
namespace Go.Proofs.YtpjfapibjihbbaaGreatDoor
set_option linter.unusedVariables false
open Go.RowKit

/-- A word. -/
def Wd (x : Int) : Prop := 0 ≤ x ∧ x < 18446744073709551616

theorem bcell {W w1 : World} (hb : Below W.heap.size W w1) : (∀ b o, b < W.heap.size → w1.cell? ⟨b, o, none⟩ = W.cell? ⟨b, o, none⟩) ∧ (∀ b o, b < W.heap.size → w1.frozen? ⟨b, o, none⟩ = W.frozen? ⟨b, o, none⟩) :=
  ⟨fun b o h => hb.cell (p := ⟨b, o, none⟩) h, fun b o h => hb.frozen (p := ⟨b, o, none⟩) h⟩

/-- A call that answers so in every world, and leaves memory as it was (the tape may have been drawn from). -/
def Ans (f : FuncId) (args : Array Value) (v : Value) : Prop := ∀ w, Calls Tryz.prog f args w fun e w' => e = .returned v ∧ ∃ n, w' = w.drewN n

/-- .. used at a call. -/
theorem Ans.use {f : FuncId} {args : Array Value} {v : Value} (h : Ans f args v) (w : World) {R : Ending → World → Prop} (k : ∀ n, R (.returned v) (w.drewN n)) : Calls Tryz.prog f args w R :=
  (h w).mono fun _ _ ⟨he, n, hw⟩ => by subst he; subst hw; exact k n
/-- .. used at a call inside a region that draws its order. -/
theorem Ans.quiet {f : FuncId} {args : Array Value} {v : Value} (h : Ans f args v) {w : World} {N x : Nat} : Calls Tryz.prog f args (w.drewN (N + x)) fun e w' => e = .returned v ∧ ∃ n, w' = w.drewN (N + n) :=
  h.use _ fun n => ⟨rfl, x + n, by rw [World.drewN_drewN, Nat.add_assoc]⟩
theorem Ans.quiet0 {f : FuncId} {args : Array Value} {v : Value} (h : Ans f args v) {w : World} {x : Nat} : Calls Tryz.prog f args (w.drewN x) fun e w' => e = .returned v ∧ ∃ n, w' = w.drewN n :=
  h.use _ fun n => ⟨rfl, x + n, by rw [World.drewN_drewN]⟩
theorem Ans.to {f : FuncId} {args : Array Value} {v v' : Value} (h : Ans f args v) (e : v = v') : Ans f args v' := e ▸ h
theorem ans_int {f : FuncId} {args : Array Value} {a b : Int} (h : Ans f args (.int .u64 a)) (e : a = b) : Ans f args (.int .u64 b) := e ▸ h

/-- A call that answers so in a world, however far its tape was drawn from, and leaves memory as it was. -/
def AnsW (w : World) (f : FuncId) (args : Array Value) (v : Value) : Prop := ∀ n, Calls Tryz.prog f args (w.drewN n) fun e w' => e = .returned v ∧ ∃ k, w' = w.drewN (n + k)
theorem Ans.toW {f : FuncId} {args : Array Value} {v : Value} (h : Ans f args v) (w : World) : AnsW w f args v := fun n => h.use _ fun k => ⟨rfl, k, by rw [World.drewN_drewN]⟩
theorem AnsW.use {w : World} {f : FuncId} {args : Array Value} {v : Value} (h : AnsW w f args v) (n : Nat) {R : Ending → World → Prop} (k : ∀ j, R (.returned v) (w.drewN (n + j))) : Calls Tryz.prog f args (w.drewN n) R :=
  (h n).mono fun _ _ ⟨he, n, hw⟩ => by subst he; subst hw; exact k n
theorem AnsW.use0 {w : World} {f : FuncId} {args : Array Value} {v : Value} (h : AnsW w f args v) {R : Ending → World → Prop} (k : ∀ j, R (.returned v) (w.drewN j)) : Calls Tryz.prog f args w R :=
  (h 0).mono fun _ _ ⟨he, n, hw⟩ => by subst he; subst hw; rw [Nat.zero_add]; exact k n
theorem AnsW.quiet {w : World} {f : FuncId} {args : Array Value} {v : Value} (h : AnsW w f args v) {N x : Nat} : Calls Tryz.prog f args (w.drewN (N + x)) fun e w' => e = .returned v ∧ ∃ n, w' = w.drewN (N + n) :=
  h.use _ fun n => ⟨rfl, x + n, by rw [Nat.add_assoc]⟩
theorem AnsW.quiet0 {w : World} {f : FuncId} {args : Array Value} {v : Value} (h : AnsW w f args v) {x : Nat} : Calls Tryz.prog f args (w.drewN x) fun e w' => e = .returned v ∧ ∃ n, w' = w.drewN n :=
  h.use _ fun n => ⟨rfl, x + n, rfl⟩
theorem AnsW.to {w : World} {f : FuncId} {args : Array Value} {v v' : Value} (h : AnsW w f args v) (e : v = v') : AnsW w f args v' := e ▸ h
theorem ansW_int {w : World} {f : FuncId} {args : Array Value} {a b : Int} (h : AnsW w f args (.int .u64 a)) (e : a = b) : AnsW w f args (.int .u64 b) := e ▸ h

theorem wd_nat {x : Int} (h : Wd x) : ∃ n : Nat, x = n ∧ n < 18446744073709551616 := by
  obtain ⟨n, rfl⟩ := Int.eq_ofNat_of_zero_le h.1
  exact ⟨n, rfl, by have := h.2; omega⟩
theorem wd_of_wf {x : Int} (h : (Lit.int .u64 x).wf = true) : ∃ n : Nat, x = n ∧ n < 18446744073709551616 := by
  have : 0 ≤ x ∧ x < 18446744073709551616 := by
    simp [Lit.wf, IntKind.min, IntKind.max, IntKind.signed, IntKind.bits] at h
    exact ⟨by omega, by omega⟩
  exact wd_nat this
theorem grown_drewN (w : World) (n : Nat) : Grown w (w.drewN n) := by
  have h := Grown.refl w
  exact h
theorem Ans.grown {f : FuncId} {args : Array Value} {v : Value} (h : Ans f args v) (w : World) : Calls Tryz.prog f args w fun e w' => e = .returned v ∧ Grown w w' :=
  h.use w fun n => ⟨rfl, grown_drewN w n⟩
theorem ret_int {k : IntKind} {a b : Int} (h : a = b) : Ending.returned (.int k a) = .returned (.int k b) := by rw [h]
theorem nz {m : Nat} (h : m ≠ 0) : ((m : Int) == 0) = false := by simp; omega
theorem and_one (x : Int) (h0 : 0 ≤ x) (h1 : x < 18446744073709551616) : bits .and .u64 x 1 = x % 2 := by
  obtain ⟨a, rfl⟩ := Int.eq_ofNat_of_zero_le h0
  have := u64_and_nat a 1 (by omega) (by omega)
  rw [show ((1 : Nat) : Int) = 1 from rfl] at this
  rw [this, show (1 : Nat) = 2 ^ 1 - 1 from rfl, Nat.and_two_pow_sub_one_eq_mod]
  omega
end Go.Proofs.YtpjfapibjihbbaaGreatDoor
/-
  Rows of factors and of entries, as they lie in memory: what is there, and that it stays there while nothing old turns.
-/
namespace Go.Proofs.YtpjfapibjihbbaaGreatDoor
set_option linter.unusedVariables false
open Go.RowKit

/-- A factor. -/
structure Pw where
  q : Nat
  e : Int
/-- An entry. -/
structure En where
  p : Nat
  g : Nat
  fs : List Pw
def Pw.ok (f : Pw) : Prop := f.q < 18446744073709551616 ∧ -9223372036854775808 ≤ f.e ∧ f.e < 9223372036854775808

/-- A row of factors lies there. -/
structure PowsAt (w : World) (A : Option Addr) (C : Nat) (fs : List Pw) : Prop where
  cap : fs.length ≤ C
  max : C ≤ maxLen
  get : ∀ (i : Nat) (f : Pw), fs[i]? = some f → ∃ b o, A = some ⟨b, o, none⟩ ∧ b < w.heap.size ∧ w.cell? ⟨b, o + i * 2, none⟩ = some (.int .u64 (f.q : Int)) ∧ w.cell? ⟨b, o + i * 2 + 1, none⟩ = some (.int .i64 f.e) ∧ f.ok
/-- A row of entries lies there. -/
structure EntsAt (w : World) (A : Option Addr) (C : Nat) (es : List En) : Prop where
  cap : es.length ≤ C
  max : C ≤ maxLen
  get : ∀ (i : Nat) (x : En), es[i]? = some x → ∃ b o A' C', A = some ⟨b, o, none⟩ ∧ b < w.heap.size ∧ w.cell? ⟨b, o + i * 3, none⟩ = some (.int .u64 (x.p : Int)) ∧ w.cell? ⟨b, o + i * 3 + 1, none⟩ = some (.int .u64 (x.g : Int)) ∧ w.cell? ⟨b, o + i * 3 + 2, none⟩ = some (.slice A' x.fs.length C') ∧ PowsAt w A' C' x.fs ∧ x.p < 18446744073709551616 ∧ x.g < 18446744073709551616

theorem PowsAt.below {w w' : World} {A : Option Addr} {C : Nat} {fs : List Pw} (h : PowsAt w A C fs) (hb : Below w.heap.size w w') : PowsAt w' A C fs := by
  refine ⟨h.cap, h.max, fun i f hf => ?_⟩
  obtain ⟨b, o, hA, hl, c0, c1, k⟩ := h.get i f hf
  obtain ⟨hc, _⟩ := bcell hb
  exact ⟨b, o, hA, Nat.lt_of_lt_of_le hl hb.size, by rw [hc _ _ hl]; exact c0, by rw [hc _ _ hl]; exact c1, k⟩
theorem EntsAt.below {w w' : World} {A : Option Addr} {C : Nat} {es : List En} (h : EntsAt w A C es) (hb : Below w.heap.size w w') : EntsAt w' A C es := by
  refine ⟨h.cap, h.max, fun i x hx => ?_⟩
  obtain ⟨b, o, A', C', hA, hl, c0, c1, c2, hp, k⟩ := h.get i x hx
  obtain ⟨hc, _⟩ := bcell hb
  exact ⟨b, o, A', C', hA, Nat.lt_of_lt_of_le hl hb.size, by rw [hc _ _ hl]; exact c0, by rw [hc _ _ hl]; exact c1, by rw [hc _ _ hl]; exact c2, hp.below hb, k⟩
/-- The beginning of a row. -/
theorem EntsAt.take {w : World} {A : Option Addr} {C : Nat} {es : List En} (h : EntsAt w A C es) (k : Nat) : EntsAt w A C (es.take k) := by
  refine ⟨by have := h.cap; have := List.length_take_le' k es; omega, h.max, fun i x hx => ?_⟩
  refine h.get i x ?_
  rw [List.getElem?_take] at hx
  split at hx
  · exact hx
  · cases hx

/-- A call that answers so in every world that holds what this one held, and leaves all that was there. -/
def AnsB (W : World) (f : FuncId) (args : Array Value) (v : Value) : Prop := ∀ w, Below W.heap.size W w → Calls Tryz.prog f args w fun e w' => e = .returned v ∧ Below w.heap.size w w'
theorem AnsB.use {W : World} {f : FuncId} {args : Array Value} {v : Value} (h : AnsB W f args v) {w : World} (hw : Below W.heap.size W w) {R : Ending → World → Prop} (k : ∀ w', Below w.heap.size w w' → R (.returned v) w') : Calls Tryz.prog f args w R :=
  (h w hw).mono fun _ _ ⟨he, hb⟩ => by subst he; exact k _ hb
theorem AnsB.to {W : World} {f : FuncId} {args : Array Value} {v v' : Value} (h : AnsB W f args v) (e : v = v') : AnsB W f args v' := e ▸ h
theorem AnsB.on {W W' : World} {f : FuncId} {args : Array Value} {v : Value} (h : AnsB W f args v) (hb : Below W.heap.size W W') : AnsB W' f args v :=
  fun w hw => h w (hb.trans (hw.mono hb.size))
theorem bthen {B : Nat} {w w1 w2 : World} (h : Below B w w1) (hB : B ≤ w.heap.size) (k : Below w1.heap.size w1 w2) : Below B w w2 := h.trans (k.mono (Nat.le_trans hB h.size))
/-- One behind the other. -/
theorem bb {w w1 w2 : World} (h : Below w.heap.size w w1) (k : Below w1.heap.size w1 w2) : Below w.heap.size w w2 := bthen h (Nat.le_refl _) k
theorem below_drewN (w : World) (n : Nat) : Below w.heap.size w (w.drewN n) := ⟨rfl, rfl, rfl, Nat.le_refl _, fun _ _ => rfl⟩
theorem Ans.toB {f : FuncId} {args : Array Value} {v : Value} (h : Ans f args v) (W : World) : AnsB W f args v := fun w _ => h.use w fun n => ⟨rfl, below_drewN w n⟩
theorem cell_new (w : World) (v : Value) (t : TypeId) : (w.alloc (.cells #[v] t)).cell? ⟨w.heap.size, 0, none⟩ = some v := by
  rw [World.cell?_alloc_at _ _ _ _ rfl]; rfl
theorem below_alloc (w : World) (o : Obj) : Below w.heap.size w (w.alloc o) := (Below.refl _ _).alloc (Nat.le_refl _) o
theorem AnsB.regrown {W : World} {f : FuncId} {args : Array Value} {v : Value} (h : AnsB W f args v) {w : World} (hw : Below W.heap.size W w) {d : Nat} {os : Array Obj} : Calls Tryz.prog f args (Go.Sort.grow (redrawn w d) os) fun e w'' => e = .returned v ∧ ∃ p : Regrown, w'' = Go.Sort.grow (redrawn w p.d) p.os :=
  Calls.regrown_of (h _ (hw.trans ((below_regrown w d os).mono hw.size)))
end Go.Proofs.YtpjfapibjihbbaaGreatDoor
/-
  Plain mathematics of layer 4: Lucas' test. A number whose G has the order n - 1 is a prime; each number below it is a power of G. No condition but those that each says.
-/
namespace Go.Proofs.YtpjfapibjihbbaaGreatDoor

/-! ### As many places as things -/
theorem no_inj : ∀ (m : Nat) (f : Nat → Nat), (∀ i, i < m + 1 → f i < m) → (∀ i j, i < m + 1 → j < m + 1 → f i = f j → i = j) → False
  | 0, f, h, _ => absurd (h 0 (by omega)) (by omega)
  | m + 1, f, h, inj => by
    refine no_inj m (fun i => if f i = m then f (m + 1) else f i) ?_ ?_
    · intro i hi
      have h1 := h i (by omega)
      have h2 := h (m + 1) (by omega)
      show (if f i = m then f (m + 1) else f i) < m
      split
      · next e =>
        have : f (m + 1) ≠ m := fun e' => by have := inj i (m + 1) (by omega) (by omega) (e.trans e'.symm); omega
        omega
      · omega
    · intro i j hi hj e
      have e' : (if f i = m then f (m + 1) else f i) = (if f j = m then f (m + 1) else f j) := e
      by_cases a : f i = m <;> by_cases b : f j = m
      · exact inj i j (by omega) (by omega) (a.trans b.symm)
      · rw [if_pos a, if_neg b] at e'
        have := inj (m + 1) j (by omega) (by omega) e'; omega
      · rw [if_neg a, if_pos b] at e'
        have := inj i (m + 1) (by omega) (by omega) e'; omega
      · rw [if_neg a, if_neg b] at e'
        exact inj i j (by omega) (by omega) e'
theorem all_met (m : Nat) (f : Nat → Nat) (h : ∀ i, i < m → f i < m) (inj : ∀ i j, i < m → j < m → f i = f j → i = j) (y : Nat) (hy : y < m) : ∃ x, x < m ∧ f x = y := by
  refine Classical.byContradiction fun hn => ?_
  refine no_inj m (fun i => if i < m then f i else y) ?_ ?_
  · intro i _
    show (if i < m then f i else y) < m
    split
    · next hi => exact h i hi
    · exact hy
  · intro i j hi hj e
    have e' : (if i < m then f i else y) = (if j < m then f j else y) := e
    by_cases a : i < m <;> by_cases b : j < m
    · rw [if_pos a, if_pos b] at e'; exact inj i j a b e'
    · rw [if_pos a, if_neg b] at e'; exact absurd ⟨i, a, e'⟩ hn
    · rw [if_neg a, if_pos b] at e'; exact absurd ⟨j, b, e'.symm⟩ hn
    · omega

/-! ### Powers modulo n -/
theorem pow_one_mul (g n x k : Nat) (h : g ^ x % n = 1 % n) : g ^ (x * k) % n = 1 % n := by
  rw [Nat.pow_mul, Nat.pow_mod, h, ← Nat.pow_mod, Nat.one_pow]
theorem pow_one_add (g n x y : Nat) (h : g ^ x % n = 1 % n) : g ^ (x + y) % n = g ^ y % n := by
  rw [Nat.pow_add, Nat.mul_mod, h, ← Nat.mul_mod, Nat.one_mul]
/-- A power that is 1: so is that of the common divisor with another such exponent. -/
theorem pow_gcd (g n : Nat) : ∀ (x y : Nat), g ^ x % n = 1 % n → g ^ y % n = 1 % n → g ^ (Nat.gcd x y) % n = 1 % n := by
  intro x
  induction x using Nat.strongRecOn with
  | ind x ih =>
    intro y hx hy
    by_cases h0 : x = 0
    · subst h0; rw [Nat.gcd_zero_left]; exact hy
    · rw [Nat.gcd_rec]
      refine ih (y % x) (Nat.mod_lt _ (by omega)) x ?_ hx
      have e : g ^ y % n = g ^ (y % x) % n := by
        conv => lhs; rw [← Nat.div_add_mod y x]
        exact pow_one_add g n _ _ (pow_one_mul g n x _ hx)
      rw [← e]; exact hy
/-- A number of no divisor but 1 and itself. -/
def Prm (p : Nat) : Prop := 2 ≤ p ∧ ∀ d, d ∣ p → d = 1 ∨ d = p
theorem Prm.coprime {p : Nat} (h : Prm p) {m : Nat} (hn : ¬ p ∣ m) : Nat.Coprime p m := by
  rcases h.2 _ (Nat.gcd_dvd_left p m) with e | e
  · exact e
  · exact absurd (e ▸ Nat.gcd_dvd_right p m) hn
theorem prm_two : Prm 2 := by
  refine ⟨by omega, fun d h => ?_⟩
  have h1 := Nat.le_of_dvd (by omega) h
  have h2 := Nat.pos_of_dvd_of_pos h (by omega)
  omega

/-- All factors multiplied. -/
def prodOf : List (Nat × Nat) → Nat
  | [] => 1
  | (q, e) :: l => q ^ e * prodOf l
theorem coprime_prod {m : Nat} : ∀ (l : List (Nat × Nat)), (∀ x ∈ l, Nat.Coprime x.1 m) → Nat.Coprime (prodOf l) m
  | [], _ => Nat.coprime_one_left m
  | (q, e) :: l, h => Nat.Coprime.mul_left (Nat.Coprime.pow_left e (h (q, e) (by simp))) (coprime_prod l fun x hx => h x (by simp [hx]))

/-- What Lucas asks of n: factors of n - 1, each a prime, and a number G. -/
structure Luc (n g : Nat) (l : List (Nat × Nat)) : Prop where
  three : 3 ≤ n
  prm : ∀ x ∈ l, Prm x.1
  prod : prodOf l = n - 1
  one : g ^ (n - 1) % n = 1
  not : ∀ x ∈ l, g ^ ((n - 1) / x.1) % n ≠ 1

theorem Luc.order {n g : Nat} {l : List (Nat × Nat)} (h : Luc n g l) (x : Nat) (hx : g ^ x % n = 1) : (n - 1) ∣ x := by
  have h3 := h.three
  have e1 : (1 : Nat) % n = 1 := Nat.mod_eq_of_lt (by omega)
  obtain ⟨d, hd⟩ : ∃ d, d = Nat.gcd x (n - 1) := ⟨_, rfl⟩
  have hgd : g ^ d % n = 1 % n := by rw [hd]; exact pow_gcd g n x (n - 1) (by rw [e1]; exact hx) (by rw [e1]; exact h.one)
  have hdx : d ∣ x := by rw [hd]; exact Nat.gcd_dvd_left _ _
  have hdn : d ∣ n - 1 := by rw [hd]; exact Nat.gcd_dvd_right _ _
  obtain ⟨m, hm⟩ := hdn
  by_cases h1 : m = 1
  · rw [h1, Nat.mul_one] at hm; rw [hm]; exact hdx
  · exfalso
    have hnone : ∀ y ∈ l, ¬ y.1 ∣ m := by
      intro y hy ⟨k, hk⟩
      refine h.not y hy ?_
      have hq : 0 < y.1 := by have := (h.prm y hy).1; omega
      have : (n - 1) / y.1 = d * k := by
        rw [hm, hk, show d * (y.1 * k) = y.1 * (d * k) by rw [← Nat.mul_assoc, Nat.mul_comm d, Nat.mul_assoc], Nat.mul_div_cancel_left _ hq]
      rw [this, pow_one_mul g n d k hgd, e1]
    have hc : Nat.Coprime (prodOf l) m := coprime_prod l fun y hy => (h.prm y hy).coprime (hnone y hy)
    rw [h.prod] at hc
    have : m ∣ 1 := by
      have hmn : m ∣ n - 1 := ⟨d, by rw [hm, Nat.mul_comm]⟩
      have : Nat.gcd (n - 1) m = m := Nat.gcd_eq_right hmn
      have h5 : (1 : Nat) = m := (show Nat.gcd (n - 1) m = 1 from hc).symm.trans this
      exact ⟨1, by omega⟩
    exact h1 (Nat.dvd_one.1 this)
theorem Luc.order_iff {n g : Nat} {l : List (Nat × Nat)} (h : Luc n g l) (x : Nat) : g ^ x % n = 1 ↔ x % (n - 1) = 0 := by
  have h3 := h.three
  have e1 : (1 : Nat) % n = 1 := Nat.mod_eq_of_lt (by omega)
  constructor
  · intro hx; exact Nat.mod_eq_zero_of_dvd (h.order x hx)
  · intro hx
    obtain ⟨k, hk⟩ := Nat.dvd_of_mod_eq_zero hx
    rw [hk, pow_one_mul g n _ _ (by rw [e1]; exact h.one), e1]
/-- A power of G is never 0: there is one that makes 1 with it. -/
theorem Luc.inv {n g : Nat} {l : List (Nat × Nat)} (h : Luc n g l) (x : Nat) : ∃ y, g ^ x * y % n = 1 := by
  have h3 := h.three
  refine ⟨g ^ (x * (n - 2)), ?_⟩
  rw [← Nat.pow_add, show x + x * (n - 2) = x * (n - 1) by rw [show n - 1 = 1 + (n - 2) by omega, Nat.mul_add, Nat.mul_one]]
  rw [Nat.mul_comm]
  have e1 : (1 : Nat) % n = 1 := Nat.mod_eq_of_lt (by omega)
  rw [pow_one_mul g n _ _ (by rw [e1]; exact h.one), e1]
theorem Luc.pos {n g : Nat} {l : List (Nat × Nat)} (h : Luc n g l) (x : Nat) : 0 < g ^ x % n := by
  obtain ⟨y, hy⟩ := h.inv x
  refine Nat.pos_of_ne_zero fun e => ?_
  rw [Nat.mul_mod, e, Nat.zero_mul, Nat.zero_mod] at hy
  omega
theorem Luc.inj {n g : Nat} {l : List (Nat × Nat)} (h : Luc n g l) (i j : Nat) (hij : i ≤ j) (hj : j < n - 1) (e : g ^ i % n = g ^ j % n) : i = j := by
  obtain ⟨y, hy⟩ := h.inv i
  have : g ^ (j - i) % n = 1 := by
    have e2 : g ^ j * y % n = 1 := by rw [Nat.mul_mod, ← e, ← Nat.mul_mod]; exact hy
    rw [show j = i + (j - i) by omega, Nat.pow_add, Nat.mul_assoc, Nat.mul_comm (g ^ (j - i)), ← Nat.mul_assoc, Nat.mul_mod, hy, Nat.one_mul, Nat.mod_mod] at e2
    exact e2
  have hd := h.order _ this
  by_cases hz : j - i = 0
  · omega
  · have := Nat.le_of_dvd (by omega) hd; omega
/-- Each number from 1 to n - 1 is a power of G. -/
theorem Luc.all {n g : Nat} {l : List (Nat × Nat)} (h : Luc n g l) (a : Nat) (h1 : 0 < a) (h2 : a < n) : ∃ x, g ^ x % n = a := by
  have h3 := h.three
  have := all_met (n - 1) (fun i => g ^ i % n - 1) (fun i _ => by
      have := h.pos i
      have := Nat.mod_lt (g ^ i) (show 0 < n by omega)
      show g ^ i % n - 1 < n - 1
      omega) (fun i j hi hj e => by
      have p1 := h.pos i
      have p2 := h.pos j
      have e' : g ^ i % n - 1 = g ^ j % n - 1 := e
      have e2 : g ^ i % n = g ^ j % n := by omega
      rcases Nat.le_total i j with hij | hij
      · exact h.inj i j hij hj e2
      · exact (h.inj j i hij hi e2.symm).symm) (a - 1) (by omega)
  obtain ⟨x, _, hx⟩ := this
  have hp := h.pos x
  have hx' : g ^ x % n - 1 = a - 1 := hx
  exact ⟨x, by omega⟩
/-- IT IS A PRIME. -/
theorem Luc.prime {n g : Nat} {l : List (Nat × Nat)} (h : Luc n g l) : Prm n := by
  have h3 := h.three
  refine ⟨by omega, fun d hd => ?_⟩
  have hp := Nat.pos_of_dvd_of_pos hd (by omega)
  have hle := Nat.le_of_dvd (by omega) hd
  by_cases e : d = n
  · exact Or.inr e
  · left
    obtain ⟨x, hx⟩ := h.all d hp (by omega)
    obtain ⟨y, hy⟩ := h.inv x
    have h1 : d * y % n = 1 := by rw [← hx, Nat.mod_mul_mod]; exact hy
    have h2 : d ∣ d * y % n := (Nat.dvd_mod_iff hd).2 ⟨y, rfl⟩
    rw [h1] at h2
    exact Nat.dvd_one.1 h2
theorem Prm.no_div {p : Nat} (h : Prm p) (d : Nat) (h2 : 2 ≤ d) (hd : d < p) : p % d ≠ 0 := fun e => by
  rcases h.2 d (Nat.dvd_of_mod_eq_zero e) with a | a <;> omega
/-- A product is 0 only if a side is. -/
theorem Prm.prod {p : Nat} (h : Prm p) (a b : Nat) (e : a * b % p = 0) : a % p = 0 ∨ b % p = 0 := by
  by_cases ha : p ∣ a
  · exact Or.inl (Nat.mod_eq_zero_of_dvd ha)
  · exact Or.inr (Nat.mod_eq_zero_of_dvd ((h.coprime ha).dvd_of_dvd_mul_left (Nat.dvd_of_mod_eq_zero e)))
/-- Fermat. -/
theorem Luc.fermat {n g : Nat} {l : List (Nat × Nat)} (h : Luc n g l) (a : Nat) (ha : a % n ≠ 0) : a ^ (n - 1) % n = 1 := by
  have h3 := h.three
  obtain ⟨x, hx⟩ := h.all (a % n) (by omega) (Nat.mod_lt _ (by omega))
  rw [Nat.pow_mod, ← hx, ← Nat.pow_mod, ← Nat.pow_mul, Nat.mul_comm]
  have e1 : (1 : Nat) % n = 1 := Nat.mod_eq_of_lt (by omega)
  rw [pow_one_mul g n _ _ (by rw [e1]; exact h.one), e1]
/-- Only 1 and p - 1 are their own inverses. -/
theorem Prm.self_inv {p : Nat} (h : Prm p) (a : Nat) (e : a * a % p = 1) : a % p = 1 ∨ a % p = p - 1 := by
  have h2 := h.1
  obtain ⟨r, hr⟩ : ∃ r, a % p = r := ⟨_, rfl⟩
  have hrl : r < p := hr ▸ Nat.mod_lt _ (by omega)
  rw [Nat.mul_mod, hr] at e
  rw [hr]
  by_cases h0 : r = 0
  · subst h0; simp at e
  have hs : (r - 1) * (r + 1) % p = 0 := by
    have e3 : (r - 1) * (r + 1) + 1 = r * r := by
      obtain ⟨k, rfl⟩ : ∃ k, r = k + 1 := ⟨r - 1, by omega⟩
      rw [Nat.add_sub_cancel]
      simp only [Nat.mul_add, Nat.add_mul]; omega
    have e4 : r * r = p * (r * r / p) + 1 := by have := Nat.div_add_mod (r * r) p; rw [e] at this; exact this.symm
    have e5 : (r - 1) * (r + 1) = p * (r * r / p) := by omega
    rw [e5, Nat.mul_mod_right]
  rcases h.prod _ _ hs with a1 | a1
  · left
    rw [Nat.mod_eq_of_lt (by omega)] at a1; omega
  · right
    by_cases hl : r + 1 < p
    · rw [Nat.mod_eq_of_lt hl] at a1; omega
    · omega
end Go.Proofs.YtpjfapibjihbbaaGreatDoor
/-
  Plain mathematics of layer 4: what is left of a number, divided by powers; products; which rows of entries are right.
-/
namespace Go.Proofs.YtpjfapibjihbbaaGreatDoor

/-- A number without a power: what is left, or that it can't be. -/
def without (n q : Nat) (e : Int) : Option Nat := if e < 1 ∨ 62 < e then none else if n % q ^ e.toNat = 0 then some (n / q ^ e.toNat) else none
theorem without_bad (n q : Nat) (e : Int) (h : e < 1 ∨ 62 < e) : without n q e = none := by unfold without; rw [if_pos h]
theorem without_stop (n q m i : Nat) (e : Int) (h1 : 1 ≤ e) (hi : (i : Int) < e) (hq : 0 < q) (hn : m * q ^ i = n) (hm : m % q ≠ 0) : without n q e = none := by
  unfold without
  by_cases h : e < 1 ∨ 62 < e
  · rw [if_pos h]
  · rw [if_neg h, if_neg]
    intro hd
    apply hm
    obtain ⟨k, hk⟩ := Nat.dvd_of_mod_eq_zero hd
    have he : e.toNat = i + 1 + (e.toNat - i - 1) := by omega
    rw [he, Nat.pow_add, Nat.pow_succ, ← hn] at hk
    have hp : 0 < q ^ i := Nat.pow_pos hq
    have e2 : q ^ i * m = q ^ i * (q * (q ^ (e.toNat - i - 1) * k)) := by
      rw [Nat.mul_comm (q ^ i) m, hk]; simp only [Nat.mul_assoc]
    have e3 := Nat.eq_of_mul_eq_mul_left hp e2
    rw [e3, Nat.mul_mod_right]
theorem without_done (n q m : Nat) (e : Int) (h1 : 1 ≤ e) (h2 : e ≤ 62) (hq : 0 < q) (hn : m * q ^ e.toNat = n) : without n q e = some m := by
  unfold without
  have hp : 0 < q ^ e.toNat := Nat.pow_pos hq
  rw [if_neg (by omega), ← hn, Nat.mul_mod_left, if_pos rfl, Nat.mul_div_cancel _ hp]
end Go.Proofs.YtpjfapibjihbbaaGreatDoor

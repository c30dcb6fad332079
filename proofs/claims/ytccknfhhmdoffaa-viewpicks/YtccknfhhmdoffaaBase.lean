/-
  What every text of this seat stands on: words, calls that answer in every world and only draw, calls that answer so from one world on. No condition.
-/
import Derived.Test.YtccknfhhmdoffaaProg
import Derived.WalkKit
import Derived.WalkSpells
import Derived.WalkLawsBesides
import Derived.Deep.RegionHeld3
import Derived.Deep.QuietTactic
import Derived.BigQuiet
import Derived.RowKit3
namespace Go.Proofs.Ytccknfhhmdoffaa
set_option linter.unusedVariables false
open Go.RowKit

/-- A word. -/
def Wd (x : Int) : Prop := 0 ≤ x ∧ x < 18446744073709551616

theorem bcell {W w1 : World} (hb : Below W.heap.size W w1) : (∀ b o, b < W.heap.size → w1.cell? ⟨b, o, none⟩ = W.cell? ⟨b, o, none⟩) ∧ (∀ b o, b < W.heap.size → w1.frozen? ⟨b, o, none⟩ = W.frozen? ⟨b, o, none⟩) :=
  ⟨fun b o h => hb.cell (p := ⟨b, o, none⟩) h, fun b o h => hb.frozen (p := ⟨b, o, none⟩) h⟩

/-- A call that answers so in every world, and leaves memory as it was (the tape may have been drawn from). -/
def Ans (f : FuncId) (args : Array Value) (v : Value) : Prop := ∀ w, Calls Try.prog f args w fun e w' => e = .returned v ∧ ∃ n, w' = w.drewN n

/-- .. used at a call. -/
theorem Ans.use {f : FuncId} {args : Array Value} {v : Value} (h : Ans f args v) (w : World) {R : Ending → World → Prop} (k : ∀ n, R (.returned v) (w.drewN n)) : Calls Try.prog f args w R :=
  (h w).mono fun _ _ ⟨he, n, hw⟩ => by subst he; subst hw; exact k n
/-- .. used at a call inside a region that draws its order. -/
theorem Ans.quiet {f : FuncId} {args : Array Value} {v : Value} (h : Ans f args v) {w : World} {N x : Nat} : Calls Try.prog f args (w.drewN (N + x)) fun e w' => e = .returned v ∧ ∃ n, w' = w.drewN (N + n) :=
  h.use _ fun n => ⟨rfl, x + n, by rw [World.drewN_drewN, Nat.add_assoc]⟩
theorem Ans.quiet0 {f : FuncId} {args : Array Value} {v : Value} (h : Ans f args v) {w : World} {x : Nat} : Calls Try.prog f args (w.drewN x) fun e w' => e = .returned v ∧ ∃ n, w' = w.drewN n :=
  h.use _ fun n => ⟨rfl, x + n, by rw [World.drewN_drewN]⟩
theorem Ans.to {f : FuncId} {args : Array Value} {v v' : Value} (h : Ans f args v) (e : v = v') : Ans f args v' := e ▸ h
theorem ans_int {f : FuncId} {args : Array Value} {a b : Int} (h : Ans f args (.int .u64 a)) (e : a = b) : Ans f args (.int .u64 b) := e ▸ h

/-- A call that answers so in a world, however far its tape was drawn from, and leaves memory as it was. -/
def AnsW (w : World) (f : FuncId) (args : Array Value) (v : Value) : Prop := ∀ n, Calls Try.prog f args (w.drewN n) fun e w' => e = .returned v ∧ ∃ k, w' = w.drewN (n + k)
theorem Ans.toW {f : FuncId} {args : Array Value} {v : Value} (h : Ans f args v) (w : World) : AnsW w f args v := fun n => h.use _ fun k => ⟨rfl, k, by rw [World.drewN_drewN]⟩
theorem AnsW.use {w : World} {f : FuncId} {args : Array Value} {v : Value} (h : AnsW w f args v) (n : Nat) {R : Ending → World → Prop} (k : ∀ j, R (.returned v) (w.drewN (n + j))) : Calls Try.prog f args (w.drewN n) R :=
  (h n).mono fun _ _ ⟨he, n, hw⟩ => by subst he; subst hw; exact k n
theorem AnsW.use0 {w : World} {f : FuncId} {args : Array Value} {v : Value} (h : AnsW w f args v) {R : Ending → World → Prop} (k : ∀ j, R (.returned v) (w.drewN j)) : Calls Try.prog f args w R :=
  (h 0).mono fun _ _ ⟨he, n, hw⟩ => by subst he; subst hw; rw [Nat.zero_add]; exact k n
theorem AnsW.quiet {w : World} {f : FuncId} {args : Array Value} {v : Value} (h : AnsW w f args v) {N x : Nat} : Calls Try.prog f args (w.drewN (N + x)) fun e w' => e = .returned v ∧ ∃ n, w' = w.drewN (N + n) :=
  h.use _ fun n => ⟨rfl, x + n, by rw [Nat.add_assoc]⟩
theorem AnsW.quiet0 {w : World} {f : FuncId} {args : Array Value} {v : Value} (h : AnsW w f args v) {x : Nat} : Calls Try.prog f args (w.drewN x) fun e w' => e = .returned v ∧ ∃ n, w' = w.drewN n :=
  h.use _ fun n => ⟨rfl, x + n, rfl⟩
theorem AnsW.to {w : World} {f : FuncId} {args : Array Value} {v v' : Value} (h : AnsW w f args v) (e : v = v') : AnsW w f args v' := e ▸ h
theorem ansW_int {w : World} {f : FuncId} {args : Array Value} {a b : Int} (h : AnsW w f args (.int .u64 a)) (e : a = b) : AnsW w f args (.int .u64 b) := e ▸ h

theorem wd_nat {x : Int} (h : Wd x) : ∃ n : Nat, x = n ∧ n < 18446744073709551616 := by
  obtain ⟨n, rfl⟩ := Int.eq_ofNat_of_zero_le h.1
  exact ⟨n, rfl, by have := h.2; omega⟩
theorem wd_of_wf {x : Int} (h : (Lit.int .u64 x).wf = true) : ∃ n : Nat, x = n ∧ n < 18446744073709551616 := by
  have : 0 ≤ x ∧ x < 18446744073709551616 := by
    simp [Lit.wf, IntKind.min, IntKind.max, IntKind.signed, IntKind.bits] at h
    exact ⟨by omega, by omega⟩
  exact wd_nat this
theorem grown_drewN (w : World) (n : Nat) : Grown w (w.drewN n) := by
  have h := Grown.refl w
  exact h
theorem Ans.grown {f : FuncId} {args : Array Value} {v : Value} (h : Ans f args v) (w : World) : Calls Try.prog f args w fun e w' => e = .returned v ∧ Grown w w' :=
  h.use w fun n => ⟨rfl, grown_drewN w n⟩
theorem ret_int {k : IntKind} {a b : Int} (h : a = b) : Ending.returned (.int k a) = .returned (.int k b) := by rw [h]
theorem nz {m : Nat} (h : m ≠ 0) : ((m : Int) == 0) = false := by simp; omega
theorem and_one (x : Int) (h0 : 0 ≤ x) (h1 : x < 18446744073709551616) : bits .and .u64 x 1 = x % 2 := by
  obtain ⟨a, rfl⟩ := Int.eq_ofNat_of_zero_le h0
  have := u64_and_nat a 1 (by omega) (by omega)
  rw [show ((1 : Nat) : Int) = 1 from rfl] at this
  rw [this, show (1 : Nat) = 2 ^ 1 - 1 from rfl, Nat.and_two_pow_sub_one_eq_mod]
  omega
end Go.Proofs.Ytccknfhhmdoffaa

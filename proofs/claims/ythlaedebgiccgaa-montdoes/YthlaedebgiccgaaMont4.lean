/-
  The contract of mont.New: a context of just the moduli that can be; else none, and the error.
-/
import Derived.Test.YthlaedebgiccgaaMont3
import Derived.Test.YthlaedebgiccgaaDoc03
namespace Go.Proofs.Ythlaedebgiccgaa
set_option linter.unusedVariables false
open Go.RowKit

set_option maxHeartbeats 1000000 in
theorem new_walk (w : World) (m g o s : Int) (h3 : 3 ≤ m) (h : (m % 2 == 0) = false) (h2 : m < 9223372036854775808)
    (HO : Ans 26 #[.int .u64 1, .int .u64 m, .int .i64 64] (.int .u64 o))
    (HG : Ans 27 #[.int .u64 m] (.int .u64 g))
    (HS : Ans 26 #[.int .u64 o, .int .u64 m, .int .i64 64] (.int .u64 s)) :
    Calls Try.prog 9 #[.int .u64 m] w fun e w' => e = .returned (.tuple #[.pointer (some ⟨w.heap.size, 0, none⟩), .int .i64 0]) ∧ ∃ n, w' = (w.drewN n).alloc (Obj.cells #[.int .u64 m, .int .u64 g, .int .u64 o, .int .u64 s] 38) := by
  go_enter Try.func9, Try.ntmps9
  go_wp2_with (first | (go_at_call 26; with_reducible refine Ans.use HO _ fun n1 => ?_) | (go_at_call 27; with_reducible refine Ans.use HG _ fun n2 => ?_) | (go_at_call 26; with_reducible refine Ans.use HS _ fun n3 => ?_))
  go_ret2
  exact ⟨rfl, _, rfl⟩

/-- A new context: a place where it lies; nothing old has turned. -/
def NewAns (x : Int) (m : Nat) : Prop := ∀ w, Calls Try.prog 9 #[.int .u64 x] w fun e w' => ∃ b g, e = .returned (.tuple #[.pointer (some ⟨b, 0, none⟩), .int .i64 0]) ∧ Ctx w' b m g ∧ ∀ w0, Grown w0 w → Grown w0 w'
theorem NewAns.use {x : Int} {m : Nat} (h : NewAns x m) (w : World) {R : Ending → World → Prop} (k : ∀ (b g : Nat) (W : World), Ctx W b m g → (∀ w0, Grown w0 w → Grown w0 W) → R (.returned (.tuple #[.pointer (some ⟨b, 0, none⟩), .int .i64 0])) W) : Calls Try.prog 9 #[.int .u64 x] w R :=
  (h w).mono fun _ _ ⟨b, g, he, hc, hg⟩ => by subst he; exact k b g _ hc hg

theorem alloc4 (w : World) (n : Nat) (a b c d : Value) (t : TypeId) :
    ((w.drewN n).alloc (Obj.cells #[a, b, c, d] t)).cell? ⟨w.heap.size, 0, none⟩ = some a ∧ ((w.drewN n).alloc (Obj.cells #[a, b, c, d] t)).cell? ⟨w.heap.size, 1, none⟩ = some b ∧ ((w.drewN n).alloc (Obj.cells #[a, b, c, d] t)).cell? ⟨w.heap.size, 2, none⟩ = some c ∧ ((w.drewN n).alloc (Obj.cells #[a, b, c, d] t)).cell? ⟨w.heap.size, 3, none⟩ = some d := by
  refine ⟨?_, ?_, ?_, ?_⟩ <;> simp [World.cell?, World.alloc, go_sem]
theorem new_any (m : Nat) (h : Gd m) : NewAns m m := by
  intro w
  obtain ⟨h1, h2, h3⟩ := h
  obtain ⟨g, hg, hgg, HG⟩ := against_any m (by omega) h1
  have HO := doubled_any 1 m 64 (by omega) h3 (by omega)
  rw [Nat.one_mul, show (2 : Nat) ^ 64 = 18446744073709551616 by decide] at HO
  have hol := Nat.mod_lt 18446744073709551616 (show 0 < m by omega)
  have HS := doubled_any (18446744073709551616 % m) m 64 hol h3 (by omega)
  rw [show (2 : Nat) ^ 64 = 18446744073709551616 by decide, Nat.mod_mul_mod] at HS
  refine (new_walk w m g _ _ (by omega) (by simp; omega) (by omega) HO HG HS).mono ?_
  rintro e w' ⟨rfl, n, rfl⟩
  obtain ⟨k0, k1, k2, k3⟩ := alloc4 w n (.int .u64 m) (.int .u64 g) (.int .u64 ((18446744073709551616 % m : Nat) : Int)) (.int .u64 ((18446744073709551616 * 18446744073709551616 % m : Nat) : Int)) 38
  refine ⟨w.heap.size, g, rfl, ⟨h1, h2, h3, hg, hgg, k0, k1, k2, k3⟩, fun w0 hw => ?_⟩
  exact Grown.alloc (w' := w.drewN n) hw _ _
theorem new_no (m : Int) (h0 : 0 ≤ m) (h3 : m < 18446744073709551616) (h : m < 3 ∨ (3 ≤ m ∧ (m % 2 == 0) = true) ∨ (3 ≤ m ∧ (m % 2 == 0) = false ∧ 9223372036854775808 ≤ m)) : Ans 9 #[.int .u64 m] (.tuple #[.pointer none, .int .i64 1]) := by
  intro w
  rcases h with h | ⟨h, h'⟩ | ⟨h, h', h''⟩
  all_goals
    go_enter Try.func9, Try.ntmps9
    go_wp2
    go_ret2
    exact ⟨rfl, 0, rfl⟩
theorem new_bad (m : Nat) (hm : m < 18446744073709551616) (h : ¬ Gd m) : Ans 9 #[.int .u64 m] (.tuple #[.pointer none, .int .i64 1]) := by
  unfold Gd at h
  refine new_no m (by omega) (by omega) ?_
  by_cases a : (m : Int) < 3
  · exact Or.inl a
  · by_cases b : m % 2 = 0
    · exact Or.inr (Or.inl ⟨by omega, by simp; omega⟩)
    · exact Or.inr (Or.inr ⟨by omega, by simp; omega, by omega⟩)
end Go.Proofs.Ythlaedebgiccgaa

/-
  The contract of the statements' first question in layer 2: what the document tells by example is answered so.
-/
import Derived.Test.YtjbhdbbepjokpaaMod3
import Derived.RowKit3
namespace Go.Proofs.Ytjbhdbbepjokpaa
set_option linter.unusedVariables false
open Go.RowKit

theorem alive_walk (HI : Ans 20 #[.int .u64 3, .int .u64 7] (.tuple #[.int .u64 5, .bool true])) (HJ : Ans 24 #[.int .u64 2, .int .u64 3, .int .u64 3, .int .u64 5] (.tuple #[.int .u64 8, .bool true])) (HA : Ans 11 #[.int .u64 6, .int .u64 6, .int .u64 7] (.int .u64 5)) :
    Ans 10 #[] (.bool true) := by
  intro w
  go_enter Try.func10, Try.ntmps10
  go_wp2_with (first | (go_at_call 20; with_reducible refine Ans.use HI _ fun n1 => ?_) | (go_at_call 24; with_reducible refine Ans.use HJ _ fun n2 => ?_) | (go_at_call 11; with_reducible refine Ans.use HA _ fun n3 => ?_))
  go_ret
  exact ⟨rfl, _, rfl⟩

theorem alive_any : Ans 10 #[] (.bool true) := by
  obtain ⟨x, hx, h, HI⟩ := inv_yes 3 7 (by omega) (by omega) (by omega) (by decide)
  obtain rfl : x = 5 := by omega
  obtain ⟨y, hy, h1, h2, HJ⟩ := join_yes 2 3 3 5 (by omega) (by omega) (by omega) (by omega) (by omega) (by omega) (by decide) (by omega)
  obtain rfl : y = 8 := by omega
  exact alive_walk HI HJ (add_nat 6 6 7 (by omega) (by omega) (by omega) (by omega))

theorem wd_of_wf {x : Int} (h : (Lit.int .u64 x).wf = true) : ∃ n : Nat, x = n ∧ n < 18446744073709551616 := by
  have : 0 ≤ x ∧ x < 18446744073709551616 := by
    simp [Lit.wf, IntKind.min, IntKind.max, IntKind.signed, IntKind.bits] at h
    exact ⟨by omega, by omega⟩
  exact wd_nat this
theorem grown_drewN (w : World) (n : Nat) : Grown w (w.drewN n) := by
  have h := Grown.refl w
  exact h
theorem Ans.grown {f : FuncId} {args : Array Value} {v : Value} (h : Ans f args v) (w : World) : Calls Try.prog f args w fun e w' => e = .returned v ∧ Grown w w' :=
  h.use w fun n => ⟨rfl, grown_drewN w n⟩
end Go.Proofs.Ytjbhdbbepjokpaa

/-
  field.Known of a number that is none of a known prime.
-/
import Derived.Test.YtpjfapibjihbbaaGreatDoorF19
import Derived.Test.YtpjfapibjihbbaaGreatDoorF15
namespace Go.Proofs.YtpjfapibjihbbaaGreatDoor
set_option linter.unusedVariables false
open Go.RowKit

theorem kn_no {w : World} {R : Ending → World → Prop} (k : ∀ (a0 d0 : Int) (A0 : Option Addr) (n0 C0 : Nat) (a1 d1 : Int) (A1 : Option Addr) (n1 C1 : Nat) (a2 d2 : Int) (A2 : Option Addr) (n2 C2 : Nat) (a3 d3 : Int) (A3 : Option Addr) (n3 C3 : Nat) (a4 d4 : Int) (A4 : Option Addr) (n4 C4 : Nat) (a5 d5 : Int) (A5 : Option Addr) (n5 C5 : Nat) w', Below w.heap.size w w' → R (.returned (.agg #[(.int .u64 a0), (.int .u64 d0), (.slice A0 n0 C0), (.int .u64 a1), (.int .u64 d1), (.slice A1 n1 C1), (.int .u64 a2), (.int .u64 d2), (.slice A2 n2 C2), (.int .u64 a3), (.int .u64 d3), (.slice A3 n3 C3), (.int .u64 a4), (.int .u64 d4), (.slice A4 n4 C4), (.int .u64 a5), (.int .u64 d5), (.slice A5 n5 C5)])) w') : Calls Tryz.prog 38 #[] w R :=
  (entries_any w).mono fun _ w' ⟨he, hb, hp⟩ => by subst he; exact k _ _ _ _ _ _ _ _ _ _ _ _ _ _ _ _ _ _ _ _ _ _ _ _ _ _ _ _ _ _ w' hb
set_option maxHeartbeats 1000000 in
theorem known_neg (z : Int) (h : z < 0) : AnsM 17 #[.int .i64 z] (.tuple #[.pointer none, .int .i64 1]) := by
  intro w
  go_enter Tryz.func17, Tryz.ntmps17
  go_wp2_with (go_at_call 38; with_reducible refine kn_no fun a0 d0 A0 n0 C0 a1 d1 A1 n1 C1 a2 d2 A2 n2 C2 a3 d3 A3 n3 C3 a4 d4 A4 n4 C4 a5 d5 A5 n5 C5 w1 hb1 => ?_)
  go_ret2
  exact ⟨rfl, bb hb1 (below_alloc _ _)⟩
set_option maxHeartbeats 1000000 in
theorem known_big (z : Int) (h : 0 ≤ z) (h6 : 6 ≤ z) : AnsM 17 #[.int .i64 z] (.tuple #[.pointer none, .int .i64 1]) := by
  intro w
  go_enter Tryz.func17, Tryz.ntmps17
  go_wp2_with (go_at_call 38; with_reducible refine kn_no fun a0 d0 A0 n0 C0 a1 d1 A1 n1 C1 a2 d2 A2 n2 C2 a3 d3 A3 n3 C3 a4 d4 A4 n4 C4 a5 d5 A5 n5 C5 w1 hb1 => ?_)
  go_ret2
  exact ⟨rfl, bb hb1 (below_alloc _ _)⟩
theorem known_none (z : Int) (h : z < 0 ∨ 6 ≤ z) : AnsM 17 #[.int .i64 z] (.tuple #[.pointer none, .int .i64 1]) := by
  by_cases h0 : z < 0
  · exact known_neg z h0
  · exact known_big z (by omega) (by omega)
end Go.Proofs.YtpjfapibjihbbaaGreatDoor

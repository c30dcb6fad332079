/-
  What radix4's lay does: of one number, of two, of four parts. No condition but that the rows lie there.
-/
import Derived.Test.YtpjfapibjihbbaaGreatDoorF37
import Derived.Test.YtpjfapibjihbbaaGreatDoorF35
namespace Go.Proofs.YtpjfapibjihbbaaGreatDoor
set_option linter.unusedVariables false
open Go.RowKit

theorem mulC {c x y : Nat} (h : c * x = y) (hy : y ≤ 16777216) : wrap64 ((c : Int) * (x : Int)) = (y : Int) ∧ IntKind.i64.wrap ((c : Int) * (x : Int)) = (y : Int) := mulI' h hy
end Go.Proofs.YtpjfapibjihbbaaGreatDoor
/-
  What radix4's lay does with a field and its table: each power of two by quarters. No condition but that the field and the rows lie there.
-/
namespace Go.Proofs.YtpjfapibjihbbaaGreatDoor
set_option linter.unusedVariables false
open Go.RowKit

/-- What it lays of a whole list: the sums. -/
theorem layF_all {x : En} {i : Bool} {xs : List Nat} (A : Nat → Nat) : lf xs.length (layF x.p (twR x xs.length i) (atL xs) 1 xs.length 0 0 A) = smL x i xs := by
  refine lf_ext fun j hj => ?_
  unfold layF
  rw [if_pos (by omega), Nat.pow_one, Nat.sub_zero]
  congr 1
  exact tS_ext fun u _ => by rw [Nat.zero_add, Nat.mul_one]
theorem two_four (c : Nat) : 2 ^ c = 4 ^ (c / 2) ∨ 2 ^ c = 2 * 4 ^ (c / 2) := by
  have h4 : ∀ e, 4 ^ e = 2 ^ (2 * e) := fun e => by rw [Nat.pow_mul]
  rw [h4]
  rcases Nat.mod_two_eq_zero_or_one c with h | h
  · left; congr 1; omega
  · right; rw [← Nat.pow_succ']; congr 1; omega
end Go.Proofs.YtpjfapibjihbbaaGreatDoor
/-
  What radix4's check and Run answer. No condition but that the field and the list lie there.
-/
namespace Go.Proofs.YtpjfapibjihbbaaGreatDoor
set_option linter.unusedVariables false
open Go.RowKit

/-! ### check -/
/-! ### Run -/
end Go.Proofs.YtpjfapibjihbbaaGreatDoor

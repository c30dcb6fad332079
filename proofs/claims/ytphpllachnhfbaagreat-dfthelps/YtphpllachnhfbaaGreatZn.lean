/-
  What a nil field's calls answer. No condition.
-/
import Derived.Test.YtphpllachnhfbaaGreatF8
import Derived.Test.YtphpllachnhfbaaGreatF6
namespace Go.Proofs.YtphpllachnhfbaaGreat
set_option linter.unusedVariables false
open Go.RowKit

theorem ans_of {f : FuncId} {args : Array Value} {v : Value} (h : ∀ w, AnsW w f args v) : Ans f args v := fun w => (h w).use0 fun j => ⟨rfl, j, rfl⟩
theorem zP : Ans 43 #[.pointer none] (.int .u64 0) := ans_of fun w => fP_walk w _ _ _ (reck_nil w) (nil_modulus w)
theorem zG : Ans 42 #[.pointer none] (.int .u64 0) := ans_of fun w => fG_nil w
theorem zAdd (x y : Int) : Ans 54 #[.pointer none, .int .u64 x, .int .u64 y] (.int .u64 0) := ans_of fun w => fAdd_walk w _ _ _ _ _ (reck_nil w) (nil_add x y w)
theorem zLift (x : Int) : Ans 38 #[.pointer none, .int .u64 x] (.int .u64 0) := ans_of fun w => fLift_walk w _ _ _ _ (reck_nil w) (nil_in x w)
theorem zTimes (x y : Int) : Ans 40 #[.pointer none, .int .u64 x, .int .u64 y] (.int .u64 0) := ans_of fun w => fTimes_walk w _ _ _ _ _ (reck_nil w) (nil_mul x y w)
theorem zPow (x y : Int) : Ans 41 #[.pointer none, .int .u64 x, .int .u64 y] (.int .u64 0) := ans_of fun w => fPow_walk w _ _ x y 0 0 0 (reck_nil w) (nil_in x w) (nil_pow 0 y w) (nil_out 0 w)
theorem zInv (x : Int) : Ans 39 #[.pointer none, .int .u64 x] (.int .u64 0) := ans_of fun w => fInv_walk w _ x 0 0 false (zP.toW w) (Md.inv_small x 0 (by omega) (by omega))
theorem zGood (x : Int) (h : 0 ≤ x) : Ans 37 #[.pointer none, .int .u64 x] (.bool false) := ans_of fun w => (fGood_walk w _ x 0 (zP.toW w)).to (by rw [decide_eq_false (by omega)])
theorem zDiv (n : Int) : Ans 36 #[.pointer none, .int .i64 n] (.bool false) := ans_of fun w => fDiv_nil w n
theorem zRoot (n : Int) : Ans 23 #[.pointer none, .int .i64 n] (.tuple #[.int .u64 0, .int .i64 2]) := ans_of fun w => fRoot_nil w n
end Go.Proofs.YtphpllachnhfbaaGreat

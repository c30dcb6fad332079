/-
  Plain mathematics of Radix4Row: the transform of one 1 among noughts, and of the same number throughout; a new row of words. No condition.
-/
import Derived.Test.YtehljcflodilhaaGreatRqA
namespace Go.Proofs.YtehljcflodilhaaGreat
set_option linter.unusedVariables false
open Go.RowKit

theorem wrU {x : Nat} (h : x ≤ 16777216) : IntKind.u64.wrap (x : Int) = (x : Int) := by rw [IntKind.wrap_u64]; omega
theorem made_own {w : World} {base g n : Nat} (hR : w.ownsRow base 22 1 (.slice (some ⟨g, 0, none⟩) n n) n (madeCells (Value.int .u64 0).cells (n * 1)).toList) : OwnU w base (some ⟨g, 0, none⟩) n (lf n fun _ => 0) := by
  have e : (madeCells (Value.int .u64 0).cells (n * 1)).toList = ucells (lf n fun _ => 0) := by
    rw [made_list rfl, lf_zero]; simp [ucells]
  unfold OwnU
  rw [← e, lf_len]
  exact hR
/-- One 1 among noughts: the root's powers. -/
theorem dT_alone {x : En} (hF : Fld x) {n k i : Nat} (hk : k < n) (hi : i < n) : (dT x false (lf n fun j => if j = k then 1 else 0))[i]? = some (twR x n false ^ (i * k) % x.p) := by
  rw [dT_get (by rw [lf_len]; exact hi)]
  unfold dV
  rw [if_neg (by decide), lf_len]
  congr 2
  unfold tS
  rw [sN_one _ k n hk fun j hj hne => by rw [lf_at _ hj, if_neg hne, Nat.zero_mul], lf_at _ hk, if_pos rfl, Nat.one_mul]
/-- The same number throughout: n times it, and noughts. -/
theorem dT_flat {x : En} (hF : Fld x) {n u i : Nat} (h1 : 1 ≤ n) (hd : (x.p - 1) % n = 0) (hi : i < n) : (dT x false (lf n fun _ => u))[i]? = some (if i = 0 then u * n % x.p else 0) := by
  rw [dT_get (by rw [lf_len]; exact hi)]
  unfold dV
  rw [if_neg (by decide), lf_len]
  congr 1
  have e : tS (twR x n false) n (atL (lf n fun _ => u)) i = u * sN (fun j => twR x n false ^ (i * j)) n := by
    unfold tS
    rw [← sN_mul]
    exact sN_ext fun j hj => by rw [lf_at _ hj]
  have ho := orth hF.prm (twR_ord hF h1 hd false) i
  rw [Nat.mod_eq_of_lt hi] at ho
  rw [e, Nat.mul_mod, sN_ext (g := fun j => twR x n false ^ (j * i)) fun j _ => by rw [Nat.mul_comm], ho, ← Nat.mul_mod]
  by_cases h : i = 0
  · rw [if_pos h, if_pos h]
  · rw [if_neg h, if_neg h, Nat.mul_zero, Nat.zero_mod]
/-- What is wrong with a list hangs on its length, where all are residues. -/
theorem ck2_flat {p m u k : Nat} (h : ck2 p (lf m fun j => if j = k then 1 else 0) = 0) (hu : u < p) : ck2 p (lf m fun _ => u) = 0 := by
  unfold ck2 at h ⊢
  rw [lf_len] at h ⊢
  by_cases h0 : ckD p (m : Int) 4096 = 0
  · rw [if_neg (by omega)] at h ⊢
    cases hf : fitV (m : Int)
    · rw [hf, if_pos rfl] at h; cases h
    · rw [if_neg (by decide), goodB_iff.2 (lf_lt fun _ _ => hu), if_neg (by decide)]
  · rw [if_pos h0] at h; exact absurd h h0
theorem twR_fwd (x : En) (m : Nat) : twR x m false = rootN x.p x.g m := by unfold twR; rw [if_neg (by decide)]
end Go.Proofs.YtehljcflodilhaaGreat

/-
  What twiddle.Root, and the document's Root, answer. No condition but that the field lies there.
-/
import Derived.Test.YtphpllachnhfbaaGreatTw0
import Derived.Test.YtphpllachnhfbaaGreatF28
namespace Go.Proofs.YtphpllachnhfbaaGreat
set_option linter.unusedVariables false
open Go.RowKit

/-- The root of order n, or what makes 1 with it. -/
def twR (x : En) (n : Nat) (i : Bool) : Nat := if i then rootN x.p x.g n ^ (n - 1) % x.p else rootN x.p x.g n
theorem twR_lt {x : En} (hF : Fld x) (n : Nat) (i : Bool) : twR x n i < x.p := by
  have h3 := hF.num.1
  cases i
  · exact rootN_lt hF n
  · exact Nat.mod_lt _ (by omega)
theorem tRoot_nil (w : World) (z : Int) (i : Bool) : AnsW w 76 #[.pointer none, .int .i64 z, .bool i] (.tuple #[.int .u64 0, .int .i64 2]) := by
  intro n
  go_enter Tryz.func76, Tryz.ntmps76
  go_wp2
  go_ret2
  exact ⟨rfl, 0, rfl⟩
theorem tRoot_arg (w : World) (a : Addr) (z : Int) (i : Bool) (h : z < 1) : AnsW w 76 #[.pointer (some a), .int .i64 z, .bool i] (.tuple #[.int .u64 0, .int .i64 1]) := by
  intro n
  go_enter Tryz.func76, Tryz.ntmps76
  go_wp2
  go_ret2
  exact ⟨rfl, 0, rfl⟩
theorem tRoot_long (w : World) (a : Addr) (z : Int) (i : Bool) (h : 1 ≤ z) (h2 : 4096 < z) : AnsW w 76 #[.pointer (some a), .int .i64 z, .bool i] (.tuple #[.int .u64 0, .int .i64 13]) := by
  intro n
  go_enter Tryz.func76, Tryz.ntmps76
  go_wp2
  go_ret2
  exact ⟨rfl, 0, rfl⟩
theorem tRoot_no (w : World) (a : Addr) (z : Int) (i : Bool) (h : 1 ≤ z) (h2 : z ≤ 4096) (HR : AnsW w 23 #[.pointer (some a), .int .i64 z] (.tuple #[.int .u64 0, .int .i64 4])) : AnsW w 76 #[.pointer (some a), .int .i64 z, .bool i] (.tuple #[.int .u64 0, .int .i64 4]) := by
  intro n
  go_enter Tryz.func76, Tryz.ntmps76
  go_wp2_with (first | (go_at_call 23; with_reducible refine AnsW.use HR _ fun n1 => ?_))
  go_ret2
  exact ⟨rfl, _, rfl⟩
theorem tRoot_fwd (w : World) (a : Addr) (z r : Int) (h : 1 ≤ z) (h2 : z ≤ 4096) (HR : AnsW w 23 #[.pointer (some a), .int .i64 z] (.tuple #[.int .u64 r, .int .i64 0])) : AnsW w 76 #[.pointer (some a), .int .i64 z, .bool false] (.tuple #[.int .u64 r, .int .i64 0]) := by
  intro n
  go_enter Tryz.func76, Tryz.ntmps76
  go_wp2_with (first | (go_at_call 23; with_reducible refine AnsW.use HR _ fun n1 => ?_))
  go_ret2
  exact ⟨rfl, _, rfl⟩
theorem tRoot_inv (w : World) (a : Addr) (z r v : Int) (h : 1 ≤ z) (h2 : z ≤ 4096) (HR : AnsW w 23 #[.pointer (some a), .int .i64 z] (.tuple #[.int .u64 r, .int .i64 0])) (HI : AnsW w 39 #[.pointer (some a), .int .u64 r] (.int .u64 v)) : AnsW w 76 #[.pointer (some a), .int .i64 z, .bool true] (.tuple #[.int .u64 v, .int .i64 0]) := by
  intro n
  go_enter Tryz.func76, Tryz.ntmps76
  go_wp2_with (first | (go_at_call 23; with_reducible refine AnsW.use HR _ fun n1 => ?_) | (go_at_call 39; with_reducible refine AnsW.use HI _ fun n2 => ?_))
  go_ret2
  exact ⟨rfl, n1 + n2, by simp [Nat.add_assoc]⟩
theorem tRoot_yes {w : World} {b : Nat} {x : En} (F : FieldAt w b x) (hF : Fld x) (n : Nat) (h1 : 1 ≤ n) (h2 : n ≤ 4096) (hd : (x.p - 1) % n = 0) (i : Bool) : AnsW w 76 #[pt b, .int .i64 (n : Int), .bool i] (.tuple #[.int .u64 ((twR x n i : Nat) : Int), .int .i64 0]) := by
  obtain ⟨h3, hodd, hlt⟩ := hF.num
  have hg := hF.gl
  have HR := fRoot_any F (by omega) n (by omega) h1 hd
  cases i
  · exact tRoot_fwd w _ n _ (by omega) (by omega) HR
  · obtain ⟨v, hv, HI⟩ := fInv_any hF.prm hlt (rootN x.p x.g n) (by have := rootN_lt hF n; omega)
    have e := inv_root hF.prm (rootN_ord hF h1 hd) h1 hv
    refine (tRoot_inv w _ n _ (v : Int) (by omega) (by omega) HR (HI w b F)).to ?_
    unfold twR
    rw [if_pos rfl, ← e]
theorem twR_ord {x : En} (hF : Fld x) {n : Nat} (h1 : 1 ≤ n) (hd : (x.p - 1) % n = 0) (i : Bool) : OrdN (twR x n i) x.p n := by
  cases i
  · exact rootN_ord hF h1 hd
  · have hp := hF.prm
    have h3 := hp.1
    have ho := rootN_ord hF h1 hd
    have hv : IsInv (rootN x.p x.g n) x.p (rootN x.p x.g n ^ (n - 1) % x.p) := by
      refine ⟨Nat.mod_lt _ (by omega), fun _ => ?_, fun e => absurd e (ho.ne h1)⟩
      rw [pw_next, show n - 1 + 1 = n by omega]
      exact (ho n).2 (Nat.mod_self _)
    exact inv_ord hp ho h1 hv
theorem twR_inv {x : En} (hF : Fld x) {n : Nat} (h1 : 1 ≤ n) (hd : (x.p - 1) % n = 0) : IsInv (twR x n false) x.p (twR x n true) := by
  have h3 := hF.num.1
  have ho := rootN_ord hF h1 hd
  refine ⟨twR_lt hF n true, fun _ => ?_, fun e => absurd e (ho.ne h1)⟩
  show rootN x.p x.g n * (rootN x.p x.g n ^ (n - 1) % x.p) % x.p = 1
  rw [pw_next, show n - 1 + 1 = n by omega]
  exact (ho n).2 (Nat.mod_self _)

/-! ### The document's -/
theorem dRoot_arg (p g z : Int) (i : Bool) (h : z < 1) : Ans 32 #[.int .u64 p, .int .u64 g, .int .i64 z, .bool i] (.tuple #[.int .u64 0, .int .i64 1]) := by
  intro w
  go_enter Tryz.func32, Tryz.ntmps32
  go_wp2
  go_ret2
  exact ⟨rfl, 0, rfl⟩
theorem dRoot_long (p g z : Int) (i : Bool) (h : 1 ≤ z) (h2 : 4096 < z) : Ans 32 #[.int .u64 p, .int .u64 g, .int .i64 z, .bool i] (.tuple #[.int .u64 0, .int .i64 13]) := by
  intro w
  go_enter Tryz.func32, Tryz.ntmps32
  go_wp2
  go_ret2
  exact ⟨rfl, 0, rfl⟩
theorem dRoot_no (p g z r : Int) (i : Bool) (p0 : 2 ≤ p) (p1 : p < 18446744073709551616) (h : 1 ≤ z) (h2 : z ≤ 4096) (hz : (z == 0) = false) (hr : (p - 1) % z = r) (h0 : (r != 0) = true) : Ans 32 #[.int .u64 p, .int .u64 g, .int .i64 z, .bool i] (.tuple #[.int .u64 0, .int .i64 4]) := by
  intro w
  go_enter Tryz.func32, Tryz.ntmps32
  go_wp2
  go_ret2
  exact ⟨rfl, 0, rfl⟩
theorem dRoot_fwd (p g z r : Int) (p0 : 2 ≤ p) (p1 : p < 18446744073709551616) (h : 1 ≤ z) (h2 : z ≤ 4096) (hz : (z == 0) = false) (hr : (p - 1) % z = 0) (HR : Ans 55 #[.int .u64 p, .int .u64 g, .int .i64 z] (.int .u64 r)) : Ans 32 #[.int .u64 p, .int .u64 g, .int .i64 z, .bool false] (.tuple #[.int .u64 r, .int .i64 0]) := by
  intro w
  go_enter Tryz.func32, Tryz.ntmps32
  go_wp2_with (first | (go_at_call 55; with_reducible refine Ans.use HR _ fun n1 => ?_))
  go_ret2
  exact ⟨rfl, _, rfl⟩
theorem dRoot_inv (p g z r v : Int) (p0 : 2 ≤ p) (p1 : p < 18446744073709551616) (h : 1 ≤ z) (h2 : z ≤ 4096) (hz : (z == 0) = false) (hr : (p - 1) % z = 0) (HR : Ans 55 #[.int .u64 p, .int .u64 g, .int .i64 z] (.int .u64 r)) (HP : Ans 24 #[.int .u64 r, .int .u64 (z - 1), .int .u64 p] (.int .u64 v)) : Ans 32 #[.int .u64 p, .int .u64 g, .int .i64 z, .bool true] (.tuple #[.int .u64 v, .int .i64 0]) := by
  intro w
  go_enter Tryz.func32, Tryz.ntmps32
  go_wp2_with (first | (go_at_call 55; with_reducible refine Ans.use HR _ fun n1 => ?_) | (go_at_call 24; with_reducible refine Ans.use HP _ fun n2 => ?_))
  go_ret2
  exact ⟨rfl, n1 + n2, by simp⟩
theorem dRoot_yes {x : En} (hF : Fld x) (n : Nat) (h1 : 1 ≤ n) (h2 : n ≤ 4096) (hd : (x.p - 1) % n = 0) (i : Bool) : Ans 32 #[.int .u64 (x.p : Int), .int .u64 (x.g : Int), .int .i64 (n : Int), .bool i] (.tuple #[.int .u64 ((twR x n i : Nat) : Int), .int .i64 0]) := by
  obtain ⟨h3, hodd, hlt⟩ := hF.num
  have hg := hF.gl
  have HR := rroot_any x.p x.g n (by omega) (by omega) (by omega) h1 (by omega) hd
  have hz : ((n : Int) == 0) = false := by simp; omega
  have e : (x.p : Int) - 1 = ((x.p - 1 : Nat) : Int) := by omega
  have hr : ((x.p : Int) - 1) % (n : Int) = 0 := by rw [e]; exact_mod_cast hd
  cases i
  · exact dRoot_fwd _ _ _ _ (by omega) (by omega) (by omega) (by omega) hz hr HR
  · have HP := rpow_any (rootN x.p x.g n) x.p (by have := rootN_lt hF n; omega) (by omega) (by omega) (n - 1) (by omega)
    rw [show ((n - 1 : Nat) : Int) = (n : Int) - 1 by omega] at HP
    exact dRoot_inv _ _ _ _ _ (by omega) (by omega) (by omega) (by omega) hz hr HR HP
theorem dRoot_bad {x : En} (hF : Fld x) (n : Nat) (h1 : 1 ≤ n) (h2 : n ≤ 4096) (hd : (x.p - 1) % n ≠ 0) (i : Bool) : Ans 32 #[.int .u64 (x.p : Int), .int .u64 (x.g : Int), .int .i64 (n : Int), .bool i] (.tuple #[.int .u64 0, .int .i64 4]) := by
  obtain ⟨h3, hodd, hlt⟩ := hF.num
  have e : (x.p : Int) - 1 = ((x.p - 1 : Nat) : Int) := by omega
  exact dRoot_no _ _ _ (((x.p - 1) % n : Nat) : Int) i (by omega) (by omega) (by omega) (by omega) (by simp; omega) (by rw [e]; rfl) (by simp; omega)
end Go.Proofs.YtphpllachnhfbaaGreat

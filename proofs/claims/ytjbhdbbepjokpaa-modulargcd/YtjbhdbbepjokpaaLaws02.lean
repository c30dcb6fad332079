/-
  The walks of layer 2's statements: each returns true, of all words.
-/
import Derived.Test.YtjbhdbbepjokpaaAlive02
import Derived.Deep.QuietTactic
import Derived.BigQuiet
namespace Go.Proofs.Ytjbhdbbepjokpaa
set_option linter.unusedVariables false
open Go.RowKit

set_option maxHeartbeats 1000000 in
theorem sums0 (a b : Int) 
    (H0 : Ans 10 #[] (.bool true))
    (H1 : Ans 11 #[.int .u64 a, .int .u64 b, .int .u64 0] (.int .u64 0))
    (H2 : Ans 12 #[.int .u64 a, .int .u64 b, .int .u64 0] (.int .u64 0))
    (H3 : Ans 13 #[.int .u64 a, .int .u64 0] (.int .u64 0)) :
    Ans 3 #[.int .u64 a, .int .u64 b, .int .u64 0] (.bool true) := by
  intro w
  go_enter Try.func3, Try.ntmps3
  go_wp2_with (first | (go_at_call 10; with_reducible refine Ans.use H0 _ fun n0 => ?_) | (go_at_call 11; with_reducible refine Ans.use H1 _ fun n1 => ?_) | (go_at_call 12; with_reducible refine Ans.use H2 _ fun n2 => ?_) | (go_at_call 13; with_reducible refine Ans.use H3 _ fun n3 => ?_))
  go_ret
  exact ⟨rfl, _, rfl⟩

set_option maxHeartbeats 1000000 in
theorem sums1 (a b m s n d q : Int) (hm : (m == 0) = false)
    (H0 : Ans 10 #[] (.bool true))
    (H1 : Ans 11 #[.int .u64 a, .int .u64 b, .int .u64 m] (.int .u64 s))
    (H2 : Ans 14 #[.int .u64 a, .int .u64 b, .int .u64 m] (.int .u64 s))
    (H3 : Ans 13 #[.int .u64 a, .int .u64 m] (.int .u64 n))
    (H4 : Ans 15 #[.int .u64 a, .int .u64 m] (.int .u64 n))
    (H5 : Ans 12 #[.int .u64 a, .int .u64 b, .int .u64 m] (.int .u64 d))
    (H6 : Ans 15 #[.int .u64 b, .int .u64 m] (.int .u64 q))
    (H7 : Ans 14 #[.int .u64 a, .int .u64 q, .int .u64 m] (.int .u64 d)) :
    Ans 3 #[.int .u64 a, .int .u64 b, .int .u64 m] (.bool true) := by
  intro w
  go_enter Try.func3, Try.ntmps3
  go_wp2_with (first | (go_at_call 10; with_reducible refine Ans.use H0 _ fun n0 => ?_) | (go_at_call 11; with_reducible refine Ans.use H1 _ fun n1 => ?_) | (go_at_call 14; with_reducible refine Ans.use H2 _ fun n2 => ?_) | (go_at_call 13; with_reducible refine Ans.use H3 _ fun n3 => ?_) | (go_at_call 15; with_reducible refine Ans.use H4 _ fun n4 => ?_) | (go_at_call 12; with_reducible refine Ans.use H5 _ fun n5 => ?_) | (go_at_call 15; with_reducible refine Ans.use H6 _ fun n6 => ?_) | (go_at_call 14; with_reducible refine Ans.use H7 _ fun n7 => ?_))
  go_ret
  exact ⟨rfl, _, rfl⟩

theorem nz {m : Nat} (h : m ≠ 0) : ((m : Int) == 0) = false := by simp; omega
theorem sums_any (a b m : Nat) (ha : a < 18446744073709551616) (hb : b < 18446744073709551616) (hm : m < 18446744073709551616) : Ans 3 #[.int .u64 a, .int .u64 b, .int .u64 m] (.bool true) := by
  by_cases h0 : m = 0
  · subst h0; exact sums0 a b alive_any (add_zero a b) (sub_zero a b) (neg_zero a)
  · have hp : 0 < m := by omega
    have hq := negN_lt b m hp
    exact sums1 a b m _ _ _ _ (nz h0) alive_any (add_nat a b m ha hb hm hp) (radd_any a b m ha hb hm hp) (neg_nat a m ha hm hp) (rneg_any a m ha hm hp) (sub_nat a b m ha hb hm hp) (rneg_any b m hb hm hp) (radd_any a _ m ha (by omega) hm hp)

set_option maxHeartbeats 1000000 in
theorem products0 (a b : Int) 
    (H0 : Ans 10 #[] (.bool true))
    (H1 : Ans 16 #[.int .u64 a, .int .u64 b, .int .u64 0] (.int .u64 0))
    (H2 : Ans 17 #[.int .u64 a, .int .u64 b, .int .u64 0] (.int .u64 0)) :
    Ans 4 #[.int .u64 a, .int .u64 b, .int .u64 0] (.bool true) := by
  intro w
  go_enter Try.func4, Try.ntmps4
  go_wp2_with (first | (go_at_call 10; with_reducible refine Ans.use H0 _ fun n0 => ?_) | (go_at_call 16; with_reducible refine Ans.use H1 _ fun n1 => ?_) | (go_at_call 17; with_reducible refine Ans.use H2 _ fun n2 => ?_))
  go_ret
  exact ⟨rfl, _, rfl⟩

set_option maxHeartbeats 1000000 in
theorem products1 (a b m p q : Int) (hm : (m == 0) = false)
    (H0 : Ans 10 #[] (.bool true))
    (H1 : Ans 16 #[.int .u64 a, .int .u64 b, .int .u64 m] (.int .u64 p))
    (H2 : Ans 18 #[.int .u64 a, .int .u64 b, .int .u64 m] (.int .u64 p))
    (H3 : Ans 17 #[.int .u64 a, .int .u64 b, .int .u64 m] (.int .u64 q))
    (H4 : Ans 19 #[.int .u64 a, .int .u64 b, .int .u64 m] (.int .u64 q)) :
    Ans 4 #[.int .u64 a, .int .u64 b, .int .u64 m] (.bool true) := by
  intro w
  go_enter Try.func4, Try.ntmps4
  go_wp2_with (first | (go_at_call 10; with_reducible refine Ans.use H0 _ fun n0 => ?_) | (go_at_call 16; with_reducible refine Ans.use H1 _ fun n1 => ?_) | (go_at_call 18; with_reducible refine Ans.use H2 _ fun n2 => ?_) | (go_at_call 17; with_reducible refine Ans.use H3 _ fun n3 => ?_) | (go_at_call 19; with_reducible refine Ans.use H4 _ fun n4 => ?_))
  go_ret
  exact ⟨rfl, _, rfl⟩

theorem products_any (a b m : Nat) (ha : a < 18446744073709551616) (hb : b < 18446744073709551616) (hm : m < 18446744073709551616) : Ans 4 #[.int .u64 a, .int .u64 b, .int .u64 m] (.bool true) := by
  by_cases h0 : m = 0
  · subst h0; exact products0 a b alive_any (mul_zero a b) (pow_zero a b)
  · have hp : 0 < m := by omega
    exact products1 a b m _ _ (nz h0) alive_any (mul_nat a b m ha hb hm hp) (rmul_any a b m ha hb hm hp) (pow_any a b m ha hb hm hp) (rpow_any a m ha hm hp b hb)

set_option maxHeartbeats 1000000 in
theorem ring0 (a b c : Int) 
    (H0 : Ans 10 #[] (.bool true)) :
    Ans 5 #[.int .u64 a, .int .u64 b, .int .u64 c, .int .u64 0] (.bool true) := by
  intro w
  go_enter Try.func5, Try.ntmps5
  go_wp2_with (first | (go_at_call 10; with_reducible refine Ans.use H0 _ fun n0 => ?_))
  go_ret
  exact ⟨rfl, _, rfl⟩

set_option maxHeartbeats 1000000 in
theorem ring1 (a b c m bc l ab ac sab sabc abc pbc n rest : Int) (hm : (m == 0) = false) (ha0 : 0 ≤ a) (ha : a < 18446744073709551616) (hm0 : 0 < m) (hm1 : m < 18446744073709551616) (hr : a % m = rest)
    (H0 : Ans 10 #[] (.bool true))
    (H1 : Ans 11 #[.int .u64 b, .int .u64 c, .int .u64 m] (.int .u64 bc))
    (H2 : Ans 16 #[.int .u64 a, .int .u64 bc, .int .u64 m] (.int .u64 l))
    (H3 : Ans 16 #[.int .u64 a, .int .u64 b, .int .u64 m] (.int .u64 ab))
    (H4 : Ans 16 #[.int .u64 a, .int .u64 c, .int .u64 m] (.int .u64 ac))
    (H5 : Ans 11 #[.int .u64 ab, .int .u64 ac, .int .u64 m] (.int .u64 l))
    (H6 : Ans 11 #[.int .u64 a, .int .u64 b, .int .u64 m] (.int .u64 sab))
    (H7 : Ans 11 #[.int .u64 sab, .int .u64 c, .int .u64 m] (.int .u64 sabc))
    (H8 : Ans 11 #[.int .u64 a, .int .u64 bc, .int .u64 m] (.int .u64 sabc))
    (H9 : Ans 16 #[.int .u64 ab, .int .u64 c, .int .u64 m] (.int .u64 abc))
    (H10 : Ans 16 #[.int .u64 b, .int .u64 c, .int .u64 m] (.int .u64 pbc))
    (H11 : Ans 16 #[.int .u64 a, .int .u64 pbc, .int .u64 m] (.int .u64 abc))
    (H12 : Ans 16 #[.int .u64 b, .int .u64 a, .int .u64 m] (.int .u64 ab))
    (H13 : Ans 13 #[.int .u64 a, .int .u64 m] (.int .u64 n))
    (H14 : Ans 11 #[.int .u64 a, .int .u64 n, .int .u64 m] (.int .u64 0))
    (H15 : Ans 16 #[.int .u64 a, .int .u64 1, .int .u64 m] (.int .u64 rest)) :
    Ans 5 #[.int .u64 a, .int .u64 b, .int .u64 c, .int .u64 m] (.bool true) := by
  intro w
  go_enter Try.func5, Try.ntmps5
  go_wp2_with (first | (go_at_call 10; with_reducible refine Ans.use H0 _ fun n0 => ?_) | (go_at_call 11; with_reducible refine Ans.use H1 _ fun n1 => ?_) | (go_at_call 16; with_reducible refine Ans.use H2 _ fun n2 => ?_) | (go_at_call 16; with_reducible refine Ans.use H3 _ fun n3 => ?_) | (go_at_call 16; with_reducible refine Ans.use H4 _ fun n4 => ?_) | (go_at_call 11; with_reducible refine Ans.use H5 _ fun n5 => ?_) | (go_at_call 11; with_reducible refine Ans.use H6 _ fun n6 => ?_) | (go_at_call 11; with_reducible refine Ans.use H7 _ fun n7 => ?_) | (go_at_call 11; with_reducible refine Ans.use H8 _ fun n8 => ?_) | (go_at_call 16; with_reducible refine Ans.use H9 _ fun n9 => ?_) | (go_at_call 16; with_reducible refine Ans.use H10 _ fun n10 => ?_) | (go_at_call 16; with_reducible refine Ans.use H11 _ fun n11 => ?_) | (go_at_call 16; with_reducible refine Ans.use H12 _ fun n12 => ?_) | (go_at_call 13; with_reducible refine Ans.use H13 _ fun n13 => ?_) | (go_at_call 11; with_reducible refine Ans.use H14 _ fun n14 => ?_) | (go_at_call 16; with_reducible refine Ans.use H15 _ fun n15 => ?_))
  try dsimp only [List.append]
  go_quiet ((first | (go_at_call 10; with_reducible exact Ans.quiet H0) | (go_at_call 11; with_reducible exact Ans.quiet H1) | (go_at_call 16; with_reducible exact Ans.quiet H2) | (go_at_call 16; with_reducible exact Ans.quiet H3) | (go_at_call 16; with_reducible exact Ans.quiet H4) | (go_at_call 11; with_reducible exact Ans.quiet H5) | (go_at_call 11; with_reducible exact Ans.quiet H6) | (go_at_call 11; with_reducible exact Ans.quiet H7) | (go_at_call 11; with_reducible exact Ans.quiet H8) | (go_at_call 16; with_reducible exact Ans.quiet H9) | (go_at_call 16; with_reducible exact Ans.quiet H10) | (go_at_call 16; with_reducible exact Ans.quiet H11) | (go_at_call 16; with_reducible exact Ans.quiet H12) | (go_at_call 13; with_reducible exact Ans.quiet H13) | (go_at_call 11; with_reducible exact Ans.quiet H14) | (go_at_call 16; with_reducible exact Ans.quiet H15)))
  go_wp2_with (first | (go_at_call 10; with_reducible refine Ans.use H0 _ fun n0 => ?_) | (go_at_call 11; with_reducible refine Ans.use H1 _ fun n1 => ?_) | (go_at_call 16; with_reducible refine Ans.use H2 _ fun n2 => ?_) | (go_at_call 16; with_reducible refine Ans.use H3 _ fun n3 => ?_) | (go_at_call 16; with_reducible refine Ans.use H4 _ fun n4 => ?_) | (go_at_call 11; with_reducible refine Ans.use H5 _ fun n5 => ?_) | (go_at_call 11; with_reducible refine Ans.use H6 _ fun n6 => ?_) | (go_at_call 11; with_reducible refine Ans.use H7 _ fun n7 => ?_) | (go_at_call 11; with_reducible refine Ans.use H8 _ fun n8 => ?_) | (go_at_call 16; with_reducible refine Ans.use H9 _ fun n9 => ?_) | (go_at_call 16; with_reducible refine Ans.use H10 _ fun n10 => ?_) | (go_at_call 16; with_reducible refine Ans.use H11 _ fun n11 => ?_) | (go_at_call 16; with_reducible refine Ans.use H12 _ fun n12 => ?_) | (go_at_call 13; with_reducible refine Ans.use H13 _ fun n13 => ?_) | (go_at_call 11; with_reducible refine Ans.use H14 _ fun n14 => ?_) | (go_at_call 16; with_reducible refine Ans.use H15 _ fun n15 => ?_))
  go_ret
  exact ⟨rfl, _, World.drewN_drewN _ _ _⟩

theorem ring_any (a b c m : Nat) (ha : a < 18446744073709551616) (hb : b < 18446744073709551616) (hc : c < 18446744073709551616) (hm : m < 18446744073709551616) : Ans 5 #[.int .u64 a, .int .u64 b, .int .u64 c, .int .u64 m] (.bool true) := by
  by_cases h0 : m = 0
  · subst h0; exact ring0 a b c alive_any
  · have hp : 0 < m := by omega
    have A := fun x y hx hy => add_nat x y m hx hy hm hp
    have P := fun x y hx hy => mul_nat x y m hx hy hm hp
    have r : ∀ x, x % m < 18446744073709551616 := fun x => by have := Nat.mod_lt x hp; omega
    refine ring1 a b c m ((b + c) % m : Nat) (a * ((b + c) % m) % m : Nat) (a * b % m : Nat) (a * c % m : Nat) ((a + b) % m : Nat) (((a + b) % m + c) % m : Nat) (a * b % m * c % m : Nat) (b * c % m : Nat) (negN a m : Nat) (a % m : Nat)
      (nz h0) (by omega) (by omega) (by omega) (by omega) (by simp) alive_any (A b c hb hc) (P a _ ha (r _)) (P a b ha hb) (P a c ha hc) (ans_int (A _ _ (r _) (r _)) ?_) (A a b ha hb) (A _ c (r _) hc) (ans_int (A a _ ha (r _)) ?_) (P _ c (r _) hc) (P b c hb hc) (ans_int (P a _ ha (r _)) ?_) (ans_int (P b a hb ha) ?_) (neg_nat a m ha hm hp) (ans_int (A a _ ha (by have := negN_lt a m hp; omega)) ?_) (ans_int (P a 1 ha (by omega)) ?_)
    · congr 1
      rw [Nat.mul_mod_mod, Nat.mul_add, ← Nat.add_mod]
    · congr 1
      rw [Nat.add_mod_mod, Nat.mod_add_mod, Nat.add_assoc]
    · congr 1
      rw [Nat.mul_mod_mod, Nat.mod_mul_mod, Nat.mul_assoc]
    · rw [Nat.mul_comm]
    · rw [negN_add a m hp]; rfl
    · rw [Nat.mul_one]

set_option maxHeartbeats 1000000 in
theorem powers0 (a e f : Int) 
    (H0 : Ans 10 #[] (.bool true)) :
    Ans 6 #[.int .u64 a, .int .u64 e, .int .u64 f, .int .u64 0] (.bool true) := by
  intro w
  go_enter Try.func6, Try.ntmps6
  go_wp2_with (first | (go_at_call 10; with_reducible refine Ans.use H0 _ fun n0 => ?_))
  go_ret
  exact ⟨rfl, _, rfl⟩

set_option maxHeartbeats 1000000 in
theorem powersE (a e f m : Int) (hm : (m == 0) = false) (he : 2147483648 ≤ e)
    (H0 : Ans 10 #[] (.bool true)) :
    Ans 6 #[.int .u64 a, .int .u64 e, .int .u64 f, .int .u64 m] (.bool true) := by
  intro w
  go_enter Try.func6, Try.ntmps6
  go_wp2_with (first | (go_at_call 10; with_reducible refine Ans.use H0 _ fun n0 => ?_))
  go_ret
  exact ⟨rfl, _, rfl⟩

set_option maxHeartbeats 1000000 in
theorem powersF (a e f m : Int) (hm : (m == 0) = false) (he : ¬ 2147483648 ≤ e) (hf : 2147483648 ≤ f)
    (H0 : Ans 10 #[] (.bool true)) :
    Ans 6 #[.int .u64 a, .int .u64 e, .int .u64 f, .int .u64 m] (.bool true) := by
  intro w
  go_enter Try.func6, Try.ntmps6
  go_wp2_with (first | (go_at_call 10; with_reducible refine Ans.use H0 _ fun n0 => ?_))
  go_ret
  exact ⟨rfl, _, rfl⟩

set_option maxHeartbeats 1000000 in
theorem powers1 (a e f m p x y z v : Int) (hm : (m == 0) = false) (he : ¬ 2147483648 ≤ e) (hf : ¬ 2147483648 ≤ f) (he0 : 0 ≤ e) (hf0 : 0 ≤ f) (hp : IntKind.u64.wrap (e * f) = p)
    (H0 : Ans 10 #[] (.bool true))
    (H1 : Ans 17 #[.int .u64 a, .int .u64 (e + f), .int .u64 m] (.int .u64 x))
    (H2 : Ans 17 #[.int .u64 a, .int .u64 e, .int .u64 m] (.int .u64 y))
    (H3 : Ans 17 #[.int .u64 a, .int .u64 f, .int .u64 m] (.int .u64 z))
    (H4 : Ans 16 #[.int .u64 y, .int .u64 z, .int .u64 m] (.int .u64 x))
    (H5 : Ans 17 #[.int .u64 a, .int .u64 p, .int .u64 m] (.int .u64 v))
    (H6 : Ans 17 #[.int .u64 y, .int .u64 f, .int .u64 m] (.int .u64 v)) :
    Ans 6 #[.int .u64 a, .int .u64 e, .int .u64 f, .int .u64 m] (.bool true) := by
  intro w
  go_enter Try.func6, Try.ntmps6
  go_wp2_with (first | (go_at_call 10; with_reducible refine Ans.use H0 _ fun n0 => ?_) | (go_at_call 17; with_reducible refine Ans.use H1 _ fun n1 => ?_) | (go_at_call 17; with_reducible refine Ans.use H2 _ fun n2 => ?_) | (go_at_call 17; with_reducible refine Ans.use H3 _ fun n3 => ?_) | (go_at_call 16; with_reducible refine Ans.use H4 _ fun n4 => ?_) | (go_at_call 17; with_reducible refine Ans.use H5 _ fun n5 => ?_) | (go_at_call 17; with_reducible refine Ans.use H6 _ fun n6 => ?_))
  go_ret
  exact ⟨rfl, _, rfl⟩

theorem powers_any (a e f m : Nat) (ha : a < 18446744073709551616) (_he : e < 18446744073709551616) (_hf : f < 18446744073709551616) (hm : m < 18446744073709551616) : Ans 6 #[.int .u64 a, .int .u64 e, .int .u64 f, .int .u64 m] (.bool true) := by
  by_cases h0 : m = 0
  · subst h0; exact powers0 a e f alive_any
  by_cases h1 : 2147483648 ≤ e
  · exact powersE a e f m (nz h0) (by omega) alive_any
  by_cases h2 : 2147483648 ≤ f
  · exact powersF a e f m (nz h0) (by omega) (by omega) alive_any
  have hp : 0 < m := by omega
  have r : ∀ x, x % m < 18446744073709551616 := fun x => by have := Nat.mod_lt x hp; omega
  have P := fun x y hx hy => pow_any x y m hx hy hm hp
  have hef : e * f ≤ 2147483647 * 2147483647 := Nat.mul_le_mul (by omega) (by omega)
  refine powers1 a e f m ((e * f : Nat) : Int) ((a ^ (e + f) % m : Nat) : Int) ((a ^ e % m : Nat) : Int) ((a ^ f % m : Nat) : Int) ((a ^ (e * f) % m : Nat) : Int) (nz h0) (by omega) (by omega) (by omega) (by omega) ?_ alive_any
    ?_ (P a e ha (by omega)) (P a f ha (by omega)) (ans_int (mul_nat _ _ m (r _) (r _) hm hp) ?_) (P a _ ha (by omega)) (ans_int (P _ f (r _) (by omega)) ?_)
  · rw [IntKind.wrap_u64, ← Int.natCast_mul]; omega
  · rw [← Int.natCast_add]; exact P a (e + f) ha (by omega)
  · rw [← Nat.mul_mod, Nat.pow_add]
  · rw [← Nat.pow_mod, Nat.pow_mul]

set_option maxHeartbeats 1000000 in
theorem inverts0 (a m : Int) (hm : m < 2)
    (H0 : Ans 10 #[] (.bool true))
    (H1 : Ans 20 #[.int .u64 a, .int .u64 m] (.tuple #[.int .u64 0, .bool false])) :
    Ans 7 #[.int .u64 a, .int .u64 m] (.bool true) := by
  intro w
  go_enter Try.func7, Try.ntmps7
  go_wp2_with (first | (go_at_call 10; with_reducible refine Ans.use H0 _ fun n0 => ?_) | (go_at_call 20; with_reducible refine Ans.use H1 _ fun n1 => ?_))
  go_ret
  exact ⟨rfl, _, rfl⟩

set_option maxHeartbeats 1000000 in
theorem inverts1 (a m g : Int) (hm : ¬ m < 2) (hg : (g == 1) = false) (hg' : ¬ g = 1)
    (H0 : Ans 10 #[] (.bool true))
    (H1 : Ans 20 #[.int .u64 a, .int .u64 m] (.tuple #[.int .u64 0, .bool false]))
    (H2 : Ans 21 #[.int .u64 a, .int .u64 m] (.int .u64 g))
    (H3 : Ans 22 #[.int .u64 a, .int .u64 m] (.bool false)) :
    Ans 7 #[.int .u64 a, .int .u64 m] (.bool true) := by
  intro w
  go_enter Try.func7, Try.ntmps7
  go_wp2_with (first | (go_at_call 10; with_reducible refine Ans.use H0 _ fun n0 => ?_) | (go_at_call 20; with_reducible refine Ans.use H1 _ fun n1 => ?_) | (go_at_call 21; with_reducible refine Ans.use H2 _ fun n2 => ?_) | (go_at_call 22; with_reducible refine Ans.use H3 _ fun n3 => ?_))
  go_ret
  exact ⟨rfl, _, rfl⟩

set_option maxHeartbeats 1000000 in
theorem inverts2 (a m x : Int) (hm : ¬ m < 2) (hx : x < m)
    (H0 : Ans 10 #[] (.bool true))
    (H1 : Ans 20 #[.int .u64 a, .int .u64 m] (.tuple #[.int .u64 x, .bool true]))
    (H2 : Ans 21 #[.int .u64 a, .int .u64 m] (.int .u64 1))
    (H3 : Ans 18 #[.int .u64 a, .int .u64 x, .int .u64 m] (.int .u64 1))
    (H4 : Ans 22 #[.int .u64 a, .int .u64 m] (.bool true)) :
    Ans 7 #[.int .u64 a, .int .u64 m] (.bool true) := by
  intro w
  go_enter Try.func7, Try.ntmps7
  go_wp2_with (first | (go_at_call 10; with_reducible refine Ans.use H0 _ fun n0 => ?_) | (go_at_call 20; with_reducible refine Ans.use H1 _ fun n1 => ?_) | (go_at_call 21; with_reducible refine Ans.use H2 _ fun n2 => ?_) | (go_at_call 18; with_reducible refine Ans.use H3 _ fun n3 => ?_) | (go_at_call 22; with_reducible refine Ans.use H4 _ fun n4 => ?_))
  go_ret
  exact ⟨rfl, _, rfl⟩

theorem inverts_any (a m : Nat) (ha : a < 18446744073709551616) (hm : m < 18446744073709551616) : Ans 7 #[.int .u64 a, .int .u64 m] (.bool true) := by
  by_cases h2 : m < 2
  · exact inverts0 a m (by omega) alive_any (inv_small a m (by omega) (by omega))
  have hp : 0 < m := by omega
  by_cases hg : Nat.gcd a m = 1
  · obtain ⟨x, hx, h, HI⟩ := inv_yes a m ha hm (by omega) hg
    refine inverts2 a m x (by omega) (by omega) alive_any HI (ans_int (rgcd_any m a ha hm) (by rw [hg]; rfl)) (ans_int (rmul_any a x m ha (by omega) hm hp) (by rw [h]; rfl)) ((coprime_any a m ha hm).to (by simp [hg]))
  · exact inverts1 a m _ (by omega) (by simp; omega) (by omega) alive_any (inv_no a m ha hm (by omega) hg) (rgcd_any m a ha hm) ((coprime_any a m ha hm).to (by simp [hg]))

set_option maxHeartbeats 1000000 in
theorem gcd0 (d : Int) 
    (H0 : Ans 10 #[] (.bool true))
    (H1 : Ans 23 #[.int .u64 0, .int .u64 0] (.int .u64 0))
    (H2 : Ans 21 #[.int .u64 0, .int .u64 0] (.int .u64 0)) :
    Ans 8 #[.int .u64 0, .int .u64 0, .int .u64 d] (.bool true) := by
  intro w
  go_enter Try.func8, Try.ntmps8
  go_wp2_with (first | (go_at_call 10; with_reducible refine Ans.use H0 _ fun n0 => ?_) | (go_at_call 23; with_reducible refine Ans.use H1 _ fun n1 => ?_) | (go_at_call 21; with_reducible refine Ans.use H2 _ fun n2 => ?_))
  go_ret
  exact ⟨rfl, _, rfl⟩

set_option maxHeartbeats 1000000 in
theorem gcdD0 (a b g : Int) (hg : (g == 0) = false) (hg0 : 0 < g) (ha0 : 0 ≤ a) (ha : a < 18446744073709551616) (hb0 : 0 ≤ b) (hb : b < 18446744073709551616) (hg1 : g < 18446744073709551616) (ea : a % g = 0) (eb : b % g = 0)
    (H0 : Ans 10 #[] (.bool true))
    (H1 : Ans 23 #[.int .u64 a, .int .u64 b] (.int .u64 g))
    (H2 : Ans 21 #[.int .u64 a, .int .u64 b] (.int .u64 g))
    (H3 : Ans 23 #[.int .u64 b, .int .u64 a] (.int .u64 g)) :
    Ans 8 #[.int .u64 a, .int .u64 b, .int .u64 0] (.bool true) := by
  intro w
  go_enter Try.func8, Try.ntmps8
  go_wp2_with (first | (go_at_call 10; with_reducible refine Ans.use H0 _ fun n0 => ?_) | (go_at_call 23; with_reducible refine Ans.use H1 _ fun n1 => ?_) | (go_at_call 21; with_reducible refine Ans.use H2 _ fun n2 => ?_) | (go_at_call 23; with_reducible refine Ans.use H3 _ fun n3 => ?_))
  go_ret
  exact ⟨rfl, _, rfl⟩

set_option maxHeartbeats 1000000 in
theorem gcdA (a b d g x : Int) (hg : (g == 0) = false) (hg0 : 0 < g) (ha0 : 0 ≤ a) (ha : a < 18446744073709551616) (hb0 : 0 ≤ b) (hb : b < 18446744073709551616) (hg1 : g < 18446744073709551616) (ea : a % g = 0) (eb : b % g = 0) (hd : (d == 0) = false) (hd0 : 0 < d) (hd1 : d < 18446744073709551616) (ra : a % d = x) (hx : (x == 0) = false) (hx' : ¬ x = 0)
    (H0 : Ans 10 #[] (.bool true))
    (H1 : Ans 23 #[.int .u64 a, .int .u64 b] (.int .u64 g))
    (H2 : Ans 21 #[.int .u64 a, .int .u64 b] (.int .u64 g))
    (H3 : Ans 23 #[.int .u64 b, .int .u64 a] (.int .u64 g)) :
    Ans 8 #[.int .u64 a, .int .u64 b, .int .u64 d] (.bool true) := by
  intro w
  go_enter Try.func8, Try.ntmps8
  go_wp2_with (first | (go_at_call 10; with_reducible refine Ans.use H0 _ fun n0 => ?_) | (go_at_call 23; with_reducible refine Ans.use H1 _ fun n1 => ?_) | (go_at_call 21; with_reducible refine Ans.use H2 _ fun n2 => ?_) | (go_at_call 23; with_reducible refine Ans.use H3 _ fun n3 => ?_))
  go_ret
  exact ⟨rfl, _, rfl⟩

set_option maxHeartbeats 1000000 in
theorem gcdB (a b d g y : Int) (hg : (g == 0) = false) (hg0 : 0 < g) (ha0 : 0 ≤ a) (ha : a < 18446744073709551616) (hb0 : 0 ≤ b) (hb : b < 18446744073709551616) (hg1 : g < 18446744073709551616) (ea : a % g = 0) (eb : b % g = 0) (hd : (d == 0) = false) (hd0 : 0 < d) (hd1 : d < 18446744073709551616) (ra : a % d = 0) (rb : b % d = y) (hy : (y == 0) = false) (hy' : ¬ y = 0)
    (H0 : Ans 10 #[] (.bool true))
    (H1 : Ans 23 #[.int .u64 a, .int .u64 b] (.int .u64 g))
    (H2 : Ans 21 #[.int .u64 a, .int .u64 b] (.int .u64 g))
    (H3 : Ans 23 #[.int .u64 b, .int .u64 a] (.int .u64 g)) :
    Ans 8 #[.int .u64 a, .int .u64 b, .int .u64 d] (.bool true) := by
  intro w
  go_enter Try.func8, Try.ntmps8
  go_wp2_with (first | (go_at_call 10; with_reducible refine Ans.use H0 _ fun n0 => ?_) | (go_at_call 23; with_reducible refine Ans.use H1 _ fun n1 => ?_) | (go_at_call 21; with_reducible refine Ans.use H2 _ fun n2 => ?_) | (go_at_call 23; with_reducible refine Ans.use H3 _ fun n3 => ?_))
  go_ret
  exact ⟨rfl, _, rfl⟩

set_option maxHeartbeats 1000000 in
theorem gcdC (a b d g : Int) (hg : (g == 0) = false) (hg0 : 0 < g) (ha0 : 0 ≤ a) (ha : a < 18446744073709551616) (hb0 : 0 ≤ b) (hb : b < 18446744073709551616) (hg1 : g < 18446744073709551616) (ea : a % g = 0) (eb : b % g = 0) (hd : (d == 0) = false) (hd0 : 0 < d) (hd1 : d < 18446744073709551616) (ra : a % d = 0) (rb : b % d = 0) (rg : g % d = 0)
    (H0 : Ans 10 #[] (.bool true))
    (H1 : Ans 23 #[.int .u64 a, .int .u64 b] (.int .u64 g))
    (H2 : Ans 21 #[.int .u64 a, .int .u64 b] (.int .u64 g))
    (H3 : Ans 23 #[.int .u64 b, .int .u64 a] (.int .u64 g)) :
    Ans 8 #[.int .u64 a, .int .u64 b, .int .u64 d] (.bool true) := by
  intro w
  go_enter Try.func8, Try.ntmps8
  go_wp2_with (first | (go_at_call 10; with_reducible refine Ans.use H0 _ fun n0 => ?_) | (go_at_call 23; with_reducible refine Ans.use H1 _ fun n1 => ?_) | (go_at_call 21; with_reducible refine Ans.use H2 _ fun n2 => ?_) | (go_at_call 23; with_reducible refine Ans.use H3 _ fun n3 => ?_))
  go_ret
  exact ⟨rfl, _, rfl⟩

theorem gcds_any (a b d : Nat) (ha : a < 18446744073709551616) (hb : b < 18446744073709551616) (hd : d < 18446744073709551616) : Ans 8 #[.int .u64 a, .int .u64 b, .int .u64 d] (.bool true) := by
  have H1 := gcd_any a b ha hb
  have H2 := rgcd_any b a ha hb
  have H3 := gcd_any b a hb ha
  rw [Nat.gcd_comm b a] at H3
  have da := Nat.gcd_dvd_left a b
  have db := Nat.gcd_dvd_right a b
  by_cases h0 : Nat.gcd a b = 0
  · obtain ⟨rfl, rfl⟩ := Nat.gcd_eq_zero_iff.mp h0
    exact gcd0 d alive_any H1 H2
  have dd : ∀ d : Nat, a % d = 0 → b % d = 0 → Nat.gcd a b % d = 0 := fun d h1 h2 => Nat.mod_eq_zero_of_dvd (Nat.dvd_gcd (Nat.dvd_of_mod_eq_zero h1) (Nat.dvd_of_mod_eq_zero h2))
  have hl : Nat.gcd a b < 18446744073709551616 := by
    by_cases e : a = 0
    · subst e; rw [Nat.gcd_zero_left]; exact hb
    · exact Nat.lt_of_le_of_lt (Nat.gcd_le_left b (by omega)) ha
  have ea := Nat.mod_eq_zero_of_dvd da
  have eb := Nat.mod_eq_zero_of_dvd db
  have dd := dd d
  generalize Nat.gcd a b = g at *
  have ea' : (a : Int) % g = 0 := by exact_mod_cast ea
  have eb' : (b : Int) % g = 0 := by exact_mod_cast eb
  by_cases hd0 : d = 0
  · subst hd0
    exact gcdD0 a b g (nz h0) (by omega) (by omega) (by omega) (by omega) (by omega) (by omega) ea' eb' alive_any H1 H2 H3
  have ra : (a : Int) % d = ((a % d : Nat) : Int) := by simp
  have rb : (b : Int) % d = ((b % d : Nat) : Int) := by simp
  have rg : (g : Int) % d = ((g % d : Nat) : Int) := by simp
  by_cases h1 : a % d = 0
  · by_cases h2 : b % d = 0
    · exact gcdC a b d g (nz h0) (by omega) (by omega) (by omega) (by omega) (by omega) (by omega) ea' eb' (nz hd0) (by omega) (by omega) (by rw [ra, h1]; rfl) (by rw [rb, h2]; rfl) (by rw [rg, dd h1 h2]; rfl) alive_any H1 H2 H3
    · exact gcdB a b d g _ (nz h0) (by omega) (by omega) (by omega) (by omega) (by omega) (by omega) ea' eb' (nz hd0) (by omega) (by omega) (by rw [ra, h1]; rfl) rb (nz h2) (by omega) alive_any H1 H2 H3
  · exact gcdA a b d g _ (nz h0) (by omega) (by omega) (by omega) (by omega) (by omega) (by omega) ea' eb' (nz hd0) (by omega) (by omega) ra (nz h1) (by omega) alive_any H1 H2 H3

set_option maxHeartbeats 1000000 in
theorem joinsA (r s b o : Int) 
    (H0 : Ans 10 #[] (.bool true))
    (H1 : Ans 24 #[.int .u64 r, .int .u64 0, .int .u64 s, .int .u64 b] (.tuple #[.int .u64 0, .bool false])) :
    Ans 9 #[.int .u64 r, .int .u64 0, .int .u64 s, .int .u64 b, .int .u64 o] (.bool true) := by
  intro w
  go_enter Try.func9, Try.ntmps9
  go_wp2_with (first | (go_at_call 10; with_reducible refine Ans.use H0 _ fun n0 => ?_) | (go_at_call 24; with_reducible refine Ans.use H1 _ fun n1 => ?_))
  go_ret
  exact ⟨rfl, _, rfl⟩

set_option maxHeartbeats 1000000 in
theorem joinsB (r a s o : Int) (ha : (a == 0) = false)
    (H0 : Ans 10 #[] (.bool true))
    (H1 : Ans 24 #[.int .u64 r, .int .u64 a, .int .u64 s, .int .u64 0] (.tuple #[.int .u64 0, .bool false])) :
    Ans 9 #[.int .u64 r, .int .u64 a, .int .u64 s, .int .u64 0, .int .u64 o] (.bool true) := by
  intro w
  go_enter Try.func9, Try.ntmps9
  go_wp2_with (first | (go_at_call 10; with_reducible refine Ans.use H0 _ fun n0 => ?_) | (go_at_call 24; with_reducible refine Ans.use H1 _ fun n1 => ?_))
  go_ret
  exact ⟨rfl, _, rfl⟩

set_option maxHeartbeats 1000000 in
theorem joinsC (r a s b o g : Int) (ha : (a == 0) = false) (hb : (b == 0) = false) (hb0 : 0 < b) (hb1 : b < 18446744073709551616) (hg : (g == 1) = false) (hg' : ¬ g = 1)
    (H0 : Ans 10 #[] (.bool true))
    (H1 : Ans 24 #[.int .u64 r, .int .u64 a, .int .u64 s, .int .u64 b] (.tuple #[.int .u64 0, .bool false]))
    (H2 : Ans 21 #[.int .u64 a, .int .u64 b] (.int .u64 g)) :
    Ans 9 #[.int .u64 r, .int .u64 a, .int .u64 s, .int .u64 b, .int .u64 o] (.bool true) := by
  intro w
  go_enter Try.func9, Try.ntmps9
  go_wp2_with (first | (go_at_call 10; with_reducible refine Ans.use H0 _ fun n0 => ?_) | (go_at_call 24; with_reducible refine Ans.use H1 _ fun n1 => ?_) | (go_at_call 21; with_reducible refine Ans.use H2 _ fun n2 => ?_))
  go_ret
  exact ⟨rfl, _, rfl⟩

set_option maxHeartbeats 1000000 in
theorem joinsD (r a s b o q : Int) (ha : (a == 0) = false) (hb : (b == 0) = false) (hb0 : 0 < b) (hb1 : b < 18446744073709551616) (hq : (18446744073709551615 : Int) / b = q) (hgt : q < a) (hgt' : decide (q < a) = true)
    (H0 : Ans 10 #[] (.bool true))
    (H1 : Ans 24 #[.int .u64 r, .int .u64 a, .int .u64 s, .int .u64 b] (.tuple #[.int .u64 0, .bool false]))
    (H2 : Ans 21 #[.int .u64 a, .int .u64 b] (.int .u64 1)) :
    Ans 9 #[.int .u64 r, .int .u64 a, .int .u64 s, .int .u64 b, .int .u64 o] (.bool true) := by
  intro w
  go_enter Try.func9, Try.ntmps9
  go_wp2_with (first | (go_at_call 10; with_reducible refine Ans.use H0 _ fun n0 => ?_) | (go_at_call 24; with_reducible refine Ans.use H1 _ fun n1 => ?_) | (go_at_call 21; with_reducible refine Ans.use H2 _ fun n2 => ?_))
  go_ret
  exact ⟨rfl, _, rfl⟩

set_option maxHeartbeats 1000000 in
theorem joinsE (r a s b o q x p u v : Int) (ha : (a == 0) = false) (hb : (b == 0) = false) (hb0 : 0 < b) (hb1 : b < 18446744073709551616) (hq : (18446744073709551615 : Int) / b = q) (hgt : ¬ q < a) (hgt' : decide (q < a) = false) (ha0 : 0 < a) (hr0 : 0 ≤ r) (hr1 : r < 18446744073709551616) (hs0 : 0 ≤ s) (hs1 : s < 18446744073709551616) (hx0 : 0 ≤ x) (hx1 : x < 18446744073709551616) (ha1 : a < 18446744073709551616) (hp : IntKind.u64.wrap (a * b) = p) (hxp : ¬ p ≤ x) (hxp' : decide (p ≤ x) = false) (ea : r % a = u) (eb : s % b = v) (xa : x % a = u) (xb : x % b = v) (ho : p ≤ o) (ho' : decide (p ≤ o) = true)
    (H0 : Ans 10 #[] (.bool true))
    (H1 : Ans 24 #[.int .u64 r, .int .u64 a, .int .u64 s, .int .u64 b] (.tuple #[.int .u64 x, .bool true]))
    (H2 : Ans 21 #[.int .u64 a, .int .u64 b] (.int .u64 1)) :
    Ans 9 #[.int .u64 r, .int .u64 a, .int .u64 s, .int .u64 b, .int .u64 o] (.bool true) := by
  intro w
  go_enter Try.func9, Try.ntmps9
  go_wp2_with (first | (go_at_call 10; with_reducible refine Ans.use H0 _ fun n0 => ?_) | (go_at_call 24; with_reducible refine Ans.use H1 _ fun n1 => ?_) | (go_at_call 21; with_reducible refine Ans.use H2 _ fun n2 => ?_))
  try dsimp only [List.append]
  go_quiet ((first | (go_at_call 10; with_reducible exact Ans.quiet H0) | (go_at_call 24; with_reducible exact Ans.quiet H1) | (go_at_call 21; with_reducible exact Ans.quiet H2)))
  go_wp2_with (first | (go_at_call 10; with_reducible refine Ans.use H0 _ fun n0 => ?_) | (go_at_call 24; with_reducible refine Ans.use H1 _ fun n1 => ?_) | (go_at_call 21; with_reducible refine Ans.use H2 _ fun n2 => ?_))
  try dsimp only [List.append]
  go_quiet ((first | (go_at_call 10; with_reducible exact Ans.quiet H0) | (go_at_call 24; with_reducible exact Ans.quiet H1) | (go_at_call 21; with_reducible exact Ans.quiet H2)))
  go_wp2_with (first | (go_at_call 10; with_reducible refine Ans.use H0 _ fun n0 => ?_) | (go_at_call 24; with_reducible refine Ans.use H1 _ fun n1 => ?_) | (go_at_call 21; with_reducible refine Ans.use H2 _ fun n2 => ?_))
  go_ret
  exact ⟨rfl, _, by rw [World.drewN_drewN, World.drewN_drewN]⟩

set_option maxHeartbeats 1000000 in
theorem joinsF (r a s b q x p u v : Int) (ha : (a == 0) = false) (hb : (b == 0) = false) (hb0 : 0 < b) (hb1 : b < 18446744073709551616) (hq : (18446744073709551615 : Int) / b = q) (hgt : ¬ q < a) (hgt' : decide (q < a) = false) (ha0 : 0 < a) (hr0 : 0 ≤ r) (hr1 : r < 18446744073709551616) (hs0 : 0 ≤ s) (hs1 : s < 18446744073709551616) (hx0 : 0 ≤ x) (hx1 : x < 18446744073709551616) (ha1 : a < 18446744073709551616) (hp : IntKind.u64.wrap (a * b) = p) (hxp : ¬ p ≤ x) (hxp' : decide (p ≤ x) = false) (ea : r % a = u) (eb : s % b = v) (xa : x % a = u) (xb : x % b = v)
    (H0 : Ans 10 #[] (.bool true))
    (H1 : Ans 24 #[.int .u64 r, .int .u64 a, .int .u64 s, .int .u64 b] (.tuple #[.int .u64 x, .bool true]))
    (H2 : Ans 21 #[.int .u64 a, .int .u64 b] (.int .u64 1)) :
    Ans 9 #[.int .u64 r, .int .u64 a, .int .u64 s, .int .u64 b, .int .u64 x] (.bool true) := by
  intro w
  go_enter Try.func9, Try.ntmps9
  go_wp2_with (first | (go_at_call 10; with_reducible refine Ans.use H0 _ fun n0 => ?_) | (go_at_call 24; with_reducible refine Ans.use H1 _ fun n1 => ?_) | (go_at_call 21; with_reducible refine Ans.use H2 _ fun n2 => ?_))
  try dsimp only [List.append]
  go_quiet ((first | (go_at_call 10; with_reducible exact Ans.quiet H0) | (go_at_call 24; with_reducible exact Ans.quiet H1) | (go_at_call 21; with_reducible exact Ans.quiet H2)))
  go_wp2_with (first | (go_at_call 10; with_reducible refine Ans.use H0 _ fun n0 => ?_) | (go_at_call 24; with_reducible refine Ans.use H1 _ fun n1 => ?_) | (go_at_call 21; with_reducible refine Ans.use H2 _ fun n2 => ?_))
  try dsimp only [List.append]
  go_quiet ((first | (go_at_call 10; with_reducible exact Ans.quiet H0) | (go_at_call 24; with_reducible exact Ans.quiet H1) | (go_at_call 21; with_reducible exact Ans.quiet H2)))
  go_wp2_with (first | (go_at_call 10; with_reducible refine Ans.use H0 _ fun n0 => ?_) | (go_at_call 24; with_reducible refine Ans.use H1 _ fun n1 => ?_) | (go_at_call 21; with_reducible refine Ans.use H2 _ fun n2 => ?_))
  go_ret
  exact ⟨rfl, _, by rw [World.drewN_drewN, World.drewN_drewN]⟩

set_option maxHeartbeats 1000000 in
theorem joinsG (r a s b o q x p u v y : Int) (ha : (a == 0) = false) (hb : (b == 0) = false) (hb0 : 0 < b) (hb1 : b < 18446744073709551616) (hq : (18446744073709551615 : Int) / b = q) (hgt : ¬ q < a) (hgt' : decide (q < a) = false) (ha0 : 0 < a) (hr0 : 0 ≤ r) (hr1 : r < 18446744073709551616) (hs0 : 0 ≤ s) (hs1 : s < 18446744073709551616) (hx0 : 0 ≤ x) (hx1 : x < 18446744073709551616) (ha1 : a < 18446744073709551616) (hp : IntKind.u64.wrap (a * b) = p) (hxp : ¬ p ≤ x) (hxp' : decide (p ≤ x) = false) (ea : r % a = u) (eb : s % b = v) (xa : x % a = u) (xb : x % b = v) (ho : ¬ p ≤ o) (ho' : decide (p ≤ o) = false) (ho0 : 0 ≤ o) (ho1 : o < 18446744073709551616) (hox : (o == x) = false) (oa : o % a = y) (h1 : (y == u) = false) (h1' : (y != u) = true)
    (H0 : Ans 10 #[] (.bool true))
    (H1 : Ans 24 #[.int .u64 r, .int .u64 a, .int .u64 s, .int .u64 b] (.tuple #[.int .u64 x, .bool true]))
    (H2 : Ans 21 #[.int .u64 a, .int .u64 b] (.int .u64 1)) :
    Ans 9 #[.int .u64 r, .int .u64 a, .int .u64 s, .int .u64 b, .int .u64 o] (.bool true) := by
  intro w
  go_enter Try.func9, Try.ntmps9
  go_wp2_with (first | (go_at_call 10; with_reducible refine Ans.use H0 _ fun n0 => ?_) | (go_at_call 24; with_reducible refine Ans.use H1 _ fun n1 => ?_) | (go_at_call 21; with_reducible refine Ans.use H2 _ fun n2 => ?_))
  try dsimp only [List.append]
  go_quiet ((first | (go_at_call 10; with_reducible exact Ans.quiet H0) | (go_at_call 24; with_reducible exact Ans.quiet H1) | (go_at_call 21; with_reducible exact Ans.quiet H2)))
  go_wp2_with (first | (go_at_call 10; with_reducible refine Ans.use H0 _ fun n0 => ?_) | (go_at_call 24; with_reducible refine Ans.use H1 _ fun n1 => ?_) | (go_at_call 21; with_reducible refine Ans.use H2 _ fun n2 => ?_))
  try dsimp only [List.append]
  go_quiet ((first | (go_at_call 10; with_reducible exact Ans.quiet H0) | (go_at_call 24; with_reducible exact Ans.quiet H1) | (go_at_call 21; with_reducible exact Ans.quiet H2)))
  go_wp2_with (first | (go_at_call 10; with_reducible refine Ans.use H0 _ fun n0 => ?_) | (go_at_call 24; with_reducible refine Ans.use H1 _ fun n1 => ?_) | (go_at_call 21; with_reducible refine Ans.use H2 _ fun n2 => ?_))
  go_ret
  exact ⟨rfl, _, by rw [World.drewN_drewN, World.drewN_drewN]⟩

set_option maxHeartbeats 1000000 in
theorem joinsH (r a s b o q x p u v z : Int) (ha : (a == 0) = false) (hb : (b == 0) = false) (hb0 : 0 < b) (hb1 : b < 18446744073709551616) (hq : (18446744073709551615 : Int) / b = q) (hgt : ¬ q < a) (hgt' : decide (q < a) = false) (ha0 : 0 < a) (hr0 : 0 ≤ r) (hr1 : r < 18446744073709551616) (hs0 : 0 ≤ s) (hs1 : s < 18446744073709551616) (hx0 : 0 ≤ x) (hx1 : x < 18446744073709551616) (ha1 : a < 18446744073709551616) (hp : IntKind.u64.wrap (a * b) = p) (hxp : ¬ p ≤ x) (hxp' : decide (p ≤ x) = false) (ea : r % a = u) (eb : s % b = v) (xa : x % a = u) (xb : x % b = v) (ho : ¬ p ≤ o) (ho' : decide (p ≤ o) = false) (ho0 : 0 ≤ o) (ho1 : o < 18446744073709551616) (hox : (o == x) = false) (oa : o % a = u) (ob : o % b = z) (h2 : (z == v) = false) (h2' : (z != v) = true)
    (H0 : Ans 10 #[] (.bool true))
    (H1 : Ans 24 #[.int .u64 r, .int .u64 a, .int .u64 s, .int .u64 b] (.tuple #[.int .u64 x, .bool true]))
    (H2 : Ans 21 #[.int .u64 a, .int .u64 b] (.int .u64 1)) :
    Ans 9 #[.int .u64 r, .int .u64 a, .int .u64 s, .int .u64 b, .int .u64 o] (.bool true) := by
  intro w
  go_enter Try.func9, Try.ntmps9
  go_wp2_with (first | (go_at_call 10; with_reducible refine Ans.use H0 _ fun n0 => ?_) | (go_at_call 24; with_reducible refine Ans.use H1 _ fun n1 => ?_) | (go_at_call 21; with_reducible refine Ans.use H2 _ fun n2 => ?_))
  try dsimp only [List.append]
  go_quiet ((first | (go_at_call 10; with_reducible exact Ans.quiet H0) | (go_at_call 24; with_reducible exact Ans.quiet H1) | (go_at_call 21; with_reducible exact Ans.quiet H2)))
  go_wp2_with (first | (go_at_call 10; with_reducible refine Ans.use H0 _ fun n0 => ?_) | (go_at_call 24; with_reducible refine Ans.use H1 _ fun n1 => ?_) | (go_at_call 21; with_reducible refine Ans.use H2 _ fun n2 => ?_))
  try dsimp only [List.append]
  go_quiet ((first | (go_at_call 10; with_reducible exact Ans.quiet H0) | (go_at_call 24; with_reducible exact Ans.quiet H1) | (go_at_call 21; with_reducible exact Ans.quiet H2)))
  go_wp2_with (first | (go_at_call 10; with_reducible refine Ans.use H0 _ fun n0 => ?_) | (go_at_call 24; with_reducible refine Ans.use H1 _ fun n1 => ?_) | (go_at_call 21; with_reducible refine Ans.use H2 _ fun n2 => ?_))
  go_ret
  exact ⟨rfl, _, by rw [World.drewN_drewN, World.drewN_drewN]⟩

theorem joins_any (r a s b o : Nat) (hr : r < 18446744073709551616) (ha : a < 18446744073709551616) (hs : s < 18446744073709551616) (hb : b < 18446744073709551616) (ho : o < 18446744073709551616) : Ans 9 #[.int .u64 r, .int .u64 a, .int .u64 s, .int .u64 b, .int .u64 o] (.bool true) := by
  by_cases ha0 : a = 0
  · subst ha0; exact joinsA r s b o alive_any (join_no r 0 s b hr ha hs hb (Or.inl rfl))
  by_cases hb0 : b = 0
  · subst hb0; exact joinsB r a s o (nz ha0) alive_any (join_no r a s 0 hr ha hs hb (Or.inr (Or.inl rfl)))
  have G := rgcd_any b a ha hb
  by_cases hg : Nat.gcd a b = 1
  · rw [hg] at G
    have hq : ((18446744073709551615 : Int)) / b = ((18446744073709551615 / b : Nat) : Int) := by simp
    have hd : 18446744073709551615 / b < a ↔ 18446744073709551616 ≤ a * b := by
      rw [Nat.div_lt_iff_lt_mul (by omega)]; omega
    by_cases hab : 18446744073709551616 ≤ a * b
    · exact joinsD r a s b o _ (nz ha0) (nz hb0) (by omega) (by omega) hq (by have := hd.mpr hab; omega) (by have := hd.mpr hab; simp; omega) alive_any (join_no r a s b hr ha hs hb (Or.inr (Or.inr (Or.inr hab)))) G
    · have hlt : ¬ (((18446744073709551615 / b : Nat) : Int) < a) := by
        have : ¬ 18446744073709551615 / b < a := fun h => hab (hd.mp h)
        omega
      obtain ⟨x, hx, h1, h2, HJ⟩ := join_yes r a s b hr ha hs hb (by omega) (by omega) hg (by omega)
      have hp : IntKind.u64.wrap ((a : Int) * b) = ((a * b : Nat) : Int) := by rw [IntKind.wrap_u64, ← Int.natCast_mul]; omega
      have ea : (r : Int) % a = ((r % a : Nat) : Int) := by simp
      have eb : (s : Int) % b = ((s % b : Nat) : Int) := by simp
      have xa : (x : Int) % a = ((r % a : Nat) : Int) := by rw [← h1]; simp
      have xb : (x : Int) % b = ((s % b : Nat) : Int) := by rw [← h2]; simp
      by_cases ho1 : a * b ≤ o
      · exact joinsE r a s b o _ x _ _ _ (nz ha0) (nz hb0) (by omega) (by omega) hq hlt (by simpa using hlt) (by omega) (by omega) (by omega) (by omega) (by omega) (by omega) (by omega) (by omega) hp (by omega) (by simp; omega) ea eb xa xb (by omega) (by simp; omega) alive_any HJ G
      by_cases hox : o = x
      · subst hox
        exact joinsF r a s b _ o _ _ _ (nz ha0) (nz hb0) (by omega) (by omega) hq hlt (by simpa using hlt) (by omega) (by omega) (by omega) (by omega) (by omega) (by omega) (by omega) (by omega) hp (by omega) (by simp; omega) ea eb xa xb alive_any HJ G
      have oa : (o : Int) % a = ((o % a : Nat) : Int) := by simp
      have ob : (o : Int) % b = ((o % b : Nat) : Int) := by simp
      have hox' : ((o : Int) == x) = false := by simp; omega
      by_cases e1 : o % a = r % a
      · by_cases e2 : o % b = s % b
        · exact absurd (Plain.join_one o x a b hg (by omega) hx (by rw [e1, h1]) (by rw [e2, h2])) hox
        · exact joinsH r a s b o _ x _ _ _ _ (nz ha0) (nz hb0) (by omega) (by omega) hq hlt (by simpa using hlt) (by omega) (by omega) (by omega) (by omega) (by omega) (by omega) (by omega) (by omega) hp (by omega) (by simp; omega) ea eb xa xb (by omega) (by simp; omega) (by omega) (by omega) hox' (by rw [oa, e1]) ob (by simp; omega) (by simp; omega) alive_any HJ G
      · exact joinsG r a s b o _ x _ _ _ _ (nz ha0) (nz hb0) (by omega) (by omega) hq hlt (by simpa using hlt) (by omega) (by omega) (by omega) (by omega) (by omega) (by omega) (by omega) (by omega) hp (by omega) (by simp; omega) ea eb xa xb (by omega) (by simp; omega) (by omega) (by omega) hox' oa (by simp; omega) (by simp; omega) alive_any HJ G
  · exact joinsC r a s b o _ (nz ha0) (nz hb0) (by omega) (by omega) (by simp; omega) (by omega) alive_any (join_no r a s b hr ha hs hb (Or.inr (Or.inr (Or.inl hg)))) G
end Go.Proofs.Ytjbhdbbepjokpaa

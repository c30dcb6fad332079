/-
  Layer 3's statements, of all words: each returns true.
-/
import Derived.Test.YthlaedebgiccgaaLaws03
namespace Go.Proofs.Ythlaedebgiccgaa
set_option linter.unusedVariables false
open Go.RowKit

theorem ans_of_W {f : FuncId} {args : Array Value} {v : Value} (h : ∀ w, AnsW w f args v) : Ans f args v := fun w => (h w).use0 fun j => ⟨rfl, j, rfl⟩

/-- What a call answers of a statement: true, and nothing old has turned. -/
def Holds (f : FuncId) (args : Array Value) : Prop := ∀ w, Calls Try.prog f args w fun e w' => e = .returned (.bool true) ∧ Grown w w'
theorem Holds.grown {f : FuncId} {args : Array Value} (h : Holds f args) (w : World) : Calls Try.prog f args w fun e w' => e = .returned (.bool true) ∧ Grown w w' := h w

theorem cast_mod (x m : Nat) : (x : Int) % (m : Int) = ((x % m : Nat) : Int) := by simp
theorem negN_mod (y m : Nat) : negN (y % m) m = negN y m := by unfold negN; rw [Nat.mod_mod]
theorem negN_unique (b r m : Nat) (hr : r < m) (h : (b + r) % m = 0) : r = negN b m := by
  unfold negN
  have hb := Nat.mod_lt b (show 0 < m by omega)
  have h' : (b % m + r) % m = 0 := by rw [Nat.mod_add_mod]; exact h
  by_cases h0 : b % m = 0
  · rw [h0, Nat.zero_add, Nat.mod_eq_of_lt hr] at h'
    rw [h0, h', Nat.sub_zero, Nat.mod_self]
  · have : b % m + r = m := by
      by_cases hl : b % m + r < m
      · rw [Nat.mod_eq_of_lt hl] at h'; omega
      · rw [Nat.mod_eq_sub_mod (by omega), Nat.mod_eq_of_lt (by omega)] at h'; omega
    rw [Nat.mod_eq_of_lt (by omega)]; omega
theorem dn_neg (b m : Nat) (h : m % 2 = 1) (h1 : 1 < m) : dn (negN (up b m) m) m = negN b m := by
  refine negN_unique b _ m (dn_lt _ _ (by omega)) ?_
  have e := dn_add (up b m) (negN (up b m) m) m
  rw [dn_up b m h h1, Nat.mod_add_mod] at e
  rw [← e, ← dn_mod, negN_add _ _ (by omega)]
  unfold dn; rw [Nat.zero_mul, Nat.zero_mod]

theorem returns_any (m a : Nat) (hm : m < 18446744073709551616) (ha : a < 18446744073709551616) : Holds 4 #[.int .u64 m, .int .u64 a] := by
  intro w
  by_cases h : Gd m
  · obtain ⟨h1, h2, h3⟩ := id h
    have l1 := up_lt a m (by omega)
    have l2 := dn_lt a m (by omega)
    have l3 := Nat.mod_lt 18446744073709551616 (show 0 < m by omega)
    exact returns1 m a _ _ _ _ (by omega) (by omega) (by omega) (by omega) (cast_mod a m) (nz (by omega)) alive_any (new_any m h) (good_any m h)
      (fun W b g C => in_any C a ha) (fun W b g C => ansW_int (out_any C _ (by omega)) (by rw [dn_up a m h1 h2]))
      (fun W b g C => out_any C a ha) (fun W b g C => ansW_int (in_any C _ (by omega)) (by rw [up_dn a m h1 h2]))
      (fun W b g C => one_walk W b _ C.c2) (fun W b g C => ansW_int (out_any C _ (by omega)) (by rw [dn_mod, ← Nat.one_mul 18446744073709551616, dn_R 1 m h1 h2, Nat.mod_eq_of_lt h2]; rfl)) w
  · exact returns0 m a alive_any (bad_any m hm h) (new_bad m hm h) w

theorem stands_any (m x y : Nat) (hm : m < 18446744073709551616) (hx : x < 18446744073709551616) (hy : y < 18446744073709551616) : Holds 3 #[.int .u64 m, .int .u64 x, .int .u64 y] := by
  intro w
  by_cases h : Gd m
  · obtain ⟨h1, h2, h3⟩ := id h
    have l1 := Nat.mod_lt x (show 0 < m by omega)
    have l2 := Nat.mod_lt (x * y) (show 0 < m by omega)
    exact stands1 m x y _ _ _ _ _ _ (by omega) (by omega) (nz (by omega)) (by omega) (by omega) (cast_mod x m) alive_any (new_any m h) (good_any m h)
      (fun W b g C => modulus_walk W b _ C.c0) (fun W b g C => one_walk W b _ C.c2) (ans_int (up_any 1 m (by omega) hm (by omega)) (by rw [up_one]))
      (fun W b g C => in_any C x hx) (up_any x m (by omega) hm hx)
      (fun W b g C => out_any C x hx) (ans_int (down_any (x % m) m h l1) (by rw [dn_mod]))
      (fun W b g C => mmul_any C x y hx hy) (rmul_any x y m hx hy hm (by omega)) (ans_int (down_any _ m h l2) (by rw [dn_mod])) w
  · exact stands0 m x y alive_any (bad_any m hm h) (new_bad m hm h) (ans_of_W nil_modulus) (ans_of_W nil_one) (ans_of_W (nil_mul x y)) (ans_of_W (nil_in x)) (ans_of_W (nil_out x)) (ans_of_W (nil_add x y)) (ans_of_W (nil_sub x y)) (ans_of_W (nil_neg x)) (ans_of_W (nil_pow x y)) w

theorem does_any (m a b e : Nat) (hm : m < 18446744073709551616) (ha : a < 18446744073709551616) (hb : b < 18446744073709551616) (he : e < 18446744073709551616) : Holds 5 #[.int .u64 m, .int .u64 a, .int .u64 b, .int .u64 e] := by
  intro w
  by_cases h : Gd m
  · obtain ⟨h1, h2, h3⟩ := id h
    have p : 0 < m := by omega
    have l1 := up_lt a m p
    have l2 := up_lt b m p
    have l3 := dn_lt (up a m * up b m) m p
    have l4 := Nat.mod_lt (up a m + up b m) p
    have l5 := Nat.mod_lt (up a m + negN (up b m) m) p
    have l6 := negN_lt (up a m) m p
    have l7 := up_lt (dn (up a m) m ^ e) m p
    have l8 := negN_lt b m p
    exact does1 m a b e _ _ _ _ _ _ _ _ _ _ _ _ _ (by omega) (by omega) (nz (by omega)) alive_any (new_any m h) (good_any m h)
      (fun W b' g C => in_any C a ha) (fun W b' g C => in_any C b hb)
      (fun W b' g C => mmul_any C _ _ (by omega) (by omega)) (fun W b' g C => ansW_int (out_any C _ (by omega)) (by rw [dn_dn_mul, dn_up a m h1 h2, dn_up b m h1 h2, ← Nat.mul_mod])) (rmul_any a b m ha hb hm p)
      (fun W b' g C => madd_any C _ _ (by omega) (by omega)) (fun W b' g C => ansW_int (out_any C _ (by omega)) (by rw [dn_mod, dn_add, dn_up a m h1 h2, dn_up b m h1 h2, ← Nat.add_mod])) (radd_any a b m ha hb hm p)
      (fun W b' g C => msub_any C _ _ (by omega) (by omega)) (fun W b' g C => ansW_int (out_any C _ (by omega)) (by rw [dn_mod, dn_add, dn_up a m h1 h2, dn_neg b m h1 h2, Nat.mod_add_mod])) (rneg_any b m hb hm p) (radd_any a _ m ha (by omega) hm p)
      (fun W b' g C => mneg_any C _ (by omega)) (fun W b' g C => ansW_int (out_any C _ (by omega)) (by rw [dn_neg a m h1 h2])) (rneg_any a m ha hm p)
      (fun W b' g C => mpow_any C _ e (by omega) he) (fun W b' g C => ansW_int (out_any C _ (by omega)) (by rw [dn_up _ m h1 h2, dn_up a m h1 h2, ← Nat.pow_mod])) (rpow_any a m ha hm p e he) w
  · exact does0 m a b e alive_any (bad_any m hm h) (new_bad m hm h) w

theorem half_holds_any (m a b : Nat) (hm : m < 18446744073709551616) (ha : a < 18446744073709551616) (hb : b < 18446744073709551616) : Holds 6 #[.int .u64 m, .int .u64 a, .int .u64 b] := by
  intro w
  by_cases h : Gd m
  · obtain ⟨h1, h2, h3⟩ := id h
    have p : 0 < m := by omega
    have l1 := up_lt a m p
    have l3 := Nat.mod_lt 18446744073709551616 p
    exact half1 m a b _ _ _ _ _ (by omega) (by omega) (nz (by omega)) (by omega) (by omega) (cast_mod a m) alive_any (new_any m h) (good_any m h)
      (fun W b' g C => in_any C a ha) (fun W b' g C => ansW_int (mmul_any C _ b (by omega) hb) (by rw [dn_mul', dn_up a m h1 h2, Nat.mod_mul_mod])) (rmul_any a b m ha hb hm p)
      (fun W b' g C => one_walk W b' _ C.c2) (fun W b' g C => ansW_int (mmul_any C a _ ha (by omega)) (by rw [← dn_mod, Nat.mul_mod_mod, dn_mod, dn_R a m h1 h2]))
      (fun W b' g C => mmul_any C a b ha hb) (fun W b' g C => ansW_int (mmul_any C b a hb ha) (by rw [Nat.mul_comm])) w
  · exact half0 m a b alive_any (bad_any m hm h) (new_bad m hm h) w

theorem rests_any (m x y : Nat) (hm : m < 18446744073709551616) (hx : x < 18446744073709551616) (hy : y < 18446744073709551616) : Holds 7 #[.int .u64 m, .int .u64 x, .int .u64 y] := by
  intro w
  by_cases h : Gd m
  · obtain ⟨h1, h2, h3⟩ := id h
    have p : 0 < m := by omega
    have l1 := Nat.mod_lt x p
    have l2 := Nat.mod_lt y p
    have k1 : ((dn (x * y) m : Nat) : Int) < m := by have := dn_lt (x * y) m p; omega
    have k2 : ((up x m : Nat) : Int) < m := by have := up_lt x m p; omega
    have k3 : ((dn x m : Nat) : Int) < m := by have := dn_lt x m p; omega
    have k4 : (((x + y) % m : Nat) : Int) < m := by have := Nat.mod_lt (x + y) p; omega
    have k5 : (((x + negN y m) % m : Nat) : Int) < m := by have := Nat.mod_lt (x + negN y m) p; omega
    have k6 : ((negN x m : Nat) : Int) < m := by have := negN_lt x m p; omega
    have k7 : ((up (dn x m ^ y) m : Nat) : Int) < m := by have := up_lt (dn x m ^ y) m p; omega
    exact rests1 m x y _ _ _ _ _ _ _ _ _ (by omega) (by omega) (nz (by omega)) (by omega) (by omega) (by omega) (by omega) (cast_mod x m) (cast_mod y m)
      k1 (by simpa using k1) k2 (by simpa using k2) k3 (by simpa using k3) k4 (by simpa using k4) k5 (by simpa using k5) k6 (by simpa using k6) k7 (by simpa using k7)
      alive_any (new_any m h) (good_any m h)
      (fun W b g C => mmul_any C x y hx hy) (fun W b g C => ansW_int (mmul_any C _ _ (by omega) (by omega)) (by rw [← dn_mod, ← Nat.mul_mod, dn_mod]))
      (fun W b g C => in_any C x hx) (fun W b g C => ansW_int (in_any C _ (by omega)) (by rw [up_mod]))
      (fun W b g C => out_any C x hx) (fun W b g C => ansW_int (out_any C _ (by omega)) (by rw [dn_mod]))
      (fun W b g C => madd_any C x y hx hy) (fun W b g C => ansW_int (madd_any C _ _ (by omega) (by omega)) (by rw [← Nat.add_mod]))
      (fun W b g C => msub_any C x y hx hy) (fun W b g C => ansW_int (msub_any C _ _ (by omega) (by omega)) (by rw [negN_mod, Nat.mod_add_mod]))
      (fun W b g C => mneg_any C x hx) (fun W b g C => ansW_int (mneg_any C _ (by omega)) (by rw [negN_mod]))
      (fun W b g C => mpow_any C x y hx hy) (fun W b g C => ansW_int (mpow_any C _ y (by omega) hy) (by rw [dn_mod])) w
  · exact rests0 m x y alive_any (bad_any m hm h) (new_bad m hm h) w
end Go.Proofs.Ythlaedebgiccgaa

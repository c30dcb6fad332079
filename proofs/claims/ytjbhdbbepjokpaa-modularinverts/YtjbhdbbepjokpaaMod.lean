/-
  Contracts of package modular's sums, opposites, products and powers: the rests that the document names. No condition but that arguments are words.
-/
import Derived.Test.YtjbhdbbepjokpaaDiv2
namespace Go.Proofs.Ytjbhdbbepjokpaa
set_option linter.unusedVariables false
open Go.RowKit

/-- A call that answers so in every world, and leaves memory as it was (the tape may have been drawn from). -/
def Ans (f : FuncId) (args : Array Value) (v : Value) : Prop := ∀ w, Calls Try.prog f args w fun e w' => e = .returned v ∧ ∃ n, w' = w.drewN n

/-- .. used at a call. -/
theorem Ans.use {f : FuncId} {args : Array Value} {v : Value} (h : Ans f args v) (w : World) {R : Ending → World → Prop} (k : ∀ n, R (.returned v) (w.drewN n)) : Calls Try.prog f args w R :=
  (h w).mono fun _ _ ⟨he, n, hw⟩ => by subst he; subst hw; exact k n
/-- .. used at a call inside a region that draws its order. -/
theorem Ans.quiet {f : FuncId} {args : Array Value} {v : Value} (h : Ans f args v) {w : World} {N x : Nat} : Calls Try.prog f args (w.drewN (N + x)) fun e w' => e = .returned v ∧ ∃ n, w' = w.drewN (N + n) :=
  h.use _ fun n => ⟨rfl, x + n, by rw [World.drewN_drewN, Nat.add_assoc]⟩
theorem Ans.quiet0 {f : FuncId} {args : Array Value} {v : Value} (h : Ans f args v) {w : World} {x : Nat} : Calls Try.prog f args (w.drewN x) fun e w' => e = .returned v ∧ ∃ n, w' = w.drewN n :=
  h.use _ fun n => ⟨rfl, x + n, by rw [World.drewN_drewN]⟩
theorem Ans.to {f : FuncId} {args : Array Value} {v v' : Value} (h : Ans f args v) (e : v = v') : Ans f args v' := e ▸ h
theorem ans_int {f : FuncId} {args : Array Value} {a b : Int} (h : Ans f args (.int .u64 a)) (e : a = b) : Ans f args (.int .u64 b) := e ▸ h

theorem wd_nat {x : Int} (h : Wd x) : ∃ n : Nat, x = n ∧ n < 18446744073709551616 := by
  obtain ⟨n, rfl⟩ := Int.eq_ofNat_of_zero_le h.1
  exact ⟨n, rfl, by have := h.2; omega⟩

theorem wd_mod {x m : Int} (hm : Wd m) (h0 : 0 < m) : Wd (x % m) := ⟨Int.emod_nonneg _ (by omega), by have := Int.emod_lt_of_pos x h0; have := hm.2; omega⟩

/-! ### math/bits.Rem64 -/
theorem rem_walk (hi lo y q r : Int) (hy0 : 0 < y) (hy : y < 18446744073709551616) (hh0 : 0 ≤ hi) (hh : hi < 18446744073709551616)
    (HD : Ans 28 #[.int .u64 (hi % y), .int .u64 lo, .int .u64 y] (.tuple #[.int .u64 q, .int .u64 r])) :
    Ans 26 #[.int .u64 hi, .int .u64 lo, .int .u64 y] (.int .u64 r) := by
  intro w
  go_enter Try.func26, Try.ntmps26
  go_wp2_with fail
  refine Ans.use HD _ fun n1 => ?_
  go_wp2
  go_ret
  exact ⟨rfl, _, rfl⟩

theorem rem_any (hi lo y : Int) (hhi : Wd hi) (hlo : Wd lo) (hy : Wd y) (hy0 : 0 < y) :
    Ans 26 #[.int .u64 hi, .int .u64 lo, .int .u64 y] (.int .u64 ((hi * 18446744073709551616 + lo) % y)) := by
  have h := wd_mod (x := hi) hy hy0
  refine ans_int (rem_walk hi lo y _ _ hy0 hy.2 hhi.1 hhi.2 (fun w => div_any (hi % y) lo y hy0 hy.2 (Int.emod_lt_of_pos _ hy0) h.1 hlo.1 hlo.2 w)) ?_
  rw [Int.add_emod, Int.mul_emod, Int.emod_emod_of_dvd _ (Int.dvd_refl y), ← Int.mul_emod, ← Int.add_emod]

/-! ### modular.Add -/
theorem add_zero (a b : Int) : Ans 11 #[.int .u64 a, .int .u64 b, .int .u64 0] (.int .u64 0) := by
  intro w
  go_enter Try.func11, Try.ntmps11
  go_wp2
  go_ret
  exact ⟨rfl, 0, rfl⟩

theorem add_walk (a b m s c r : Int) (hm0 : 0 < m) (hm : m < 18446744073709551616)
    (hs : ∀ w, (callFunc 25 #[.int .u64 a, .int .u64 b, .int .u64 0]).run Try.prog w = .ok (.value (.tuple #[.int .u64 s, .int .u64 c])) w)
    (HD : Ans 26 #[.int .u64 c, .int .u64 s, .int .u64 m] (.int .u64 r)) :
    Ans 11 #[.int .u64 a, .int .u64 b, .int .u64 m] (.int .u64 r) := by
  intro w
  go_enter Try.func11, Try.ntmps11
  go_wp2_with (first | (go_at_call 26; with_reducible refine Ans.use HD _ fun n1 => ?_))
  go_ret
  exact ⟨rfl, _, rfl⟩

/-- A sum's rest. -/
theorem add_any (a b m : Int) (ha : Wd a) (hb : Wd b) (hm : Wd m) (hm0 : 0 < m) : Ans 11 #[.int .u64 a, .int .u64 b, .int .u64 m] (.int .u64 ((a + b) % m)) := by
  obtain ⟨s, k, hs, hk, e, h⟩ := add64 a b 0 ha hb (Or.inl rfl)
  refine ans_int (add_walk a b m s k _ hm0 hm.2 h (rem_any k s m ⟨by omega, by omega⟩ hs hm hm0)) ?_
  rw [show k * 18446744073709551616 + s = a + b by omega]

/-! ### modular.Neg -/
theorem neg_zero (a : Int) : Ans 13 #[.int .u64 a, .int .u64 0] (.int .u64 0) := by
  intro w
  go_enter Try.func13, Try.ntmps13
  go_wp2
  go_ret
  exact ⟨rfl, 0, rfl⟩
theorem neg_walk0 (a m : Int) (ha0 : 0 ≤ a) (ha : a < 18446744073709551616) (hm0 : 0 < m) (hm : m < 18446744073709551616) (h : a % m = 0) : Ans 13 #[.int .u64 a, .int .u64 m] (.int .u64 0) := by
  intro w
  go_enter Try.func13, Try.ntmps13
  go_wp2
  go_ret
  exact ⟨rfl, 0, rfl⟩
theorem neg_walk1 (a m r : Int) (ha0 : 0 ≤ a) (ha : a < 18446744073709551616) (hm0 : 0 < m) (hm : m < 18446744073709551616) (h : a % m = r) (hr : 0 < r) (hr' : r < m) : Ans 13 #[.int .u64 a, .int .u64 m] (.int .u64 (m - r)) := by
  intro w
  have e1 : (m == 0) = false := by simp; omega
  have e2 : (r == 0) = false := by simp; omega
  go_enter Try.func13, Try.ntmps13
  go_wp2
  go_ret
  exact ⟨rfl, 0, rfl⟩
theorem neg_mod (a m : Int) (hm0 : 0 < m) : (-a) % m = if a % m = 0 then 0 else m - a % m := by
  have h1 := Int.emod_nonneg a (show m ≠ 0 by omega)
  have h2 := Int.emod_lt_of_pos a hm0
  have h3 := Int.emod_nonneg (-a) (show m ≠ 0 by omega)
  have h4 := Int.emod_lt_of_pos (-a) hm0
  have e : -a % m = (- (a % m)) % m := by
    have := Int.emod_add_mul_ediv a m
    rw [← Int.emod_emod_of_dvd (-a) (Int.dvd_refl m)]
    conv => lhs; rw [show -a = -(a % m) + m * (-(a / m)) by rw [Int.mul_neg]; omega]
    rw [Int.add_mul_emod_self_left, Int.emod_emod_of_dvd _ (Int.dvd_refl m)]
  rw [e]
  split
  · next h => rw [h]; simp
  · rw [← Int.add_emod_right, Int.emod_eq_of_lt (by omega) (by omega)]; omega

/-- An opposite's rest. -/
theorem neg_any (a m : Int) (ha : Wd a) (hm : Wd m) (hm0 : 0 < m) : Ans 13 #[.int .u64 a, .int .u64 m] (.int .u64 ((-a) % m)) := by
  have h1 := Int.emod_nonneg a (show m ≠ 0 by omega)
  have h2 := Int.emod_lt_of_pos a hm0
  rw [neg_mod a m hm0]
  split
  · next h => exact neg_walk0 a m ha.1 ha.2 hm0 hm.2 h
  · next h => exact neg_walk1 a m _ ha.1 ha.2 hm0 hm.2 rfl (by omega) h2

/-! ### modular.Sub -/
theorem sub_walk (a b m n r : Int) (HN : Ans 13 #[.int .u64 b, .int .u64 m] (.int .u64 n)) (HA : Ans 11 #[.int .u64 a, .int .u64 n, .int .u64 m] (.int .u64 r)) :
    Ans 12 #[.int .u64 a, .int .u64 b, .int .u64 m] (.int .u64 r) := by
  intro w
  go_enter Try.func12, Try.ntmps12
  go_wp2_with (first | (go_at_call 13; with_reducible refine Ans.use HN _ fun n1 => ?_) | (go_at_call 11; with_reducible refine Ans.use HA _ fun n2 => ?_))
  go_ret
  exact ⟨rfl, _, rfl⟩
theorem sub_zero (a b : Int) : Ans 12 #[.int .u64 a, .int .u64 b, .int .u64 0] (.int .u64 0) :=
  sub_walk a b 0 0 0 (neg_zero b) (add_zero a 0)
/-- A difference's rest. -/
theorem sub_any (a b m : Int) (ha : Wd a) (hb : Wd b) (hm : Wd m) (hm0 : 0 < m) : Ans 12 #[.int .u64 a, .int .u64 b, .int .u64 m] (.int .u64 ((a - b) % m)) := by
  refine ans_int (sub_walk a b m _ _ (neg_any b m hb hm hm0) (add_any a _ m ha (wd_mod hm hm0) hm hm0)) ?_
  rw [Int.add_emod_emod, Int.sub_eq_add_neg]

/-! ### modular.Mul -/
theorem mul_zero (a b : Int) : Ans 16 #[.int .u64 a, .int .u64 b, .int .u64 0] (.int .u64 0) := by
  intro w
  go_enter Try.func16, Try.ntmps16
  go_wp2
  go_ret
  exact ⟨rfl, 0, rfl⟩
theorem mul_walk (a b m h l r : Int) (hm0 : 0 < m) (hm : m < 18446744073709551616) (HM : Ans 27 #[.int .u64 a, .int .u64 b] (.tuple #[.int .u64 h, .int .u64 l]))
    (HD : Ans 26 #[.int .u64 h, .int .u64 l, .int .u64 m] (.int .u64 r)) :
    Ans 16 #[.int .u64 a, .int .u64 b, .int .u64 m] (.int .u64 r) := by
  intro w
  go_enter Try.func16, Try.ntmps16
  go_wp2_with (first | (go_at_call 27; with_reducible refine Ans.use HM _ fun n1 => ?_) | (go_at_call 26; with_reducible refine Ans.use HD _ fun n2 => ?_))
  go_ret
  exact ⟨rfl, _, rfl⟩
/-- bits.Mul64: both halves of a product. -/
theorem mul64_any (a b : Int) (ha : Wd a) (hb : Wd b) : ∃ h l : Int, Wd h ∧ Wd l ∧ h * 18446744073709551616 + l = a * b ∧ Ans 27 #[.int .u64 a, .int .u64 b] (.tuple #[.int .u64 h, .int .u64 l]) := by
  obtain ⟨a, rfl, ka⟩ := wd_nat ha
  obtain ⟨b, rfl, kb⟩ := wd_nat hb
  have hp : a * b ≤ 18446744073709551615 * 18446744073709551615 := Nat.mul_le_mul (by omega) (by omega)
  refine ⟨((a * b / 18446744073709551616 : Nat) : Int), ((a * b % 18446744073709551616 : Nat) : Int), ⟨by omega, by omega⟩, ⟨by omega, by omega⟩, ?_, fun w => (Try.bits_Mul64 a b ka kb w).mono fun e w' ⟨he, hw⟩ => ⟨he, 0, hw⟩⟩
  rw [← Int.natCast_mul]
  omega
/-- A product's rest. -/
theorem mul_any (a b m : Int) (ha : Wd a) (hb : Wd b) (hm : Wd m) (hm0 : 0 < m) : Ans 16 #[.int .u64 a, .int .u64 b, .int .u64 m] (.int .u64 (a * b % m)) := by
  obtain ⟨h, l, hh, hl, e, t⟩ := mul64_any a b ha hb
  refine ans_int (mul_walk a b m h l _ hm0 hm.2 t (rem_any h l m hh hl hm hm0)) ?_
  rw [e]
end Go.Proofs.Ytjbhdbbepjokpaa

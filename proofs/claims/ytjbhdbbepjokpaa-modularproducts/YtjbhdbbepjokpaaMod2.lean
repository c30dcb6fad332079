/-
  Contracts of package modular's powers and greatest common divisors.
-/
import Derived.Test.YtjbhdbbepjokpaaMod
namespace Go.Proofs.Ytjbhdbbepjokpaa
set_option linter.unusedVariables false
open Go.RowKit

theorem ret_int {k : IntKind} {a b : Int} (h : a = b) : Ending.returned (.int k a) = .returned (.int k b) := by rw [h]

theorem mul_nat (a b m : Nat) (ha : a < 18446744073709551616) (hb : b < 18446744073709551616) (hm : m < 18446744073709551616) (hm0 : 0 < m) :
    Ans 16 #[.int .u64 a, .int .u64 b, .int .u64 m] (.int .u64 ((a * b % m : Nat) : Int)) :=
  ans_int (mul_any a b m ⟨by omega, by omega⟩ ⟨by omega, by omega⟩ ⟨by omega, by omega⟩ (by omega)) (by simp)

theorem and_one (x : Int) (h0 : 0 ≤ x) (h1 : x < 18446744073709551616) : bits .and .u64 x 1 = x % 2 := by
  obtain ⟨a, rfl⟩ := Int.eq_ofNat_of_zero_le h0
  have := u64_and_nat a 1 (by omega) (by omega)
  rw [show ((1 : Nat) : Int) = 1 from rfl] at this
  rw [this, show (1 : Nat) = 2 ^ 1 - 1 from rfl, Nat.and_two_pow_sub_one_eq_mod]
  omega

theorem pow_step_odd (p x e m : Nat) (h : e % 2 = 1) : (p * x % m) * (x * x % m) ^ (e / 2) % m = p * x ^ e % m := by
  conv => rhs; rw [show e = 2 * (e / 2) + 1 by omega]
  rw [Nat.pow_succ, Nat.pow_mul, Nat.pow_two, Nat.mul_mod, Nat.mod_mod, ← Nat.pow_mod, ← Nat.mul_mod, Nat.mul_assoc, Nat.mul_comm x]
theorem pow_step_even (p x e m : Nat) (h : ¬ e % 2 = 1) : p * (x * x % m) ^ (e / 2) % m = p * x ^ e % m := by
  conv => rhs; rw [show e = 2 * (e / 2) by omega]
  rw [Nat.pow_mul, Nat.pow_two, Nat.mul_mod, ← Nat.pow_mod, ← Nat.mul_mod]

theorem pow_zero (a e : Int) : Ans 17 #[.int .u64 a, .int .u64 e, .int .u64 0] (.int .u64 0) := by
  intro w
  go_enter Try.func17, Try.ntmps17
  go_wp2
  go_ret
  exact ⟨rfl, 0, rfl⟩

set_option maxHeartbeats 1000000 in
/-- A power's rest. -/
theorem pow_any (a e m : Nat) (ha : a < 18446744073709551616) (he : e < 18446744073709551616) (hm : m < 18446744073709551616) (hm0 : 0 < m) :
    Ans 17 #[.int .u64 a, .int .u64 e, .int .u64 m] (.int .u64 ((a ^ e % m : Nat) : Int)) := by
  intro w
  have hm1 : ((m : Int) == 0) = false := by simp; omega
  go_enter Try.func17, Try.ntmps17
  go_wp2
  go_loopw [0, 1, 7] (fun x y z W => ∃ b f p n : Nat, x = .int .u64 b ∧ y = .int .u64 f ∧ z = .int .u64 p ∧ b < 18446744073709551616 ∧ f < 18446744073709551616 ∧ p < m ∧ Hid (p * b ^ f % m = a ^ e % m) ∧ W = w.drewN n) (fun _ y _ _ => (intOf y).toNat)
  case atStart => exact ⟨a, e, 1 % m, 0, rfl, rfl, by go_num, ha, he, Nat.mod_lt _ hm0, by unfold Hid; rw [Nat.mul_mod, Nat.mod_mod, ← Nat.mul_mod, Nat.one_mul], rfl⟩
  case round =>
    obtain ⟨b, f, p, n, rfl, rfl, rfl, hb, hf, hp, HI, HW⟩ := hrel
    by_cases h0 : 0 < f
    · have ha1 := and_one f (by omega) (by omega)
      by_cases h1 : f % 2 = 1
      · have h2 : ((f : Int) % 2 == 1) = true := by simp; omega
        have HS := pow_step_odd p b f m h1
        obtain ⟨q, hq⟩ : ∃ q, p * b % m = q := ⟨_, rfl⟩
        obtain ⟨c, hc⟩ : ∃ c, b * b % m = c := ⟨_, rfl⟩
        have HM : Ans 16 #[.int .u64 p, .int .u64 b, .int .u64 m] (.int .u64 (q : Int)) := hq ▸ mul_nat p b m (by omega) hb hm hm0
        have HQ : Ans 16 #[.int .u64 b, .int .u64 b, .int .u64 m] (.int .u64 (c : Int)) := hc ▸ mul_nat b b m hb hb hm hm0
        rw [hq, hc] at HS
        replace HS : Hid (q * c ^ (f / 2) % m = a ^ e % m) := HS.trans HI.out
        have hql : q < m := hq ▸ Nat.mod_lt _ hm0
        have hcl : c < m := hc ▸ Nat.mod_lt _ hm0
        clear hq hc
        go_wp2_with (first | (go_at_call 16; with_reducible refine Ans.use HM _ fun n1 => ?_) | (go_at_call 16; with_reducible refine Ans.use HQ _ fun n2 => ?_))
        go_roundw
        case rel => exact ⟨c, f / 2, q, n + n1 + n2, rfl, by go_num, rfl, by omega, by omega, hql, HS, rfl⟩
        case measure => simp [intOf]; omega
      · have h2 : ((f : Int) % 2 == 1) = false := by simp; omega
        have HS := pow_step_even p b f m h1
        obtain ⟨c, hc⟩ : ∃ c, b * b % m = c := ⟨_, rfl⟩
        have HQ : Ans 16 #[.int .u64 b, .int .u64 b, .int .u64 m] (.int .u64 (c : Int)) := hc ▸ mul_nat b b m hb hb hm hm0
        rw [hc] at HS
        replace HS : Hid (p * c ^ (f / 2) % m = a ^ e % m) := HS.trans HI.out
        have hcl : c < m := hc ▸ Nat.mod_lt _ hm0
        clear hc
        go_wp2_with (go_at_call 16; with_reducible refine Ans.use HQ _ fun n2 => ?_)
        go_roundw
        case rel => exact ⟨c, f / 2, p, n + n2, rfl, by go_num, rfl, by omega, by omega, hp, HS, rfl⟩
        case measure => simp [intOf]; omega
    · obtain rfl : f = 0 := by omega
      have HE : Hid (p = a ^ e % m) := by
        have h := HI.out
        rw [Nat.pow_zero, Nat.mul_one, Nat.mod_eq_of_lt hp] at h
        exact h
      clear HI
      go_wp2
      go_ret
      exact ⟨ret_int (by rw [HE.out]), n, rfl⟩

/-- What the document's Gcd is. -/
theorem gcd_step (a b : Nat) : Nat.gcd b (a % b) = Nat.gcd a b := by
  rw [Nat.gcd_comm b, ← Nat.gcd_rec, Nat.gcd_comm]

set_option maxHeartbeats 1000000 in
/-- The greatest number that divides both. -/
theorem gcd_any (a b : Nat) (ha : a < 18446744073709551616) (hb : b < 18446744073709551616) :
    Ans 23 #[.int .u64 a, .int .u64 b] (.int .u64 ((Nat.gcd a b : Nat) : Int)) := by
  intro w
  go_enter Try.func23, Try.ntmps23
  go_wp2
  go_loopw [0, 1] (fun x y W => ∃ c d n : Nat, x = .int .u64 c ∧ y = .int .u64 d ∧ c < 18446744073709551616 ∧ d < 18446744073709551616 ∧ Hid (Nat.gcd c d = Nat.gcd a b) ∧ W = w.drewN n) (fun _ y _ => (intOf y).toNat)
  case atStart => exact ⟨a, b, 0, rfl, rfl, ha, hb, rfl, rfl⟩
  case round =>
    obtain ⟨c, d, n, rfl, rfl, hc, hd, HI, HW⟩ := hrel
    by_cases h0 : 0 < d
    · have h1 : ((d : Int) == 0) = false := by simp; omega
      have hlt := Nat.mod_lt c h0
      go_wp2
      go_region
      go_wp2
      go_roundw
      case rel => exact ⟨d, c % d, n + 1, rfl, by go_num, hd, by omega, (gcd_step c d).trans HI.out, rfl⟩
      case measure => simp [intOf]; omega
    · obtain rfl : d = 0 := by omega
      have HE : Hid (c = Nat.gcd a b) := by
        have h := HI.out
        rw [Nat.gcd_zero_right] at h
        exact h
      clear HI
      go_wp2
      go_ret
      exact ⟨ret_int (by rw [HE.out]), n, rfl⟩

theorem coprime_walk (a b : Int) (g : Int) (HG : Ans 23 #[.int .u64 a, .int .u64 b] (.int .u64 g)) : Ans 22 #[.int .u64 a, .int .u64 b] (.bool (g == 1)) := by
  intro w
  go_enter Try.func22, Try.ntmps22
  go_wp2_with (go_at_call 23; with_reducible refine Ans.use HG _ fun n2 => ?_)
  go_ret
  exact ⟨rfl, _, rfl⟩
theorem coprime_any (a b : Nat) (ha : a < 18446744073709551616) (hb : b < 18446744073709551616) : Ans 22 #[.int .u64 a, .int .u64 b] (.bool (Nat.gcd a b == 1)) := by
  refine (coprime_walk a b _ (gcd_any a b ha hb)).to ?_
  congr 1
  rw [Bool.eq_iff_iff]
  simp
  omega
end Go.Proofs.Ytjbhdbbepjokpaa

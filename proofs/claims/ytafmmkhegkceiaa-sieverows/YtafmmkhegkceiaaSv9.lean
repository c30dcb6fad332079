/-
  Contracts of package modular's Mul and Pow of small numbers (below 2^32), and of what lies under them. No condition but these.
-/
import Derived.Test.YtafmmkhegkceiaaSv8
import Derived.Test.YtafmmkhegkceiaaBMul
namespace Go.Proofs.Ytafmmkhegkceiaa
set_option linter.unusedVariables false
open Go.RowKit

/-- A cell of a block that was there stays. -/
theorem kcell {W w : World} (hb : Below W.heap.size W w) {b o : Nat} {v : Value} (hl : b < W.heap.size) (h : W.cell? ⟨b, o, none⟩ = some v) : w.cell? ⟨b, o, none⟩ = some v := by
  rw [(bcell hb).1 b o hl]; exact h
theorem tcells (w : World) (a b : Value) (t : TypeId) : (w.alloc (.cells #[a, b] t)).cell? ⟨w.heap.size, 0, none⟩ = some a ∧ (w.alloc (.cells #[a, b] t)).cell? ⟨w.heap.size, 1, none⟩ = some b := by
  constructor <;> (rw [World.cell?_alloc_at _ _ _ _ rfl]; rfl)
theorem div_small (lo y d r : Nat) (hy : 0 < y) (hy' : y < 18446744073709551616) (hl : lo < 18446744073709551616) (hd : lo / y = d) (hr : lo % y = r) : Ans 84 #[.int .u64 0, .int .u64 (lo : Int), .int .u64 (y : Int)] (.tuple #[.int .u64 (d : Int), .int .u64 (r : Int)]) := by
  intro w
  have e1 : ((y : Int) == 0) = false := by rw [beq_eq_false_iff_ne]; omega
  have e2 : ¬ (y : Int) = 0 := by omega
  have e3 : Int.tdiv (lo : Int) (y : Int) = (d : Int) := by rw [← Int.ofNat_tdiv, hd]
  have e4 : Int.tmod (lo : Int) (y : Int) = (r : Int) := by rw [← Int.ofNat_tmod, hr]
  have e5 : (lo : Int) / (y : Int) = (d : Int) := by rw [← Int.natCast_ediv, hd]
  have e6 : (lo : Int) % (y : Int) = (r : Int) := by rw [← Int.natCast_emod, hr]
  have hdl : d < 18446744073709551616 := by have := Nat.div_le_self lo y; omega
  have hrl : r < 18446744073709551616 := by have := Nat.mod_lt lo hy; omega
  clear hd hr
  go_enter Try.func84, Try.ntmps84
  go_wp2
  go_region
  go_wp2
  go_ret2
  exact ⟨rfl, 1, rfl⟩
theorem rem_small (lo y d r : Nat) (hy : 0 < y) (hy' : y < 18446744073709551616) (HD : Ans 84 #[.int .u64 0, .int .u64 (lo : Int), .int .u64 (y : Int)] (.tuple #[.int .u64 (d : Int), .int .u64 (r : Int)])) : Ans 72 #[.int .u64 0, .int .u64 (lo : Int), .int .u64 (y : Int)] (.int .u64 (r : Int)) := by
  intro w
  go_enter Try.func72, Try.ntmps72
  go_wp2_with (go_at_call 84; with_reducible refine Ans.use HD _ fun n1 => ?_)
  go_ret
  exact ⟨rfl, _, rfl⟩
theorem mul_walk (a b m l r : Nat) (hm0 : 0 < m) (hm : m < 18446744073709551616) (HM : Ans 71 #[.int .u64 (a : Int), .int .u64 (b : Int)] (.tuple #[.int .u64 0, .int .u64 (l : Int)]))
    (HD : Ans 72 #[.int .u64 0, .int .u64 (l : Int), .int .u64 (m : Int)] (.int .u64 (r : Int))) : Ans 51 #[.int .u64 (a : Int), .int .u64 (b : Int), .int .u64 (m : Int)] (.int .u64 (r : Int)) := by
  intro w
  go_enter Try.func51, Try.ntmps51
  go_wp2_with (first | (go_at_call 71; with_reducible refine Ans.use HM _ fun n1 => ?_) | (go_at_call 72; with_reducible refine Ans.use HD _ fun n2 => ?_))
  go_ret
  exact ⟨rfl, _, rfl⟩
theorem mul_small (a b m : Nat) (ha : a < 4294967296) (hb : b < 4294967296) (hm : m < 4294967296) (hm0 : 0 < m) : Ans 51 #[.int .u64 a, .int .u64 b, .int .u64 m] (.int .u64 ((a * b % m : Nat) : Int)) := by
  have h1 : a * b ≤ 4294967295 * 4294967295 := Nat.mul_le_mul (by omega) (by omega)
  have HM := mul64_nat a b (by omega) (by omega)
  rw [Nat.div_eq_of_lt (show a * b < 18446744073709551616 by omega), Nat.mod_eq_of_lt (show a * b < 18446744073709551616 by omega)] at HM
  exact mul_walk a b m (a * b) _ hm0 (by omega) HM (rem_small (a * b) m _ _ hm0 (by omega) (div_small (a * b) m _ _ hm0 (by omega) (by omega) rfl rfl))
theorem pow_step_odd (p x e m : Nat) (h : e % 2 = 1) : (p * x % m) * (x * x % m) ^ (e / 2) % m = p * x ^ e % m := by
  conv => rhs; rw [show e = 2 * (e / 2) + 1 by omega]
  rw [Nat.pow_succ, Nat.pow_mul, Nat.pow_two, Nat.mul_mod, Nat.mod_mod, ← Nat.pow_mod, ← Nat.mul_mod, Nat.mul_assoc, Nat.mul_comm x]
theorem pow_step_even (p x e m : Nat) (h : ¬ e % 2 = 1) : p * (x * x % m) ^ (e / 2) % m = p * x ^ e % m := by
  conv => rhs; rw [show e = 2 * (e / 2) by omega]
  rw [Nat.pow_mul, Nat.pow_two, Nat.mul_mod, ← Nat.pow_mod, ← Nat.mul_mod]

set_option maxHeartbeats 1000000 in
/-- A power's rest. -/
theorem pow_small (a e m : Nat) (ha : a < 4294967296) (he : e < 18446744073709551616) (hm : m < 4294967296) (hm0 : 0 < m) :
    Ans 40 #[.int .u64 a, .int .u64 e, .int .u64 m] (.int .u64 ((a ^ e % m : Nat) : Int)) := by
  intro w
  have hm1 : ((m : Int) == 0) = false := by simp; omega
  go_enter Try.func40, Try.ntmps40
  go_wp2
  go_loopw [0, 1, 7] (fun x y z W => ∃ b f p n : Nat, x = .int .u64 b ∧ y = .int .u64 f ∧ z = .int .u64 p ∧ b < 4294967296 ∧ f < 18446744073709551616 ∧ p < m ∧ Hid (p * b ^ f % m = a ^ e % m) ∧ W = w.drewN n) (fun _ y _ _ => (intOf y).toNat)
  case atStart => exact ⟨a, e, 1 % m, 0, rfl, rfl, by go_num, ha, he, Nat.mod_lt _ hm0, by unfold Hid; rw [Nat.mul_mod, Nat.mod_mod, ← Nat.mul_mod, Nat.one_mul], rfl⟩
  case round =>
    obtain ⟨b, f, p, n, rfl, rfl, rfl, hb, hf, hp, HI, HW⟩ := hrel
    by_cases h0 : 0 < f
    · have ha1 := and_one f (by omega) (by omega)
      by_cases h1 : f % 2 = 1
      · have h2 : ((f : Int) % 2 == 1) = true := by simp; omega
        have HS := pow_step_odd p b f m h1
        obtain ⟨q, hq⟩ : ∃ q, p * b % m = q := ⟨_, rfl⟩
        obtain ⟨c, hc⟩ : ∃ c, b * b % m = c := ⟨_, rfl⟩
        have HM : Ans 51 #[.int .u64 p, .int .u64 b, .int .u64 m] (.int .u64 (q : Int)) := hq ▸ mul_small p b m (by omega) hb hm hm0
        have HQ : Ans 51 #[.int .u64 b, .int .u64 b, .int .u64 m] (.int .u64 (c : Int)) := hc ▸ mul_small b b m hb hb hm hm0
        rw [hq, hc] at HS
        replace HS : Hid (q * c ^ (f / 2) % m = a ^ e % m) := HS.trans HI.out
        have hql : q < m := hq ▸ Nat.mod_lt _ hm0
        have hcl : c < m := hc ▸ Nat.mod_lt _ hm0
        clear hq hc
        go_wp2_with (first | (go_at_call 51; with_reducible refine Ans.use HM _ fun n1 => ?_) | (go_at_call 51; with_reducible refine Ans.use HQ _ fun n2 => ?_))
        go_roundw
        case rel => exact ⟨c, f / 2, q, n + n1 + n2, rfl, by go_num, rfl, by omega, by omega, hql, HS, rfl⟩
        case measure => simp [intOf]; omega
      · have h2 : ((f : Int) % 2 == 1) = false := by simp; omega
        have HS := pow_step_even p b f m h1
        obtain ⟨c, hc⟩ : ∃ c, b * b % m = c := ⟨_, rfl⟩
        have HQ : Ans 51 #[.int .u64 b, .int .u64 b, .int .u64 m] (.int .u64 (c : Int)) := hc ▸ mul_small b b m hb hb hm hm0
        rw [hc] at HS
        replace HS : Hid (p * c ^ (f / 2) % m = a ^ e % m) := HS.trans HI.out
        have hcl : c < m := hc ▸ Nat.mod_lt _ hm0
        clear hc
        go_wp2_with (go_at_call 51; with_reducible refine Ans.use HQ _ fun n2 => ?_)
        go_roundw
        case rel => exact ⟨c, f / 2, p, n + n2, rfl, by go_num, rfl, by omega, by omega, hp, HS, rfl⟩
        case measure => simp [intOf]; omega
    · obtain rfl : f = 0 := by omega
      have HE : Hid (p = a ^ e % m) := by
        have h := HI.out
        rw [Nat.pow_zero, Nat.mul_one, Nat.mod_eq_of_lt hp] at h
        exact h
      clear HI
      go_wp2
      go_ret
      exact ⟨ret_int (by rw [HE.out]), n, rfl⟩

end Go.Proofs.Ytafmmkhegkceiaa

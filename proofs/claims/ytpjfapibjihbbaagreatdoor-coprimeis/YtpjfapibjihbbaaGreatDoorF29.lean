/-
  Plain mathematics of a prime field: inverses, roots, sums of powers.
-/
import Derived.Test.YtpjfapibjihbbaaGreatDoorF26
import Derived.Test.YtpjfapibjihbbaaGreatDoorF22
import Derived.Test.YtpjfapibjihbbaaGreatDoorF3
namespace Go.Proofs.YtpjfapibjihbbaaGreatDoor
set_option linter.unusedVariables false

theorem mul_mod_cong {p a b c : Nat} (h : a % p = b % p) : a * c % p = b * c % p := by rw [Nat.mul_mod, h, ← Nat.mul_mod]
/-- Two numbers below p that make 1 with the same one. -/
theorem inv_unique {p a u v : Nat} (hu : u < p) (hv : v < p) (h1 : a * u % p = 1) (h2 : a * v % p = 1) : u = v := by
  have e : u * (a * v) % p = v * (a * u) % p := by congr 1; rw [← Nat.mul_assoc, ← Nat.mul_assoc, Nat.mul_comm u a, Nat.mul_comm v a, Nat.mul_assoc, Nat.mul_assoc, Nat.mul_comm u v]
  rw [Nat.mul_mod u, h2, Nat.mul_one, Nat.mod_mod, Nat.mul_mod v, h1, Nat.mul_one, Nat.mod_mod, Nat.mod_eq_of_lt hu, Nat.mod_eq_of_lt hv] at e
  exact e
theorem not_dvd_of {p a : Nat} (h : a % p ≠ 0) : ¬ p ∣ a := fun hd => h (Nat.mod_eq_zero_of_dvd hd)
theorem IsInv.pow {p a v : Nat} (hp : Prm p) (h3 : 3 ≤ p) (h : IsInv a p v) (ha : a % p ≠ 0) : v = a ^ (p - 2) % p := by
  refine inv_unique h.lt (Nat.mod_lt _ (by omega)) (h.yes ha) ?_
  rw [Nat.mul_mod_mod, Nat.mul_comm, ← Nat.pow_succ, Nat.succ_eq_add_one, show p - 2 + 1 = p - 1 by omega]
  exact fermat hp (not_dvd_of ha)
theorem IsInv.ne {p a v : Nat} (hp : Prm p) (h : IsInv a p v) (ha : a % p ≠ 0) : v % p ≠ 0 := fun e => by
  have := h.yes ha
  rw [Nat.mul_mod, e, Nat.mul_zero, Nat.zero_mod] at this
  omega
theorem IsInv.twice {p a v u : Nat} (hp : Prm p) (h : IsInv a p v) (hu : IsInv v p u) (ha : a % p ≠ 0) : u = a % p := by
  have h2 := hp.1
  refine inv_unique hu.lt (Nat.mod_lt _ (by omega)) (hu.yes (h.ne hp ha)) ?_
  rw [Nat.mul_mod_mod, Nat.mul_comm]
  exact h.yes ha
theorem IsInv.back {p a b v : Nat} (h2 : 2 ≤ p) (h : IsInv b p v) (hb : b % p ≠ 0) : (a * b % p) * v % p = a % p := by
  rw [Nat.mod_mul_mod, Nat.mul_assoc, Nat.mul_mod, h.yes hb, Nat.mul_one, Nat.mod_mod]
theorem mul_ne {p a b : Nat} (hp : Prm p) (ha : a % p ≠ 0) (hb : b % p ≠ 0) : a * b % p ≠ 0 := fun e => by
  rcases hp.prod a b e with h | h
  · exact ha h
  · exact hb h
theorem mul_zero_of {p a b : Nat} (h : a % p = 0 ∨ b % p = 0) : a * b % p = 0 := by
  rcases h with h | h
  · rw [Nat.mul_mod, h, Nat.zero_mul, Nat.zero_mod]
  · rw [Nat.mul_mod, h, Nat.mul_zero, Nat.zero_mod]
/-- Fermat, of all numbers. -/
theorem fermat_all {p : Nat} (hp : Prm p) (a : Nat) : a ^ p % p = a % p := by
  have h2 := hp.1
  by_cases h : a % p = 0
  · rw [Nat.pow_mod, h, Nat.zero_pow (by omega), Nat.zero_mod]
  · rw [show p = (p - 1) + 1 by omega, Nat.pow_succ, show p - 1 + 1 = p by omega, Nat.mul_mod, fermat hp (not_dvd_of h), Nat.one_mul, Nat.mod_mod]
theorem frob {p : Nat} (hp : Prm p) (a b : Nat) : ((a + b) % p) ^ p % p = (a % p + b % p) % p := by
  rw [← Nat.pow_mod, fermat_all hp, Nat.add_mod]
/-- The order of a root. -/
theorem root_order {p g : Nat} {l : List (Nat × Nat)} (hl : Luc p g l) (n k : Nat) (h1 : 1 ≤ n) (h : (p - 1) % n = 0) : (g ^ ((p - 1) / n) % p) ^ k % p = 1 ↔ k % n = 0 := by
  have h3 := hl.prime.1
  rw [← Nat.pow_mod, ← Nat.pow_mul, hl.order_iff]
  obtain ⟨c, hc⟩ := Nat.dvd_of_mod_eq_zero h
  have hc1 : 1 ≤ p - 1 := by omega
  rw [hc, Nat.mul_div_cancel_left _ (by omega)]
  have hc0 : 0 < c := Nat.pos_of_ne_zero fun e => by subst e; omega
  refine ⟨fun e => ?_, fun e => ?_⟩
  · obtain ⟨d, hd⟩ := Nat.dvd_of_mod_eq_zero e
    have : c * k = c * (n * d) := by rw [hd]; rw [Nat.mul_comm n c, Nat.mul_assoc]
    have := Nat.eq_of_mul_eq_mul_left hc0 this
    rw [this]; exact Nat.mul_mod_right _ _
  · obtain ⟨d, hd⟩ := Nat.dvd_of_mod_eq_zero e
    rw [hd, ← Nat.mul_assoc, Nat.mul_comm c n]; exact Nat.mul_mod_right _ _
theorem root_lt {p g n : Nat} (hp : 0 < p) : g ^ ((p - 1) / n) % p < p := Nat.mod_lt _ hp
theorem tree_pow {p g : Nat} (n m : Nat) (hn : 1 ≤ n) (hm : 1 ≤ m) (h : (p - 1) % (n * m) = 0) : (g ^ ((p - 1) / (n * m)) % p) ^ n % p = g ^ ((p - 1) / m) % p ∧ (p - 1) % m = 0 := by
  obtain ⟨c, hc⟩ := Nat.dvd_of_mod_eq_zero h
  have hnm : 0 < n * m := Nat.mul_pos hn hm
  constructor
  · rw [← Nat.pow_mod, ← Nat.pow_mul, hc, Nat.mul_div_cancel_left _ hnm, Nat.mul_comm n m, Nat.mul_assoc, Nat.mul_div_cancel_left _ (by omega), Nat.mul_comm c n]
  · rw [hc, Nat.mul_comm n m, Nat.mul_assoc]; exact Nat.mul_mod_right _ _
theorem half_root {p g : Nat} {l : List (Nat × Nat)} (hl : Luc p g l) (hodd : p % 2 = 1) (h3 : 3 ≤ p) : g ^ (p - 1) % p = 1 ∧ g ^ ((p - 1) / 2) % p = p - 1 := by
  have hp := hl.prime
  refine ⟨(hl.order_iff (p - 1)).2 (Nat.mod_self _), ?_⟩
  have hne : g ^ ((p - 1) / 2) % p ≠ 1 := fun e => by
    have := (hl.order_iff _).1 e
    rw [Nat.mod_eq_of_lt (by omega)] at this
    omega
  have hsq : (g ^ ((p - 1) / 2)) * (g ^ ((p - 1) / 2)) % p = 1 := by
    rw [← Nat.pow_add, show (p - 1) / 2 + (p - 1) / 2 = p - 1 by omega]
    exact (hl.order_iff (p - 1)).2 (Nat.mod_self _)
  rcases hp.self_inv _ hsq with h | h
  · exact absurd h hne
  · exact h
/-- The sum of the powers 0 to n - 1. -/
def geo (s p : Nat) : Nat → Nat
  | 0 => 0
  | n + 1 => (geo s p n + s ^ n % p) % p
theorem geo_lt (s p n : Nat) (hp : 0 < p) : geo s p n < p := by cases n with
  | zero => exact hp
  | succ n => exact Nat.mod_lt _ hp
theorem geo_one (s p : Nat) (h : s % p = 1 % p) : ∀ n, geo s p n = n % p
  | 0 => by rw [geo, Nat.zero_mod]
  | n + 1 => by
    rw [geo, geo_one s p h n, Nat.pow_mod, h, ← Nat.pow_mod, Nat.one_pow, ← Nat.add_mod]
theorem geo_mul (s p : Nat) : ∀ n, (s * geo s p n + 1) % p = (geo s p n + s ^ n) % p
  | 0 => by rw [geo, Nat.mul_zero, Nat.pow_zero]
  | n + 1 => by
    have ih := geo_mul s p n
    rw [geo]
    rw [show (s * ((geo s p n + s ^ n % p) % p) + 1) % p = (s * (geo s p n + s ^ n) + 1) % p by
      rw [Nat.add_mod_mod, ← Nat.mod_add_mod, Nat.mul_mod_mod, Nat.mod_add_mod]]
    rw [Nat.mul_add, show s * geo s p n + s * s ^ n + 1 = s * geo s p n + 1 + s * s ^ n by omega, Nat.add_mod, ih, ← Nat.add_mod, Nat.pow_succ, Nat.mul_comm s]
    rw [Nat.add_mod_mod, Nat.mod_add_mod]
/-- Powers of what isn't 1, but whose n-th power is: their sum is 0. -/
theorem geo_zero {p s n : Nat} (hp : Prm p) (h1 : s ^ n % p = 1) (hs : s % p ≠ 1) : geo s p n = 0 := by
  have h2 := hp.1
  have e := geo_mul s p n
  have hlt := geo_lt s p n (by omega)
  have hG : geo s p n % p = geo s p n := Nat.mod_eq_of_lt hlt
  -- s G = G modulo p
  have e2 : s * geo s p n % p = 1 * geo s p n % p := by
    have e3 : (s * geo s p n + 1) % p = (geo s p n + 1) % p := by rw [e, Nat.add_mod, h1, Nat.add_mod (geo s p n) 1, Nat.mod_eq_of_lt (show 1 < p by omega)]
    have e4 : (s * geo s p n + 1 + (p - 1)) % p = (geo s p n + 1 + (p - 1)) % p := by rw [Nat.add_mod, e3, ← Nat.add_mod]
    rw [show s * geo s p n + 1 + (p - 1) = s * geo s p n + p by omega, show geo s p n + 1 + (p - 1) = geo s p n + p by omega, Nat.add_mod_right, Nat.add_mod_right] at e4
    rw [Nat.one_mul]; exact e4
  refine Classical.byContradiction fun hne => ?_
  have hnd : ¬ p ∣ geo s p n := fun h => by have := Nat.le_of_dvd (by omega) h; omega
  rw [Nat.mul_comm s, Nat.mul_comm 1] at e2
  have := cancel_mod hp hnd e2
  rw [Nat.mod_eq_of_lt (show 1 < p by omega)] at this
  exact hs this
end Go.Proofs.YtpjfapibjihbbaaGreatDoor
/-
  The document's Neg and Up (layers 2 and 3: as in Doc02 and Doc03), and layer 6's Root and Inv.
-/
namespace Go.Proofs.YtpjfapibjihbbaaGreatDoor
set_option linter.unusedVariables false
open Go.RowKit

/-! ### Layer 6's Inv and Root -/
theorem rinv_walk (a p v : Int) (p0 : 2 ≤ p) (p1 : p < 18446744073709551616) (HP : Ans 47 #[.int .u64 a, .int .u64 (p - 2), .int .u64 p] (.int .u64 v)) : Ans 30 #[.int .u64 a, .int .u64 p] (.int .u64 v) := by
  intro w
  go_enter Tryz.func30, Tryz.ntmps30
  go_wp2_with (go_at_call 47; with_reducible refine Ans.use HP _ fun n1 => ?_)
  go_ret
  exact ⟨rfl, _, rfl⟩
theorem rinv_any (a p : Nat) (ha : a < 18446744073709551616) (h2 : 2 ≤ p) (hp : p < 18446744073709551616) : Ans 30 #[.int .u64 a, .int .u64 p] (.int .u64 ((a ^ (p - 2) % p : Nat) : Int)) := by
  have HP := rpow_any a p ha hp (by omega) (p - 2) (by omega)
  rw [show ((p - 2 : Nat) : Int) = (p : Int) - 2 by omega] at HP
  exact rinv_walk a p _ (by omega) (by omega) HP
theorem rroot_walk (p g n k v : Int) (p0 : 2 ≤ p) (p1 : p < 18446744073709551616) (n0 : 1 ≤ n) (n1 : n < 9223372036854775808) (nz : (n == 0) = false) (hr : (p - 1) % n = 0) (hk : (p - 1) / n = k) (HP : Ans 47 #[.int .u64 g, .int .u64 k, .int .u64 p] (.int .u64 v)) : Ans 46 #[.int .u64 p, .int .u64 g, .int .i64 n] (.int .u64 v) := by
  intro w
  go_enter Tryz.func46, Tryz.ntmps46
  go_wp2_with (go_at_call 47; with_reducible refine Ans.use HP _ fun n1 => ?_)
  go_ret
  exact ⟨rfl, _, rfl⟩
theorem rroot_any (p g n : Nat) (hg : g < 18446744073709551616) (h2 : 2 ≤ p) (hp : p < 18446744073709551616) (n0 : 1 ≤ n) (n1 : n < 9223372036854775808) (hr : (p - 1) % n = 0) : Ans 46 #[.int .u64 p, .int .u64 g, .int .i64 n] (.int .u64 ((g ^ ((p - 1) / n) % p : Nat) : Int)) := by
  have hk : (p - 1) / n ≤ p - 1 := Nat.div_le_self _ _
  have e : (p : Int) - 1 = ((p - 1 : Nat) : Int) := by omega
  refine rroot_walk p g n (((p - 1) / n : Nat) : Int) _ (by omega) (by omega) (by omega) (by omega) (by simp; omega) ?_ ?_ (rpow_any g p hg hp (by omega) _ (by omega))
  · rw [e]; exact_mod_cast hr
  · rw [e]; rfl
end Go.Proofs.YtpjfapibjihbbaaGreatDoor

/-
  Plain mathematics of a prime field: inverses, roots, sums of powers.
-/
import Derived.Test.YtikmopnadmgilaaGreatB26
import Derived.Test.YtikmopnadmgilaaGreatB22
import Derived.Test.YtikmopnadmgilaaGreatB3
import Derived.Test.YtikmopnadmgilaaGreatB27
namespace Go.Proofs.YtikmopnadmgilaaGreat
set_option linter.unusedVariables false

theorem mul_mod_cong {p a b c : Nat} (h : a % p = b % p) : a * c % p = b * c % p := by rw [Nat.mul_mod, h, ← Nat.mul_mod]
/-- Two numbers below p that make 1 with the same one. -/
theorem inv_unique {p a u v : Nat} (hu : u < p) (hv : v < p) (h1 : a * u % p = 1) (h2 : a * v % p = 1) : u = v := by
  have e : u * (a * v) % p = v * (a * u) % p := by congr 1; rw [← Nat.mul_assoc, ← Nat.mul_assoc, Nat.mul_comm u a, Nat.mul_comm v a, Nat.mul_assoc, Nat.mul_assoc, Nat.mul_comm u v]
  rw [Nat.mul_mod u, h2, Nat.mul_one, Nat.mod_mod, Nat.mul_mod v, h1, Nat.mul_one, Nat.mod_mod, Nat.mod_eq_of_lt hu, Nat.mod_eq_of_lt hv] at e
  exact e
theorem not_dvd_of {p a : Nat} (h : a % p ≠ 0) : ¬ p ∣ a := fun hd => h (Nat.mod_eq_zero_of_dvd hd)
theorem IsInv.pow {p a v : Nat} (hp : Prm p) (h3 : 3 ≤ p) (h : IsInv a p v) (ha : a % p ≠ 0) : v = a ^ (p - 2) % p := by
  refine inv_unique h.lt (Nat.mod_lt _ (by omega)) (h.yes ha) ?_
  rw [Nat.mul_mod_mod, Nat.mul_comm, ← Nat.pow_succ, Nat.succ_eq_add_one, show p - 2 + 1 = p - 1 by omega]
  exact fermat hp (not_dvd_of ha)
theorem IsInv.ne {p a v : Nat} (hp : Prm p) (h : IsInv a p v) (ha : a % p ≠ 0) : v % p ≠ 0 := fun e => by
  have := h.yes ha
  rw [Nat.mul_mod, e, Nat.mul_zero, Nat.zero_mod] at this
  omega
theorem IsInv.twice {p a v u : Nat} (hp : Prm p) (h : IsInv a p v) (hu : IsInv v p u) (ha : a % p ≠ 0) : u = a % p := by
  have h2 := hp.1
  refine inv_unique hu.lt (Nat.mod_lt _ (by omega)) (hu.yes (h.ne hp ha)) ?_
  rw [Nat.mul_mod_mod, Nat.mul_comm]
  exact h.yes ha
theorem IsInv.back {p a b v : Nat} (h2 : 2 ≤ p) (h : IsInv b p v) (hb : b % p ≠ 0) : (a * b % p) * v % p = a % p := by
  rw [Nat.mod_mul_mod, Nat.mul_assoc, Nat.mul_mod, h.yes hb, Nat.mul_one, Nat.mod_mod]
theorem mul_ne {p a b : Nat} (hp : Prm p) (ha : a % p ≠ 0) (hb : b % p ≠ 0) : a * b % p ≠ 0 := fun e => by
  rcases hp.prod a b e with h | h
  · exact ha h
  · exact hb h
theorem mul_zero_of {p a b : Nat} (h : a % p = 0 ∨ b % p = 0) : a * b % p = 0 := by
  rcases h with h | h
  · rw [Nat.mul_mod, h, Nat.zero_mul, Nat.zero_mod]
  · rw [Nat.mul_mod, h, Nat.mul_zero, Nat.zero_mod]
/-- Fermat, of all numbers. -/
theorem fermat_all {p : Nat} (hp : Prm p) (a : Nat) : a ^ p % p = a % p := by
  have h2 := hp.1
  by_cases h : a % p = 0
  · rw [Nat.pow_mod, h, Nat.zero_pow (by omega), Nat.zero_mod]
  · rw [show p = (p - 1) + 1 by omega, Nat.pow_succ, show p - 1 + 1 = p by omega, Nat.mul_mod, fermat hp (not_dvd_of h), Nat.one_mul, Nat.mod_mod]
theorem frob {p : Nat} (hp : Prm p) (a b : Nat) : ((a + b) % p) ^ p % p = (a % p + b % p) % p := by
  rw [← Nat.pow_mod, fermat_all hp, Nat.add_mod]
/-- The order of a root. -/
theorem root_order {p g : Nat} {l : List (Nat × Nat)} (hl : Luc p g l) (n k : Nat) (h1 : 1 ≤ n) (h : (p - 1) % n = 0) : (g ^ ((p - 1) / n) % p) ^ k % p = 1 ↔ k % n = 0 := by
  have h3 := hl.prime.1
  rw [← Nat.pow_mod, ← Nat.pow_mul, hl.order_iff]
  obtain ⟨c, hc⟩ := Nat.dvd_of_mod_eq_zero h
  have hc1 : 1 ≤ p - 1 := by omega
  rw [hc, Nat.mul_div_cancel_left _ (by omega)]
  have hc0 : 0 < c := Nat.pos_of_ne_zero fun e => by subst e; omega
  refine ⟨fun e => ?_, fun e => ?_⟩
  · obtain ⟨d, hd⟩ := Nat.dvd_of_mod_eq_zero e
    have : c * k = c * (n * d) := by rw [hd]; rw [Nat.mul_comm n c, Nat.mul_assoc]
    have := Nat.eq_of_mul_eq_mul_left hc0 this
    rw [this]; exact Nat.mul_mod_right _ _
  · obtain ⟨d, hd⟩ := Nat.dvd_of_mod_eq_zero e
    rw [hd, ← Nat.mul_assoc, Nat.mul_comm c n]; exact Nat.mul_mod_right _ _
theorem root_lt {p g n : Nat} (hp : 0 < p) : g ^ ((p - 1) / n) % p < p := Nat.mod_lt _ hp
theorem tree_pow {p g : Nat} (n m : Nat) (hn : 1 ≤ n) (hm : 1 ≤ m) (h : (p - 1) % (n * m) = 0) : (g ^ ((p - 1) / (n * m)) % p) ^ n % p = g ^ ((p - 1) / m) % p ∧ (p - 1) % m = 0 := by
  obtain ⟨c, hc⟩ := Nat.dvd_of_mod_eq_zero h
  have hnm : 0 < n * m := Nat.mul_pos hn hm
  constructor
  · rw [← Nat.pow_mod, ← Nat.pow_mul, hc, Nat.mul_div_cancel_left _ hnm, Nat.mul_comm n m, Nat.mul_assoc, Nat.mul_div_cancel_left _ (by omega), Nat.mul_comm c n]
  · rw [hc, Nat.mul_comm n m, Nat.mul_assoc]; exact Nat.mul_mod_right _ _
theorem half_root {p g : Nat} {l : List (Nat × Nat)} (hl : Luc p g l) (hodd : p % 2 = 1) (h3 : 3 ≤ p) : g ^ (p - 1) % p = 1 ∧ g ^ ((p - 1) / 2) % p = p - 1 := by
  have hp := hl.prime
  refine ⟨(hl.order_iff (p - 1)).2 (Nat.mod_self _), ?_⟩
  have hne : g ^ ((p - 1) / 2) % p ≠ 1 := fun e => by
    have := (hl.order_iff _).1 e
    rw [Nat.mod_eq_of_lt (by omega)] at this
    omega
  have hsq : (g ^ ((p - 1) / 2)) * (g ^ ((p - 1) / 2)) % p = 1 := by
    rw [← Nat.pow_add, show (p - 1) / 2 + (p - 1) / 2 = p - 1 by omega]
    exact (hl.order_iff (p - 1)).2 (Nat.mod_self _)
  rcases hp.self_inv _ hsq with h | h
  · exact absurd h hne
  · exact h
/-- The sum of the powers 0 to n - 1. -/
def geo (s p : Nat) : Nat → Nat
  | 0 => 0
  | n + 1 => (geo s p n + s ^ n % p) % p
theorem geo_lt (s p n : Nat) (hp : 0 < p) : geo s p n < p := by cases n with
  | zero => exact hp
  | succ n => exact Nat.mod_lt _ hp
theorem geo_one (s p : Nat) (h : s % p = 1 % p) : ∀ n, geo s p n = n % p
  | 0 => by rw [geo, Nat.zero_mod]
  | n + 1 => by
    rw [geo, geo_one s p h n, Nat.pow_mod, h, ← Nat.pow_mod, Nat.one_pow, ← Nat.add_mod]
theorem geo_mul (s p : Nat) : ∀ n, (s * geo s p n + 1) % p = (geo s p n + s ^ n) % p
  | 0 => by rw [geo, Nat.mul_zero, Nat.pow_zero]
  | n + 1 => by
    have ih := geo_mul s p n
    rw [geo]
    rw [show (s * ((geo s p n + s ^ n % p) % p) + 1) % p = (s * (geo s p n + s ^ n) + 1) % p by
      rw [Nat.add_mod_mod, ← Nat.mod_add_mod, Nat.mul_mod_mod, Nat.mod_add_mod]]
    rw [Nat.mul_add, show s * geo s p n + s * s ^ n + 1 = s * geo s p n + 1 + s * s ^ n by omega, Nat.add_mod, ih, ← Nat.add_mod, Nat.pow_succ, Nat.mul_comm s]
    rw [Nat.add_mod_mod, Nat.mod_add_mod]
/-- Powers of what isn't 1, but whose n-th power is: their sum is 0. -/
theorem geo_zero {p s n : Nat} (hp : Prm p) (h1 : s ^ n % p = 1) (hs : s % p ≠ 1) : geo s p n = 0 := by
  have h2 := hp.1
  have e := geo_mul s p n
  have hlt := geo_lt s p n (by omega)
  have hG : geo s p n % p = geo s p n := Nat.mod_eq_of_lt hlt
  -- s G = G modulo p
  have e2 : s * geo s p n % p = 1 * geo s p n % p := by
    have e3 : (s * geo s p n + 1) % p = (geo s p n + 1) % p := by rw [e, Nat.add_mod, h1, Nat.add_mod (geo s p n) 1, Nat.mod_eq_of_lt (show 1 < p by omega)]
    have e4 : (s * geo s p n + 1 + (p - 1)) % p = (geo s p n + 1 + (p - 1)) % p := by rw [Nat.add_mod, e3, ← Nat.add_mod]
    rw [show s * geo s p n + 1 + (p - 1) = s * geo s p n + p by omega, show geo s p n + 1 + (p - 1) = geo s p n + p by omega, Nat.add_mod_right, Nat.add_mod_right] at e4
    rw [Nat.one_mul]; exact e4
  refine Classical.byContradiction fun hne => ?_
  have hnd : ¬ p ∣ geo s p n := fun h => by have := Nat.le_of_dvd (by omega) h; omega
  rw [Nat.mul_comm s, Nat.mul_comm 1] at e2
  have := cancel_mod hp hnd e2
  rw [Nat.mod_eq_of_lt (show 1 < p by omega)] at this
  exact hs this
end Go.Proofs.YtikmopnadmgilaaGreat
/-
  The document's Neg and Up (layers 2 and 3: as in Doc02 and Doc03), and layer 6's Root and Inv.
-/
namespace Go.Proofs.YtikmopnadmgilaaGreat
set_option linter.unusedVariables false
open Go.RowKit

theorem rneg_walk0 (a m : Int) (ha0 : 0 ≤ a) (ha : a < 18446744073709551616) (hm0 : 0 < m) (hm : m < 18446744073709551616) (h : a % m = 0) : Ans 33 #[.int .u64 a, .int .u64 m] (.int .u64 0) := by
  intro w
  have hm1 : (m == 0) = false := by simp; omega
  go_enter Tryz.func33, Tryz.ntmps33
  go_wp2
  go_ret
  exact ⟨rfl, 0, rfl⟩
theorem rneg_walk1 (a m r : Int) (ha0 : 0 ≤ a) (ha : a < 18446744073709551616) (hm0 : 0 < m) (hm : m < 18446744073709551616) (h : a % m = r) (hr : 0 < r) (hr' : r < m) : Ans 33 #[.int .u64 a, .int .u64 m] (.int .u64 (m - r)) := by
  intro w
  have e1 : (m == 0) = false := by simp; omega
  have e2 : (r == 0) = false := by simp; omega
  go_enter Tryz.func33, Tryz.ntmps33
  go_wp2
  go_ret
  exact ⟨rfl, 0, rfl⟩
/-- The document's opposite. -/
theorem rneg_any (a m : Nat) (ha : a < 18446744073709551616) (hm : m < 18446744073709551616) (hm0 : 0 < m) :
    Ans 33 #[.int .u64 a, .int .u64 m] (.int .u64 ((negN a m : Nat) : Int)) := by
  have h1 := Int.emod_nonneg a (show (m : Int) ≠ 0 by omega)
  have h2 := Int.emod_lt_of_pos a (show (0 : Int) < m by omega)
  rw [← negN_cast a m hm0, neg_mod a m (by omega)]
  split
  · next h => exact rneg_walk0 a m (by omega) (by omega) (by omega) (by omega) h
  · next h => exact rneg_walk1 a m _ (by omega) (by omega) (by omega) (by omega) rfl (by omega) h2

set_option maxHeartbeats 1000000 in
/-- Up. -/
theorem up_any (a m : Nat) (hm0 : 0 < m) (hm : m < 18446744073709551616) (ha : a < 18446744073709551616) : Ans 36 #[.int .u64 a, .int .u64 m] (.int .u64 ((up a m : Nat) : Int)) := by
  intro w
  have hm1 : ((m : Int) == 0) = false := by simp; omega
  have hlt := Nat.mod_lt a hm0
  go_enter Tryz.func36, Tryz.ntmps36
  go_wp2
  go_loopw [0, 5] (fun x y W => ∃ c k j : Nat, x = .int .u64 c ∧ y = .int .i64 k ∧ k ≤ 64 ∧ c < m ∧ Hid (c = a * 2 ^ k % m) ∧ W = w.drewN j) (fun _ y _ => 64 - (intOf y).toNat)
  case atStart => exact ⟨a % m, 0, 0, by go_num, rfl, by omega, hlt, by unfold Hid; rw [Nat.pow_zero, Nat.mul_one], rfl⟩
  case round =>
    obtain ⟨c, k, j, rfl, rfl, hk, hc, HI, HW⟩ := hrel
    by_cases hlt : k < 64
    · obtain ⟨d, hd⟩ : ∃ d, (c + c) % m = d := ⟨_, rfl⟩
      have HQ := radd_any c c m (by omega) (by omega) hm hm0
      rw [hd] at HQ
      have hdl : d < m := hd ▸ Nat.mod_lt _ (by omega)
      have HS : Hid (d = a * 2 ^ (k + 1) % m) := by unfold Hid; rw [← hd, HI.out, up_step]
      clear hd HI
      go_wp2_with (go_at_call 32; with_reducible refine Ans.use HQ _ fun n2 => ?_)
      go_roundw
      case rel => exact ⟨d, k + 1, j + n2, rfl, by go_num, by omega, hdl, HS, rfl⟩
      case measure => simp [intOf]; omega
    · obtain rfl : k = 64 := by omega
      have HU : Hid (c = up a m) := by
        unfold Hid up; rw [HI.out, show (2 : Nat) ^ 64 = 18446744073709551616 by decide]
      clear HI
      go_wp2
      go_ret
      exact ⟨ret_int (by rw [HU.out]), j, rfl⟩

/-! ### Layer 6's Inv and Root -/
theorem rinv_walk (a p v : Int) (p0 : 2 ≤ p) (p1 : p < 18446744073709551616) (HP : Ans 35 #[.int .u64 a, .int .u64 (p - 2), .int .u64 p] (.int .u64 v)) : Ans 31 #[.int .u64 a, .int .u64 p] (.int .u64 v) := by
  intro w
  go_enter Tryz.func31, Tryz.ntmps31
  go_wp2_with (go_at_call 35; with_reducible refine Ans.use HP _ fun n1 => ?_)
  go_ret
  exact ⟨rfl, _, rfl⟩
theorem rinv_any (a p : Nat) (ha : a < 18446744073709551616) (h2 : 2 ≤ p) (hp : p < 18446744073709551616) : Ans 31 #[.int .u64 a, .int .u64 p] (.int .u64 ((a ^ (p - 2) % p : Nat) : Int)) := by
  have HP := rpow_any a p ha hp (by omega) (p - 2) (by omega)
  rw [show ((p - 2 : Nat) : Int) = (p : Int) - 2 by omega] at HP
  exact rinv_walk a p _ (by omega) (by omega) HP
theorem rroot_walk (p g n k v : Int) (p0 : 2 ≤ p) (p1 : p < 18446744073709551616) (n0 : 1 ≤ n) (n1 : n < 9223372036854775808) (nz : (n == 0) = false) (hr : (p - 1) % n = 0) (hk : (p - 1) / n = k) (HP : Ans 35 #[.int .u64 g, .int .u64 k, .int .u64 p] (.int .u64 v)) : Ans 37 #[.int .u64 p, .int .u64 g, .int .i64 n] (.int .u64 v) := by
  intro w
  go_enter Tryz.func37, Tryz.ntmps37
  go_wp2_with (go_at_call 35; with_reducible refine Ans.use HP _ fun n1 => ?_)
  go_ret
  exact ⟨rfl, _, rfl⟩
theorem rroot_any (p g n : Nat) (hg : g < 18446744073709551616) (h2 : 2 ≤ p) (hp : p < 18446744073709551616) (n0 : 1 ≤ n) (n1 : n < 9223372036854775808) (hr : (p - 1) % n = 0) : Ans 37 #[.int .u64 p, .int .u64 g, .int .i64 n] (.int .u64 ((g ^ ((p - 1) / n) % p : Nat) : Int)) := by
  have hk : (p - 1) / n ≤ p - 1 := Nat.div_le_self _ _
  have e : (p : Int) - 1 = ((p - 1 : Nat) : Int) := by omega
  refine rroot_walk p g n (((p - 1) / n : Nat) : Int) _ (by omega) (by omega) (by omega) (by omega) (by simp; omega) ?_ ?_ (rpow_any g p hg hp (by omega) _ (by omega))
  · rw [e]; exact_mod_cast hr
  · rw [e]; rfl
end Go.Proofs.YtikmopnadmgilaaGreat
/-
  The statements FieldTree, FieldFermat, FieldInverts, FieldRoots and FieldDoes: true, of all sources and numbers.
-/
namespace Go.Proofs.YtikmopnadmgilaaGreat
set_option linter.unusedVariables false
open Go.RowKit

theorem Fld.num {x : En} (h : Fld x) : 3 ≤ x.p ∧ x.p % 2 = 1 ∧ x.p < 9223372036854775808 := by
  obtain ⟨h1, h2, h3⟩ := h.gd
  exact ⟨by omega, h1, h3⟩
theorem cast_mod (a p : Nat) : (a : Int) % (p : Int) = ((a % p : Nat) : Int) := by simp
theorem cast_ne {a : Nat} (h : a ≠ 0) : ((a : Int) != 0) = true ∧ ((a : Int) == 0) = false := by
  constructor
  · simp; omega
  · simp; omega
theorem cast_z : (((0 : Nat) : Int) != 0) = false ∧ (((0 : Nat) : Int) == 0) = true := ⟨rfl, rfl⟩

theorem tree_any (W : World) (kind z : Int) (hz : z < 9223372036854775808) (q : Nat) (hq : q < 18446744073709551616) (A : Option Addr) (C : Nat) (es : List En) (hE : EntsAt W A C es) (hfs : ∀ x ∈ es, x.fs.length * 16 ≤ 140737488355328) (n : Int) (hn : n < 9223372036854775808) (m : Int) (hm : m < 9223372036854775808) :
    AnsB W 7 #[srcV kind z (q : Int) A es.length C, .int .i64 n, .int .i64 m] (.bool true) := by
  rcases made_any W kind z hz q hq A C es hE hfs with HM | ⟨x, hF, HM⟩
  · exact FieldTree_none W kind z q A _ C n m HM
  · obtain ⟨h3, hodd, hlt⟩ := hF.num
    obtain ⟨l, hl⟩ := hF.luc
    have hg := hF.gl
    by_cases h : n < 1 ∨ m < 1 ∨ 2147483648 ≤ n ∨ 2147483648 ≤ m
    · exact tree_out W kind z q A _ C n m x.p x.g x (by omega) (by omega) (by simp; omega) (by omega) HM
    · obtain ⟨n, rfl⟩ := Int.eq_ofNat_of_zero_le (show 0 ≤ n by omega)
      obtain ⟨m, rfl⟩ := Int.eq_ofNat_of_zero_le (show 0 ≤ m by omega)
      have hnm : n * m < 4611686018427387904 := by
        have := Nat.mul_lt_mul'' (show n < 2147483648 by omega) (show m < 2147483648 by omega)
        omega
      have hw : IntKind.i64.wrap ((n : Int) * (m : Int)) = ((n * m : Nat) : Int) := by
        rw [← Int.natCast_mul, IntKind.wrap_i64]; omega
      have hp1 : 1 ≤ n * m := Nat.mul_pos (by omega) (by omega)
      by_cases hd : (x.p - 1) % (n * m) = 0
      · obtain ⟨e1, e2⟩ := tree_pow (p := x.p) (g := x.g) n m (by omega) (by omega) hd
        have hr := root_lt (p := x.p) (g := x.g) (n := n * m) (by omega)
        exact tree_yes W kind z q A _ C n m _ _ _ x.p x.g x (by omega) (by omega) (by simp; omega) (by omega) (by omega) (by omega) (by omega) hw HM
          (fun W b F => (fDiv_any F _ (by omega)).to (by rw [dvB_nat hp1 hd])) (fun W b F => fRoot_any F (by omega) (n * m) (by omega) hp1 hd) (fun W b F => fRoot_any F (by omega) m (by omega) (by omega) e2)
          (fun W b F => ansW_int (fPow_any F _ n (by omega) (by omega)) (by rw [e1]))
      · exact tree_not W kind z q A _ C n m _ x.p x.g x (by omega) (by omega) (by simp; omega) (by omega) (by omega) (by omega) (by omega) hw HM
          (fun W b F => (fDiv_any F _ (by omega)).to (by unfold dvB; rw [Int.toNat_natCast, decide_eq_false hd, Bool.and_false]))

theorem fermat_any (W : World) (kind z : Int) (hz : z < 9223372036854775808) (q : Nat) (hq : q < 18446744073709551616) (A : Option Addr) (C : Nat) (es : List En) (hE : EntsAt W A C es) (hfs : ∀ x ∈ es, x.fs.length * 16 ≤ 140737488355328) (a b : Nat) (ha : a < 18446744073709551616) (hb : b < 18446744073709551616) :
    AnsB W 9 #[srcV kind z (q : Int) A es.length C, .int .u64 (a : Int), .int .u64 (b : Int)] (.bool true) := by
  rcases made_any W kind z hz q hq A C es hE hfs with HM | ⟨x, hF, HM⟩
  · exact FieldFermat_none W kind z q A _ C a b HM
  · obtain ⟨h3, hodd, hlt⟩ := hF.num
    obtain ⟨l, hl⟩ := hF.luc
    have hg := hF.gl
    have hp := hF.prm
    obtain ⟨g1, g2⟩ := half_root hl hodd h3
    have e1 : (x.p : Int) - 1 = ((x.p - 1 : Nat) : Int) := by omega
    have ra := Nat.mod_lt a (show 0 < x.p by omega)
    have rb := Nat.mod_lt b (show 0 < x.p by omega)
    have rs := Nat.mod_lt (a + b) (show 0 < x.p by omega)
    exact fermat_yes W kind z q A _ C a b ((a % x.p : Nat) : Int) ((b % x.p : Nat) : Int) (((a + b) % x.p : Nat) : Int) (((a % x.p + b % x.p) % x.p : Nat) : Int) (((x.p - 1) / 2 : Nat) : Int) x.p x.g x (by omega) (by omega) (by simp; omega) (by omega) (by omega) (by omega) (by omega) (cast_mod a x.p) (by rw [e1]; rfl) HM
      (fun W fb F => ansW_int (fPow_any F a x.p ha (by omega)) (by rw [fermat_all hp])) (fun W fb F => fAdd_any F a b ha hb) (fun W fb F => ansW_int (fPow_any F _ x.p (by omega) (by omega)) (by rw [frob hp]))
      (fun W fb F => ansW_int (fPow_any F b x.p hb (by omega)) (by rw [fermat_all hp])) (fun W fb F => fAdd_any F _ _ (by omega) (by omega)) (fun W fb F => fG_any F)
      (fun W fb F => by rw [e1]; exact ansW_int (fPow_any F x.g (x.p - 1) (by omega) (by omega)) (by rw [g1]; rfl)) (fun W fb F => ansW_int (fPow_any F x.g _ (by omega) (by omega)) (by rw [g2]; omega))

theorem inverts_any (W : World) (kind z : Int) (hz : z < 9223372036854775808) (q : Nat) (hq : q < 18446744073709551616) (A : Option Addr) (C : Nat) (es : List En) (hE : EntsAt W A C es) (hfs : ∀ x ∈ es, x.fs.length * 16 ≤ 140737488355328) (a b : Nat) (ha : a < 18446744073709551616) (hb : b < 18446744073709551616) :
    AnsB W 5 #[srcV kind z (q : Int) A es.length C, .int .u64 (a : Int), .int .u64 (b : Int)] (.bool true) := by
  rcases made_any W kind z hz q hq A C es hE hfs with HM | ⟨x, hF, HM⟩
  · exact FieldInverts_none W kind z q A _ C a b HM
  · obtain ⟨h3, hodd, hlt⟩ := hF.num
    have hp := hF.prm
    have ra := Nat.mod_lt a (show 0 < x.p by omega)
    obtain ⟨va, ia, HIa⟩ := fInv_any hp hlt a ha
    by_cases h1 : a % x.p = 0
    · refine inverts_a W kind z q A _ C a b ((a % x.p : Nat) : Int) x.p x.g x (by omega) (by omega) (by simp; omega) (by omega) (by omega) (by omega) (by omega) (cast_mod a x.p) (by rw [h1]; rfl) (by rw [h1]; rfl) HM
        (fun W fb F => ansW_int (fMul_any F a b ha hb) (by rw [mul_zero_of (Or.inl h1)]; rfl)) (fun W fb F => ansW_int (HIa W fb F) (by rw [ia.no h1]; rfl))
    · by_cases h2 : b % x.p = 0
      · exact inverts_b W kind z q A _ C a b ((a % x.p : Nat) : Int) ((b % x.p : Nat) : Int) x.p x.g x (by omega) (by omega) (by simp; omega) (by omega) (by omega) (by omega) (by omega) (cast_mod a x.p) (cast_mod b x.p) (cast_ne h1).2 (cast_ne h1).1 (by rw [h2]; rfl) HM
          (fun W fb F => ansW_int (fMul_any F a b ha hb) (by rw [mul_zero_of (Or.inr h2)]; rfl))
      · obtain ⟨vb, ib, HIb⟩ := fInv_any hp hlt b hb
        have la := ia.lt
        have lb := ib.lt
        obtain ⟨vc, ic, HIc⟩ := fInv_any hp hlt va (by omega)
        have lm := Nat.mod_lt (a * b) (show 0 < x.p by omega)
        exact inverts_c W kind z q A _ C a b ((a % x.p : Nat) : Int) ((b % x.p : Nat) : Int) va vb ((a * b % x.p : Nat) : Int) x.p x.g x (by omega) (by omega) (by simp; omega) (by omega) (by omega) (by omega) (by omega) (cast_mod a x.p) (cast_mod b x.p) (cast_ne h1).2 (cast_ne h2).2 (cast_ne (mul_ne hp h1 h2)).1 HM
          HIa (fun W fb F => ansW_int (fMul_any F a va ha (by omega)) (by rw [ia.yes h1]; rfl)) (fun W fb F => fMul_any F a b ha hb) HIb
          (fun W fb F => ansW_int (fMul_any F _ vb (by omega) (by omega)) (by rw [ib.back (by omega) h2])) (fun W fb F => ansW_int (HIc W fb F) (by rw [ia.twice hp ic h1]))

theorem roots_any (W : World) (kind z : Int) (hz : z < 9223372036854775808) (q : Nat) (hq : q < 18446744073709551616) (A : Option Addr) (C : Nat) (es : List En) (hE : EntsAt W A C es) (hfs : ∀ x ∈ es, x.fs.length * 16 ≤ 140737488355328) (n : Int) (hn : n < 9223372036854775808) (k : Nat) (hk : k < 18446744073709551616) :
    AnsB W 6 #[srcV kind z (q : Int) A es.length C, .int .i64 n, .int .u64 (k : Int)] (.bool true) := by
  rcases made_any W kind z hz q hq A C es hE hfs with HM | ⟨x, hF, HM⟩
  · exact FieldRoots_none W kind z q A _ C n k HM
  · obtain ⟨h3, hodd, hlt⟩ := hF.num
    obtain ⟨l, hl⟩ := hF.luc
    have hg := hF.gl
    by_cases h : n < 1
    · have hd : dvB x.p n = false := by unfold dvB; rw [decide_eq_false (by omega), Bool.false_and]
      exact roots_less W kind z q A _ C n k x.p x.g x (by omega) (by omega) (by simp; omega) h HM (fun W b F => fRoot_bad F n hn hd) (fun W b F => (fDiv_any F n hn).to (by rw [hd]))
    · obtain ⟨n, rfl⟩ := Int.eq_ofNat_of_zero_le (show 0 ≤ n by omega)
      have e1 : (x.p : Int) - 1 = ((x.p - 1 : Nat) : Int) := by omega
      by_cases hd : (x.p - 1) % n = 0
      · have hr := root_lt (p := x.p) (g := x.g) (n := n) (by omega)
        have ho := root_order hl n k (by omega) hd
        refine roots_yes W kind z q A _ C n k ((x.g ^ ((x.p - 1) / n) % x.p : Nat) : Int) (((x.g ^ ((x.p - 1) / n) % x.p) ^ k % x.p : Nat) : Int) ((k % n : Nat) : Int) x.p x.g x (by omega) (by omega) (by simp; omega) (by omega) (by omega) (by omega) (by omega) (by simp; omega) (by rw [e1]; exact_mod_cast hd) (cast_mod k n) ?_ HM
          (fun W b F => fRoot_any F (by omega) n (by omega) (by omega) hd) (fun W b F => (fDiv_any F _ hn).to (by rw [dvB_nat (by omega) hd])) (rroot_any x.p x.g n (by omega) (by omega) (by omega) (by omega) (by omega) hd) (fun W b F => fPow_any F _ k (by omega) hk)
        by_cases hc : k % n = 0
        · rw [ho.2 hc, hc]; rfl
        · have := mt ho.1 hc
          generalize (x.g ^ ((x.p - 1) / n) % x.p) ^ k % x.p = t at this ⊢
          rw [(cast_ne hc).2]; simp; omega
      · have hd' : dvB x.p (n : Int) = false := by unfold dvB; rw [Int.toNat_natCast, decide_eq_false hd, Bool.and_false]
        exact roots_not W kind z q A _ C n k (((x.p - 1) % n : Nat) : Int) x.p x.g x (by omega) (by omega) (by simp; omega) (by omega) (by omega) (by simp; omega) (by rw [e1]; rfl) (cast_ne hd).1 HM (fun W b F => fRoot_bad F _ hn hd') (fun W b F => (fDiv_any F _ hn).to (by rw [hd']))

theorem does_any (W : World) (kind z : Int) (hz : z < 9223372036854775808) (q : Nat) (hq : q < 18446744073709551616) (A : Option Addr) (C : Nat) (es : List En) (hE : EntsAt W A C es) (hfs : ∀ x ∈ es, x.fs.length * 16 ≤ 140737488355328) (a b e : Nat) (ha : a < 18446744073709551616) (hb : b < 18446744073709551616) (he : e < 18446744073709551616) :
    AnsB W 4 #[srcV kind z (q : Int) A es.length C, .int .u64 (a : Int), .int .u64 (b : Int), .int .u64 (e : Int)] (.bool true) := by
  rcases made_any W kind z hz q hq A C es hE hfs with HM | ⟨x, hF, HM⟩
  · exact FieldDoes_none W kind z q A _ C a b e HM
  · obtain ⟨h3, hodd, hlt⟩ := hF.num
    have hp := hF.prm
    have nb := negN_lt b x.p (by omega)
    have up1 := up_lt a x.p (by omega)
    obtain ⟨va, ia, HIa⟩ := fInv_any hp hlt a ha
    have la := ia.lt
    have hm : x.p < 18446744073709551616 := by omega
    have h0 : 0 < x.p := by omega
    by_cases h1 : a % x.p = 0
    · exact does_0 W kind z q A _ C a b e ((a % x.p : Nat) : Int) _ _ _ _ _ _ _ x.p x.g x (by omega) (by omega) (by simp; omega) (by omega) (by omega) (by omega) (by omega) (by omega) (by omega) (cast_mod a x.p) (by rw [h1]; rfl) HM
        (fun W fb F => fAdd_any F a b ha hb) (radd_any a b x.p ha hb hm h0) (fun W fb F => fSub_any F a b ha hb) (rneg_any b x.p hb hm h0) (radd_any a _ x.p ha (by omega) hm h0) (fun W fb F => fNeg_any F a ha) (rneg_any a x.p ha hm h0)
        (fun W fb F => fMul_any F a b ha hb) (rmul_any a b x.p ha hb hm h0) (fun W fb F => fPow_any F a e ha he) (rpow_any a x.p ha hm h0 e he) (fun W fb F => ansW_int (HIa W fb F) (by rw [ia.no h1]; rfl)) (fun W fb F => fLift_any F a ha) (up_any a x.p h0 hm ha) (fun W fb F => fTimes_lift F a b ha hb)
    · exact does_1 W kind z q A _ C a b e ((a % x.p : Nat) : Int) _ _ _ _ _ _ va _ x.p x.g x (by omega) (by omega) (by simp; omega) (by omega) (by omega) (by omega) (by omega) (by omega) (by omega) (cast_mod a x.p) (cast_ne h1).1 HM
        (fun W fb F => fAdd_any F a b ha hb) (radd_any a b x.p ha hb hm h0) (fun W fb F => fSub_any F a b ha hb) (rneg_any b x.p hb hm h0) (radd_any a _ x.p ha (by omega) hm h0) (fun W fb F => fNeg_any F a ha) (rneg_any a x.p ha hm h0)
        (fun W fb F => fMul_any F a b ha hb) (rmul_any a b x.p ha hb hm h0) (fun W fb F => fPow_any F a e ha he) (rpow_any a x.p ha hm h0 e he) HIa (fun W fb F => fLift_any F a ha) (up_any a x.p h0 hm ha) (fun W fb F => fTimes_lift F a b ha hb)
        (ans_int (rinv_any a x.p ha (by omega) hm) (by rw [ia.pow hp h3 h1]))
end Go.Proofs.YtikmopnadmgilaaGreat

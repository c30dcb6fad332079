/-
  Plain mathematics of layer 10: powers of a number, tables that have all of them, roots and what makes 1 with them. No condition.
-/
import Derived.Test.YtpjfapibjihbbaaGreatDoorF29
import Derived.Test.YtpjfapibjihbbaaGreatDoorF9
import Derived.Test.YtpjfapibjihbbaaGreatDoorF28
namespace Go.Proofs.YtpjfapibjihbbaaGreatDoor
set_option linter.unusedVariables false

theorem Fld.num {x : En} (h : Fld x) : 3 ≤ x.p ∧ x.p % 2 = 1 ∧ x.p < 9223372036854775808 := by
  obtain ⟨h1, h2, h3⟩ := h.gd
  exact ⟨by omega, h1, h3⟩
theorem pw_next (w p i : Nat) : w * (w ^ i % p) % p = w ^ (i + 1) % p := by rw [Nat.mul_mod_mod, Nat.mul_comm, ← Nat.pow_succ]
theorem pw_next' (w p i : Nat) : (w ^ i % p) * w % p = w ^ (i + 1) % p := by rw [Nat.mod_mul_mod, ← Nat.pow_succ]
/-- The first n powers. -/
def pws (w p n : Nat) : List Nat := (List.range n).map fun i => w ^ i % p
theorem pws_len (w p n : Nat) : (pws w p n).length = n := by simp [pws]
theorem pws_get {w p n i : Nat} (h : i < n) : (pws w p n)[i]? = some (w ^ i % p) := by
  unfold pws; rw [List.getElem?_map, List.getElem?_range h]; rfl
theorem pws_getD {w p n i : Nat} (h : i < n) : (pws w p n).getD i 0 = w ^ i % p := by
  rw [List.getD_eq_getElem?_getD, pws_get h]; rfl
theorem pws_lt {w p n : Nat} (hp : 0 < p) : ∀ x ∈ pws w p n, x < p := fun x hx => by
  obtain ⟨i, _, rfl⟩ := List.mem_map.1 hx
  exact Nat.mod_lt _ hp
theorem pws_succ (w p n : Nat) : pws w p (n + 1) = pws w p n ++ [w ^ n % p] := by unfold pws; rw [List.range_succ]; simp

/-! ### Tables -/
/-- The numbers go round: each is the one before, times the second one; the first is 1, and comes again behind the last. -/
def Goes (p : Nat) (t : List Nat) : Prop := t.getD 0 0 = 1 ∧ ∀ i, i < t.length → t.getD ((i + 1) % t.length) 0 = t.getD (1 % t.length) 0 * t.getD i 0 % p
def HasO (t : List Nat) : Prop := ∀ q ∈ pf t.length, t.getD (t.length / q) 0 ≠ 1
def DocR (p : Nat) (t : List Nat) : Prop := t.getD 0 0 = 1 ∧ (∀ i, i < t.length → t.getD i 0 = (t.getD (1 % t.length) 0) ^ i % p ∧ (0 < i → (t.getD (1 % t.length) 0) ^ i % p ≠ 1)) ∧ (t.getD (1 % t.length) 0) ^ t.length % p = 1
theorem right_iff {p : Nat} (h2 : 2 ≤ p) {t : List Nat} (hn : 1 ≤ t.length) : (Goes p t ∧ HasO t) ↔ DocR p t := by
  have h1p : 1 % p = 1 := Nat.mod_eq_of_lt (by omega)
  obtain ⟨n, en⟩ : ∃ n, t.length = n := ⟨_, rfl⟩
  unfold Goes HasO DocR
  rw [en] at hn ⊢
  obtain ⟨w, ew⟩ : ∃ w, t.getD (1 % n) 0 = w := ⟨_, rfl⟩
  rw [ew]
  constructor
  · rintro ⟨⟨h0, hs⟩, ho⟩
    have hi : ∀ i, i < n → t.getD i 0 = w ^ i % p := by
      intro i
      induction i with
      | zero => intro _; rw [h0, Nat.pow_zero, h1p]
      | succ i ih =>
        intro h
        have := hs i (by omega)
        rw [Nat.mod_eq_of_lt h, ih (by omega), pw_next] at this
        exact this
    have hl : w ^ n % p = 1 := by
      have := hs (n - 1) (by omega)
      rw [show n - 1 + 1 = n by omega, Nat.mod_self, h0, hi (n - 1) (by omega), pw_next, show n - 1 + 1 = n by omega] at this
      exact this.symm
    refine ⟨h0, fun i h => ⟨hi i h, fun hp he => ?_⟩, hl⟩
    have hg := pow_gcd w p i n (by rw [h1p]; exact he) (by rw [h1p]; exact hl)
    have hgi := Nat.le_of_dvd hp (Nat.gcd_dvd_left i n)
    obtain ⟨m, hm⟩ := Nat.gcd_dvd_right i n
    have hg0 : 0 < Nat.gcd i n := Nat.gcd_pos_of_pos_left _ hp
    obtain ⟨d, hd⟩ : ∃ d, Nat.gcd i n = d := ⟨_, rfl⟩
    rw [hd] at hg hgi hm hg0
    have hm2 : 2 ≤ m := by
      rcases Nat.lt_or_ge m 2 with hlt | hge
      · have : m = 0 ∨ m = 1 := by omega
        rcases this with rfl | rfl
        · omega
        · omega
      · exact hge
    obtain ⟨q, hq, r, hr⟩ := has_prime m hm2
    have hq2 := hq.1
    have hnq : n / q = d * r := by
      rw [hm, hr, Nat.mul_left_comm, Nat.mul_div_cancel_left _ (by omega)]
    have hlt : n / q < n := Nat.div_lt_self (by omega) hq2
    refine ho q ((mem_pf hn).2 ⟨hq, d * r, by rw [hm, hr, Nat.mul_left_comm]⟩) ?_
    rw [hi _ hlt, hnq, pow_one_mul w p d r hg, h1p]
  · rintro ⟨h0, hi, hl⟩
    refine ⟨⟨h0, fun i h => ?_⟩, fun q hq => ?_⟩
    · rw [(hi i h).1, pw_next]
      by_cases e : i + 1 = n
      · rw [e, Nat.mod_self, h0, hl]
      · rw [Nat.mod_eq_of_lt (by omega), (hi _ (by omega)).1]
    · obtain ⟨pq, dq⟩ := (mem_pf hn).1 hq
      have hq2 := pq.1
      have hlt : n / q < n := Nat.div_lt_self (by omega) hq2
      have hpos : 0 < n / q := Nat.div_pos (Nat.le_of_dvd (by omega) dq) (by omega)
      rw [(hi _ hlt).1]
      exact (hi _ hlt).2 hpos
/-- A number of order n. -/
def OrdN (w p n : Nat) : Prop := ∀ k, w ^ k % p = 1 ↔ k % n = 0
theorem pws_docR {w p n : Nat} (h2 : 2 ≤ p) (hn : 1 ≤ n) (ho : OrdN w p n) : DocR p (pws w p n) := by
  have h1p : 1 % p = 1 := Nat.mod_eq_of_lt (by omega)
  have hn1 : w ^ n % p = 1 := (ho n).2 (Nat.mod_self _)
  unfold DocR
  rw [pws_len]
  refine ⟨by rw [pws_getD (by omega), Nat.pow_zero, h1p], fun i h => ?_, ?_⟩
  · rw [pws_getD (Nat.mod_lt _ (by omega)), pws_getD h, ← Nat.pow_mod]
    by_cases e : n = 1
    · subst e
      obtain rfl : i = 0 := by omega
      exact ⟨by rw [Nat.pow_zero, Nat.pow_zero], fun h => absurd h (by omega)⟩
    · rw [Nat.mod_eq_of_lt (show 1 < n by omega), Nat.pow_one]
      exact ⟨rfl, fun hp he => by have := (ho i).1 he; rw [Nat.mod_eq_of_lt h] at this; omega⟩
  · rw [pws_getD (Nat.mod_lt _ (by omega)), ← Nat.pow_mod]
    by_cases e : n = 1
    · subst e
      rw [Nat.mod_self, Nat.pow_zero, Nat.one_pow, h1p]
    · rw [Nat.mod_eq_of_lt (show 1 < n by omega), Nat.pow_one]; exact hn1

/-! ### Roots -/
def rootN (p g n : Nat) : Nat := g ^ ((p - 1) / n) % p
theorem rootN_ord {x : En} (hF : Fld x) {n : Nat} (h1 : 1 ≤ n) (h : (x.p - 1) % n = 0) : OrdN (rootN x.p x.g n) x.p n := by
  obtain ⟨l, hl⟩ := hF.luc
  exact fun k => root_order hl n k h1 h
theorem rootN_lt {x : En} (hF : Fld x) (n : Nat) : rootN x.p x.g n < x.p := Nat.mod_lt _ (by have := hF.num; omega)
theorem OrdN.mod {w p n : Nat} (h : OrdN w p n) (k : Nat) : w ^ k % p = w ^ (k % n) % p := by
  by_cases hp : 2 ≤ p
  · have h1p : 1 % p = 1 := Nat.mod_eq_of_lt (by omega)
    have := pow_one_add w p (n * (k / n)) (k % n) (by rw [h1p]; exact (h _).2 (Nat.mul_mod_right _ _))
    rw [Nat.div_add_mod] at this
    exact this
  · have : p = 0 ∨ p = 1 := by omega
    rcases this with rfl | rfl
    · by_cases hn : n = 0
      · subst hn; simp
      · have e := (h n).2 (Nat.mod_self _)
        rw [Nat.mod_zero] at e
        have hw : w = 1 := by
          rcases Nat.lt_trichotomy w 1 with h' | h' | h'
          · obtain rfl : w = 0 := by omega
            rw [Nat.zero_pow (by omega)] at e; omega
          · exact h'
          · have := Nat.one_lt_pow (n := n) (by omega) h'; omega
        subst hw; simp
    · have := (h 0).2 (Nat.zero_mod _); omega
theorem OrdN.ne {w p n : Nat} (h : OrdN w p n) (hn : 1 ≤ n) : w % p ≠ 0 := fun e => by
  have h1 := (h n).2 (Nat.mod_self _)
  rw [Nat.pow_mod, e, Nat.zero_pow (by omega)] at h1
  simp at h1
/-- What makes 1 with a number of order n: its power of n - 1; of the same order. -/
theorem inv_root {w p n v : Nat} (hp : Prm p) (h : OrdN w p n) (hn : 1 ≤ n) (hv : IsInv w p v) : v = w ^ (n - 1) % p := by
  have h2 := hp.1
  refine inv_unique hv.lt (Nat.mod_lt _ (by omega)) (hv.yes (h.ne hn)) ?_
  rw [pw_next, show n - 1 + 1 = n by omega]
  exact (h n).2 (Nat.mod_self _)
theorem inv_pow {w p n v : Nat} (hp : Prm p) (h : OrdN w p n) (hn : 1 ≤ n) (hv : IsInv w p v) {i : Nat} (hi : i < n) : v ^ i % p = w ^ ((n - i) % n) % p := by
  rw [inv_root hp h hn hv, ← Nat.pow_mod, ← Nat.pow_mul, h.mod, h.mod ((n - i) % n), Nat.mod_mod]
  congr 2
  have e : (n - 1) * i + i = n * i := by rw [← Nat.succ_mul, Nat.succ_eq_add_one, show n - 1 + 1 = n by omega]
  by_cases h0 : i = 0
  · subst h0; simp
  · have e2 : (n - 1) * i = n * (i - 1) + (n - i) := by
      have e3 : n * i = n * (i - 1) + n := by rw [← Nat.mul_succ, Nat.succ_eq_add_one, show i - 1 + 1 = i by omega]
      omega
    rw [e2, Nat.mul_add_mod]
theorem inv_ord {w p n v : Nat} (hp : Prm p) (h : OrdN w p n) (hn : 1 ≤ n) (hv : IsInv w p v) : OrdN v p n := fun k => by
  have h2 := hp.1
  have h1p : 1 % p = 1 := Nat.mod_eq_of_lt (by omega)
  have e : w ^ k * v ^ k % p = 1 := by rw [← Nat.mul_pow, Nat.pow_mod, hv.yes (h.ne hn), Nat.one_pow, h1p]
  rw [← h k]
  constructor
  · intro he; rw [Nat.mul_mod, he, Nat.mul_one, Nat.mod_mod] at e; exact e
  · intro he; rw [Nat.mul_mod, he, Nat.one_mul, Nat.mod_mod] at e; exact e
theorem both_one {w p n v : Nat} (hp : Prm p) (h : OrdN w p n) (hn : 1 ≤ n) (hv : IsInv w p v) (i : Nat) : (w ^ i % p) * (v ^ i % p) % p = 1 := by
  have h2 := hp.1
  rw [← Nat.mul_mod, ← Nat.mul_pow, Nat.pow_mod, hv.yes (h.ne hn), Nat.one_pow, Nat.mod_eq_of_lt (by omega)]
/-- Each second power of the root of order 2 n is one of the root of order n; n further on is the opposite. -/
theorem half_second {p g n : Nat} (hn : 1 ≤ n) (h : (p - 1) % (2 * n) = 0) (i : Nat) : rootN p g (2 * n) ^ (2 * i) % p = rootN p g n ^ i % p := by
  obtain ⟨e, _⟩ := tree_pow (p := p) (g := g) 2 n (by omega) hn h
  unfold rootN
  rw [Nat.pow_mul, Nat.pow_mod, e]
theorem half_divides {p n : Nat} (hn : 1 ≤ n) (h : (p - 1) % (2 * n) = 0) : (p - 1) % n = 0 := by
  obtain ⟨c, hc⟩ := Nat.dvd_of_mod_eq_zero h
  rw [hc, Nat.mul_comm 2 n, Nat.mul_assoc]; exact Nat.mul_mod_right _ _
theorem half_neg {x : En} (hF : Fld x) {n : Nat} (hn : 1 ≤ n) (h : (x.p - 1) % (2 * n) = 0) (i : Nat) : rootN x.p x.g (2 * n) ^ (i + n) % x.p = negN (rootN x.p x.g (2 * n) ^ i % x.p) x.p := by
  have hp := hF.prm
  have h3 := hF.num.1
  have ho := rootN_ord hF (n := 2 * n) (by omega) h
  obtain ⟨w, hw⟩ : ∃ w, rootN x.p x.g (2 * n) = w := ⟨_, rfl⟩
  obtain ⟨p, ep⟩ : ∃ p, x.p = p := ⟨_, rfl⟩
  rw [hw, ep] at ho ⊢
  rw [ep] at hp h3
  have hne : w ^ n % p ≠ 1 := fun e => by
    have := (ho n).1 e
    rw [Nat.mod_eq_of_lt (by omega)] at this; omega
  have hsq : w ^ n * w ^ n % p = 1 := by
    rw [← Nat.pow_add, show n + n = 2 * n by omega]; exact (ho _).2 (Nat.mod_self _)
  have hm : w ^ n % p = p - 1 := by
    rcases hp.self_inv _ hsq with h | h
    · exact absurd h hne
    · exact h
  rw [Nat.pow_add, Nat.mul_mod, hm]
  obtain ⟨a, ha⟩ : ∃ a, w ^ i % p = a := ⟨_, rfl⟩
  have hal : a < p := ha ▸ Nat.mod_lt _ (by omega)
  rw [ha]
  unfold negN
  rw [Nat.mod_eq_of_lt hal]
  have e : a * (p - 1) + a = a * p := by rw [← Nat.mul_succ, Nat.succ_eq_add_one, show p - 1 + 1 = p by omega]
  by_cases h0 : a = 0
  · subst h0; simp
  · have e2 : a * (p - 1) = (p - a) + p * (a - 1) := by
      have e3 : a * p = p * (a - 1) + p := by rw [← Nat.mul_succ, Nat.succ_eq_add_one, show a - 1 + 1 = a by omega, Nat.mul_comm]
      omega
    rw [e2, Nat.add_mul_mod_self_left]
end Go.Proofs.YtpjfapibjihbbaaGreatDoor
/-
  What twiddle.Root, and the document's Root, answer. No condition but that the field lies there.
-/
namespace Go.Proofs.YtpjfapibjihbbaaGreatDoor
set_option linter.unusedVariables false
open Go.RowKit

/-- The root of order n, or what makes 1 with it. -/
def twR (x : En) (n : Nat) (i : Bool) : Nat := if i then rootN x.p x.g n ^ (n - 1) % x.p else rootN x.p x.g n
theorem twR_lt {x : En} (hF : Fld x) (n : Nat) (i : Bool) : twR x n i < x.p := by
  have h3 := hF.num.1
  cases i
  · exact rootN_lt hF n
  · exact Nat.mod_lt _ (by omega)
theorem tRoot_nil (w : World) (z : Int) (i : Bool) : AnsW w 131 #[.pointer none, .int .i64 z, .bool i] (.tuple #[.int .u64 0, .int .i64 2]) := by
  intro n
  go_enter Tryz.func131, Tryz.ntmps131
  go_wp2
  go_ret2
  exact ⟨rfl, 0, rfl⟩
theorem tRoot_arg (w : World) (a : Addr) (z : Int) (i : Bool) (h : z < 1) : AnsW w 131 #[.pointer (some a), .int .i64 z, .bool i] (.tuple #[.int .u64 0, .int .i64 1]) := by
  intro n
  go_enter Tryz.func131, Tryz.ntmps131
  go_wp2
  go_ret2
  exact ⟨rfl, 0, rfl⟩
theorem tRoot_long (w : World) (a : Addr) (z : Int) (i : Bool) (h : 1 ≤ z) (h2 : 4096 < z) : AnsW w 131 #[.pointer (some a), .int .i64 z, .bool i] (.tuple #[.int .u64 0, .int .i64 13]) := by
  intro n
  go_enter Tryz.func131, Tryz.ntmps131
  go_wp2
  go_ret2
  exact ⟨rfl, 0, rfl⟩
theorem tRoot_no (w : World) (a : Addr) (z : Int) (i : Bool) (h : 1 ≤ z) (h2 : z ≤ 4096) (HR : AnsW w 148 #[.pointer (some a), .int .i64 z] (.tuple #[.int .u64 0, .int .i64 4])) : AnsW w 131 #[.pointer (some a), .int .i64 z, .bool i] (.tuple #[.int .u64 0, .int .i64 4]) := by
  intro n
  go_enter Tryz.func131, Tryz.ntmps131
  go_wp2_with (first | (go_at_call 148; with_reducible refine AnsW.use HR _ fun n1 => ?_))
  go_ret2
  exact ⟨rfl, _, rfl⟩
theorem tRoot_fwd (w : World) (a : Addr) (z r : Int) (h : 1 ≤ z) (h2 : z ≤ 4096) (HR : AnsW w 148 #[.pointer (some a), .int .i64 z] (.tuple #[.int .u64 r, .int .i64 0])) : AnsW w 131 #[.pointer (some a), .int .i64 z, .bool false] (.tuple #[.int .u64 r, .int .i64 0]) := by
  intro n
  go_enter Tryz.func131, Tryz.ntmps131
  go_wp2_with (first | (go_at_call 148; with_reducible refine AnsW.use HR _ fun n1 => ?_))
  go_ret2
  exact ⟨rfl, _, rfl⟩
theorem tRoot_inv (w : World) (a : Addr) (z r v : Int) (h : 1 ≤ z) (h2 : z ≤ 4096) (HR : AnsW w 148 #[.pointer (some a), .int .i64 z] (.tuple #[.int .u64 r, .int .i64 0])) (HI : AnsW w 108 #[.pointer (some a), .int .u64 r] (.int .u64 v)) : AnsW w 131 #[.pointer (some a), .int .i64 z, .bool true] (.tuple #[.int .u64 v, .int .i64 0]) := by
  intro n
  go_enter Tryz.func131, Tryz.ntmps131
  go_wp2_with (first | (go_at_call 148; with_reducible refine AnsW.use HR _ fun n1 => ?_) | (go_at_call 108; with_reducible refine AnsW.use HI _ fun n2 => ?_))
  go_ret2
  exact ⟨rfl, n1 + n2, by simp [Nat.add_assoc]⟩
theorem tRoot_yes {w : World} {b : Nat} {x : En} (F : FieldAt w b x) (hF : Fld x) (n : Nat) (h1 : 1 ≤ n) (h2 : n ≤ 4096) (hd : (x.p - 1) % n = 0) (i : Bool) : AnsW w 131 #[pt b, .int .i64 (n : Int), .bool i] (.tuple #[.int .u64 ((twR x n i : Nat) : Int), .int .i64 0]) := by
  obtain ⟨h3, hodd, hlt⟩ := hF.num
  have hg := hF.gl
  have HR := fRoot_any F (by omega) n (by omega) h1 hd
  cases i
  · exact tRoot_fwd w _ n _ (by omega) (by omega) HR
  · obtain ⟨v, hv, HI⟩ := fInv_any hF.prm hlt (rootN x.p x.g n) (by have := rootN_lt hF n; omega)
    have e := inv_root hF.prm (rootN_ord hF h1 hd) h1 hv
    refine (tRoot_inv w _ n _ (v : Int) (by omega) (by omega) HR (HI w b F)).to ?_
    unfold twR
    rw [if_pos rfl, ← e]
theorem twR_ord {x : En} (hF : Fld x) {n : Nat} (h1 : 1 ≤ n) (hd : (x.p - 1) % n = 0) (i : Bool) : OrdN (twR x n i) x.p n := by
  cases i
  · exact rootN_ord hF h1 hd
  · have hp := hF.prm
    have h3 := hp.1
    have ho := rootN_ord hF h1 hd
    have hv : IsInv (rootN x.p x.g n) x.p (rootN x.p x.g n ^ (n - 1) % x.p) := by
      refine ⟨Nat.mod_lt _ (by omega), fun _ => ?_, fun e => absurd e (ho.ne h1)⟩
      rw [pw_next, show n - 1 + 1 = n by omega]
      exact (ho n).2 (Nat.mod_self _)
    exact inv_ord hp ho h1 hv
theorem twR_inv {x : En} (hF : Fld x) {n : Nat} (h1 : 1 ≤ n) (hd : (x.p - 1) % n = 0) : IsInv (twR x n false) x.p (twR x n true) := by
  have h3 := hF.num.1
  have ho := rootN_ord hF h1 hd
  refine ⟨twR_lt hF n true, fun _ => ?_, fun e => absurd e (ho.ne h1)⟩
  show rootN x.p x.g n * (rootN x.p x.g n ^ (n - 1) % x.p) % x.p = 1
  rw [pw_next, show n - 1 + 1 = n by omega]
  exact (ho n).2 (Nat.mod_self _)

/-! ### The document's -/
theorem dRoot_arg (p g z : Int) (i : Bool) (h : z < 1) : Ans 26 #[.int .u64 p, .int .u64 g, .int .i64 z, .bool i] (.tuple #[.int .u64 0, .int .i64 1]) := by
  intro w
  go_enter Tryz.func26, Tryz.ntmps26
  go_wp2
  go_ret2
  exact ⟨rfl, 0, rfl⟩
theorem dRoot_long (p g z : Int) (i : Bool) (h : 1 ≤ z) (h2 : 4096 < z) : Ans 26 #[.int .u64 p, .int .u64 g, .int .i64 z, .bool i] (.tuple #[.int .u64 0, .int .i64 13]) := by
  intro w
  go_enter Tryz.func26, Tryz.ntmps26
  go_wp2
  go_ret2
  exact ⟨rfl, 0, rfl⟩
theorem dRoot_no (p g z r : Int) (i : Bool) (p0 : 2 ≤ p) (p1 : p < 18446744073709551616) (h : 1 ≤ z) (h2 : z ≤ 4096) (hz : (z == 0) = false) (hr : (p - 1) % z = r) (h0 : (r != 0) = true) : Ans 26 #[.int .u64 p, .int .u64 g, .int .i64 z, .bool i] (.tuple #[.int .u64 0, .int .i64 4]) := by
  intro w
  go_enter Tryz.func26, Tryz.ntmps26
  go_wp2
  go_ret2
  exact ⟨rfl, 0, rfl⟩
theorem dRoot_fwd (p g z r : Int) (p0 : 2 ≤ p) (p1 : p < 18446744073709551616) (h : 1 ≤ z) (h2 : z ≤ 4096) (hz : (z == 0) = false) (hr : (p - 1) % z = 0) (HR : Ans 46 #[.int .u64 p, .int .u64 g, .int .i64 z] (.int .u64 r)) : Ans 26 #[.int .u64 p, .int .u64 g, .int .i64 z, .bool false] (.tuple #[.int .u64 r, .int .i64 0]) := by
  intro w
  go_enter Tryz.func26, Tryz.ntmps26
  go_wp2_with (first | (go_at_call 46; with_reducible refine Ans.use HR _ fun n1 => ?_))
  go_ret2
  exact ⟨rfl, _, rfl⟩
theorem dRoot_inv (p g z r v : Int) (p0 : 2 ≤ p) (p1 : p < 18446744073709551616) (h : 1 ≤ z) (h2 : z ≤ 4096) (hz : (z == 0) = false) (hr : (p - 1) % z = 0) (HR : Ans 46 #[.int .u64 p, .int .u64 g, .int .i64 z] (.int .u64 r)) (HP : Ans 47 #[.int .u64 r, .int .u64 (z - 1), .int .u64 p] (.int .u64 v)) : Ans 26 #[.int .u64 p, .int .u64 g, .int .i64 z, .bool true] (.tuple #[.int .u64 v, .int .i64 0]) := by
  intro w
  go_enter Tryz.func26, Tryz.ntmps26
  go_wp2_with (first | (go_at_call 46; with_reducible refine Ans.use HR _ fun n1 => ?_) | (go_at_call 47; with_reducible refine Ans.use HP _ fun n2 => ?_))
  go_ret2
  exact ⟨rfl, n1 + n2, by simp⟩
theorem dRoot_yes {x : En} (hF : Fld x) (n : Nat) (h1 : 1 ≤ n) (h2 : n ≤ 4096) (hd : (x.p - 1) % n = 0) (i : Bool) : Ans 26 #[.int .u64 (x.p : Int), .int .u64 (x.g : Int), .int .i64 (n : Int), .bool i] (.tuple #[.int .u64 ((twR x n i : Nat) : Int), .int .i64 0]) := by
  obtain ⟨h3, hodd, hlt⟩ := hF.num
  have hg := hF.gl
  have HR := rroot_any x.p x.g n (by omega) (by omega) (by omega) h1 (by omega) hd
  have hz : ((n : Int) == 0) = false := by simp; omega
  have e : (x.p : Int) - 1 = ((x.p - 1 : Nat) : Int) := by omega
  have hr : ((x.p : Int) - 1) % (n : Int) = 0 := by rw [e]; exact_mod_cast hd
  cases i
  · exact dRoot_fwd _ _ _ _ (by omega) (by omega) (by omega) (by omega) hz hr HR
  · have HP := rpow_any (rootN x.p x.g n) x.p (by have := rootN_lt hF n; omega) (by omega) (by omega) (n - 1) (by omega)
    rw [show ((n - 1 : Nat) : Int) = (n : Int) - 1 by omega] at HP
    exact dRoot_inv _ _ _ _ _ (by omega) (by omega) (by omega) (by omega) hz hr HR HP
theorem dRoot_bad {x : En} (hF : Fld x) (n : Nat) (h1 : 1 ≤ n) (h2 : n ≤ 4096) (hd : (x.p - 1) % n ≠ 0) (i : Bool) : Ans 26 #[.int .u64 (x.p : Int), .int .u64 (x.g : Int), .int .i64 (n : Int), .bool i] (.tuple #[.int .u64 0, .int .i64 4]) := by
  obtain ⟨h3, hodd, hlt⟩ := hF.num
  have e : (x.p : Int) - 1 = ((x.p - 1 : Nat) : Int) := by omega
  exact dRoot_no _ _ _ (((x.p - 1) % n : Nat) : Int) i (by omega) (by omega) (by omega) (by omega) (by simp; omega) (by rw [e]; rfl) (by simp; omega)
end Go.Proofs.YtpjfapibjihbbaaGreatDoor
/-
  What twiddle.powers and twiddle.Table answer: a new row. No condition but that the field lies there.
-/
namespace Go.Proofs.YtpjfapibjihbbaaGreatDoor
set_option linter.unusedVariables false
open Go.RowKit

theorem pws_fl (y p n : Nat) : wfl 0 n n (fun i => y ^ i % p) = pws y p n := wfl_all 0 n _
set_option maxHeartbeats 1000000 in
theorem powers_any (W : World) (b : Nat) (x : En) (F : FieldAt W b x) (h3 : 3 ≤ x.p) (hlt : x.p < 9223372036854775808) (y n : Nat) (hy : y < 18446744073709551616) (hn : n ≤ 4096) : OwnR W 132 #[pt b, .int .u64 (y : Int), .int .i64 (n : Int)] (pws y x.p n) := by
  intro w hw
  obtain ⟨ii, hii, hzi, hsi, hbi⟩ := info_parts infoWd
  have Fw := F.below hw
  have HL := fLift_any Fw y hy
  have HT : ∀ (wr : World), Below w.heap.size w wr → ∀ c : Nat, c < x.p → AnsW wr 109 #[pt b, .int .u64 ((up y x.p : Nat) : Int), .int .u64 (c : Int)] (.int .u64 ((y * c % x.p : Nat) : Int)) := fun wr hB c hc => fTimes_lift (Fw.below hB) y c hy (by omega)
  rw [pws_len]
  have HF : Hid (wfl 0 n n (fun i => y ^ i % x.p) = pws y x.p n) := pws_fl y x.p n
  have HN : ∀ k c : Nat, c = y ^ k % x.p → y * c % x.p = y ^ (k + 1) % x.p := fun k c e => by rw [e, pw_next]
  obtain ⟨l, hl⟩ : ∃ l, up y x.p = l := ⟨_, rfl⟩
  rw [hl] at HL
  simp only [hl] at HT
  have HF1 : Hid (∀ k, k < n → (fun i => y ^ i % x.p) k = y ^ k % x.p) := fun _ _ => rfl
  obtain ⟨f, hf⟩ : ∃ f : Nat → Nat, (fun i => y ^ i % x.p) = f := ⟨_, rfl⟩
  have hft : ∀ k, y ^ k % x.p = f k := fun k => congrFun hf k
  have hf0 : Hid (f 0 = 1) := by unfold Hid; rw [← hft, Nat.pow_zero, Nat.mod_eq_of_lt (by omega)]
  have hfl : Hid (∀ k, f k < x.p) := fun k => by rw [← hft]; exact Nat.mod_lt _ (by omega)
  simp only [hft] at HN
  rw [hf] at HF
  obtain ⟨ts, hts⟩ : ∃ ts, pws y x.p n = ts := ⟨_, rfl⟩
  rw [hts] at HF ⊢
  obtain ⟨p, hp⟩ : ∃ p, x.p = p := ⟨_, rfl⟩
  rw [hp] at hlt hfl
  simp only [hp] at HT HN
  have HM : Hid (n ≤ 4096) := hn
  have HLT : Hid (p < 9223372036854775808) := hlt
  have HN' : Hid (∀ k c : Nat, c = f k → y * c % p = f (k + 1)) := HN
  clear hl hft hf hts hp h3 HF1 hlt HN
  go_enter Tryz.func132, Tryz.ntmps132
  go_wp2_with (first
    | (go_at_call 103; with_reducible refine AnsW.use0 HL fun n1 => ?_)
    | (at_make; refine Hid.out ?_))
  unfold Hid
  refine wpList_make_full _ rfl _ _ 26 rfl w.heap.size 22 ii _ 1 Tryz.underlying26 hii hzi hsi .i64 .i64 (n : Int) (n : Int) n rfl rfl rfl rfl (by have := HM.out; rw [hbi]; omega) (by have := HM.out; unfold maxLen; omega) (Nat.le_refl _) ?_
  intro w1 hR hG1
  obtain ⟨gc, hgc⟩ : ∃ gc, w.heap.size = gc := ⟨_, rfl⟩
  have HGC : Hid (w.heap.size = gc) := hgc
  have hR1 : w1.ownsRow w.heap.size 22 1 (.slice (some ⟨w.heap.size, 0, none⟩) n n) n (ucells (wfl 0 n 0 f)) := by
    have e : (madeCells (Value.int .u64 0).cells (n * 1)).toList = ucells (wfl 0 n 0 f) := by
      rw [made_list rfl, wfl_zero]; simp [ucells]
    rw [← e]; exact hR
  have hB1 : Below w.heap.size w w1 := bb (below_drewN w n1) ((Below.refl _ _).grown hG1 (Nat.le_refl _) (fun k ek => by cases ek))
  rw [show (Value.slice (some ⟨w.heap.size, 0, none⟩) n n) = .slice (some ⟨gc, 0, none⟩) n n by rw [hgc]] at hR1
  have HR2 : Hid (w1.ownsRow w.heap.size 22 1 (.slice (some ⟨gc, 0, none⟩) n n) n (ucells (wfl 0 n 0 f))) := hR1
  have e1 : (w.drewN n1).heap.size = gc := hgc
  rw [e1]
  have h0p : (1 : Nat) < p := by
    have := hfl.out 0; rw [hf0.out] at this; omega
  have hlenn : (n : Int) ≤ 9223372036854775807 := by omega
  clear hR hR1 hG1 hgc e1 hn
  go_wp2
  go_loopw [9, 18] (fun x v wr => ∃ c k : Nat, x = .int .u64 (c : Int) ∧ v = .int .i64 (k : Int) ∧ k ≤ n ∧ c < p ∧ Hid (c = f k) ∧ Hid (wr.ownsRow w.heap.size 22 1 (.slice (some ⟨gc, 0, none⟩) n n) n (ucells (wfl 0 n k f))) ∧ Below w.heap.size w wr) (fun _ v _ => n - (intOf v).toNat)
  case atStart => exact ⟨1, 0, rfl, rfl, by omega, h0p, hf0.out.symm, HR2, hB1⟩
  case round =>
    clear HR2 hB1
    obtain ⟨c, k, rfl, rfl, hk, hc, HC, HO, hB⟩ := hrel
    by_cases hlt : k < n
    · have hck : wr.cell? ⟨gc, k, none⟩ = some (.int .u64 0) := (World.ownsRow.cellAt HO.out k (by omega)).trans (by unfold ucells; rw [List.getElem?_map, wfl_get 0 f hlt, if_neg (by omega)]; rfl)
      have hfk : wr.frozen? ⟨gc, k, none⟩ = false := World.ownsRow.frozenAt HO.out k
      obtain ⟨hO3, hG3⟩ := World.ownsRow.stored HO.out k (.int .u64 ((f k : Nat) : Int))
      have HO3 : Hid ((wr.setCell ⟨gc, k, none⟩ (.int .u64 (c : Int))).ownsRow w.heap.size 22 1 (.slice (some ⟨gc, 0, none⟩) n n) n (ucells (wfl 0 n (k + 1) f))) := by
        unfold Hid
        rw [← wfl_set, ucells_set, HC.out]; exact hO3
      have hB3 : Below w.heap.size w (wr.setCell ⟨gc, k, none⟩ (.int .u64 (c : Int))) := hB.setCell (p := ⟨gc, k, none⟩) (by rw [HGC.out]; exact Nat.le_refl _) _
      have HTk := HT _ hB3 c hc
      have hd := HN'.out k c HC.out
      obtain ⟨d, hdd⟩ : ∃ d, y * c % p = d := ⟨_, rfl⟩
      rw [hdd] at HTk hd
      have hdl : d < p := by rw [hd]; exact hfl.out _
      have HD : Hid (d = f (k + 1)) := hd
      obtain ⟨V, hV⟩ : ∃ V, wr.setCell ⟨gc, k, none⟩ (.int .u64 (c : Int)) = V := ⟨_, rfl⟩
      rw [hV] at HO3 hB3 HTk
      clear hO3 hG3 HO hd hdd HC HT
      go_wp2_with (go_at_call 109; with_reducible refine AnsW.use0 HTk fun n2 => ?_)
      go_roundw
      case rel => exact ⟨d, k + 1, rfl, by go_num, by omega, hdl, HD, by unfold Hid; exact HO3.out, below_dN hB3 n2⟩
      case measure => simp [intOf]; omega
    · obtain rfl : k = n := by omega
      have HO4 : Hid (OwnU wr w.heap.size (some ⟨gc, 0, none⟩) k ts) := by
        unfold Hid OwnU; rw [← HF.out, wfl_len]; exact HO.out
      clear HO
      go_wp2
      go_ret
      exact ⟨_, _, rfl, HO4.out, hB⟩
theorem table_err (w : World) (v : Option Addr) (z r e : Int) (i : Bool) (he : (e != 0) = true) (HR : AnsW w 131 #[.pointer v, .int .i64 z, .bool i] (.tuple #[.int .u64 r, .int .i64 e])) : AnsW w 102 #[.pointer v, .int .i64 z, .bool i] (.tuple #[.slice none 0 0, .int .i64 e]) := by
  intro n
  go_enter Tryz.func102, Tryz.ntmps102
  go_wp2_with (go_at_call 131; with_reducible refine AnsW.use HR _ fun n1 => ?_)
  go_ret2
  exact ⟨rfl, _, rfl⟩
set_option maxHeartbeats 1000000 in
theorem table_walk (W : World) (v : Option Addr) (z r : Int) (i : Bool) (l : List Nat) (HR : ∀ w, Below W.heap.size W w → AnsW w 131 #[.pointer v, .int .i64 z, .bool i] (.tuple #[.int .u64 r, .int .i64 0])) (HP : OwnR W 132 #[.pointer v, .int .u64 r, .int .i64 z] l) : OwnT W 102 #[.pointer v, .int .i64 z, .bool i] l := by
  intro w hw
  have HR1 := HR w hw
  clear HR
  go_enter Tryz.func102, Tryz.ntmps102
  go_wp2_with (first
    | (go_at_call 131; with_reducible refine AnsW.use0 HR1 fun n1 => ?_)
    | (go_at_call 132; with_reducible refine OwnR.use HP (bb hw (below_drewN w n1)) fun A1 C1 w2 hO hB => ?_))
  go_ret2
  exact ⟨A1, C1, rfl, hO, bb (below_drewN w n1) hB⟩
theorem table_yes (W : World) (b : Nat) (x : En) (F : FieldAt W b x) (hF : Fld x) (n : Nat) (h1 : 1 ≤ n) (h2 : n ≤ 4096) (hd : (x.p - 1) % n = 0) (i : Bool) : OwnT W 102 #[pt b, .int .i64 (n : Int), .bool i] (pws (twR x n i) x.p n) := by
  obtain ⟨h3, hodd, hlt⟩ := hF.num
  have := twR_lt hF n i
  exact table_walk W _ _ _ i _ (fun w hw => tRoot_yes (F.below hw) hF n h1 h2 hd i) (powers_any W b x F h3 hlt _ n (by omega) h2)
end Go.Proofs.YtpjfapibjihbbaaGreatDoor
/-
  What twiddle.Lifted, and the document's Table, answer: new rows. No condition but that the field lies there.
-/
namespace Go.Proofs.YtpjfapibjihbbaaGreatDoor
set_option linter.unusedVariables false
open Go.RowKit

/-- The first k of a list turned. -/
def mp (g : Nat → Nat) (xs : List Nat) (k : Nat) : List Nat := (xs.take k).map g ++ xs.drop k
theorem mp_len (g : Nat → Nat) (xs : List Nat) (k : Nat) : (mp g xs k).length = xs.length := by simp [mp]; omega
theorem mp_zero (g : Nat → Nat) (xs : List Nat) : mp g xs 0 = xs := by simp [mp]
theorem mp_all (g : Nat → Nat) (xs : List Nat) : mp g xs xs.length = xs.map g := by simp [mp]
theorem mp_get (g : Nat → Nat) (xs : List Nat) (k : Nat) : (mp g xs k)[k]? = xs[k]? := by
  unfold mp
  by_cases h : k ≤ xs.length
  · rw [List.getElem?_append_right (by simp; omega)]
    simp [Nat.min_eq_left h]
  · rw [List.getElem?_eq_none (by simp; omega), List.getElem?_eq_none (by omega)]
theorem mp_set {g : Nat → Nat} {xs : List Nat} {k x : Nat} (hx : xs[k]? = some x) : (mp g xs k).set k (g x) = mp g xs (k + 1) := by
  have hk : k < xs.length := (List.getElem?_eq_some_iff.1 hx).1
  have hd : xs.drop k = x :: xs.drop (k + 1) := by
    rw [List.drop_eq_getElem_cons hk, (List.getElem?_eq_some_iff.1 hx).2]
  unfold mp
  rw [List.set_append_right _ _ (by simp; omega), hd, List.take_add_one, hx]
  simp [Nat.min_eq_left (Nat.le_of_lt hk)]
theorem lifted_err (w : World) (v : Option Addr) (z e : Int) (i : Bool) (he : (e != 0) = true) (HR : AnsW w 102 #[.pointer v, .int .i64 z, .bool i] (.tuple #[.slice none 0 0, .int .i64 e])) : AnsW w 82 #[.pointer v, .int .i64 z, .bool i] (.tuple #[.slice none 0 0, .int .i64 e]) := by
  intro n
  go_enter Tryz.func82, Tryz.ntmps82
  go_wp2_with (go_at_call 102; with_reducible refine AnsW.use HR _ fun n1 => ?_)
  go_ret2
  exact ⟨rfl, _, rfl⟩
set_option maxHeartbeats 1000000 in
theorem lifted_walk (W : World) (b : Nat) (z : Int) (i : Bool) (ts : List Nat) (u : Nat → Nat) (h1 : 1 ≤ ts.length) (h2 : ts.length ≤ 4096) (HT : OwnT W 102 #[pt b, .int .i64 z, .bool i] ts)
    (HL : ∀ wr, Below W.heap.size W wr → ∀ x ∈ ts, AnsW wr 103 #[pt b, .int .u64 (x : Int)] (.int .u64 ((u x : Nat) : Int))) : OwnT W 82 #[pt b, .int .i64 z, .bool i] (ts.map u) := by
  intro w hw
  rw [List.length_map]
  have HMl : ∀ k, (mp u ts k).length = ts.length := mp_len u ts
  have HMA : Hid (mp u ts ts.length = ts.map u) := mp_all u ts
  obtain ⟨L, hL⟩ : ∃ L, ts.length = L := ⟨_, rfl⟩
  have HTL : Hid (ts.length = L) := hL
  have HT' : ∀ {R : Ending → World → Prop}, (∀ A1 C1 w', OwnU w' w.heap.size A1 C1 ts → Below w.heap.size w w' → R (.returned (.tuple #[.slice A1 L C1, .int .i64 0])) w') → Calls Tryz.prog 102 #[pt b, .int .i64 z, .bool i] w R := by
    intro R k
    exact OwnT.use HT hw (fun A1 C1 w' q1 q2 => by rw [hL]; exact k A1 C1 w' q1 q2)
  have HL' : Hid (∀ wr, Below W.heap.size W wr → ∀ x ∈ ts, AnsW wr 103 #[pt b, .int .u64 (x : Int)] (.int .u64 ((u x : Nat) : Int))) := HL
  rw [hL] at h1 h2 HMA ⊢
  simp only [hL] at HMl
  have HMl' : Hid (∀ k, (mp u ts k).length = L) := HMl
  have hlen : (L : Int) ≤ 9223372036854775807 := by omega
  clear hL HT HL HMl
  have H1 : Hid (1 ≤ L ∧ L ≤ 4096) := ⟨h1, h2⟩
  clear h1 h2
  go_enter Tryz.func82, Tryz.ntmps82
  go_wp2_with (go_at_call 102; with_reducible refine HT' fun A1 C1 w2 hO hB2 => ?_)
  obtain ⟨x0, hx0⟩ : ∃ x0, ts[0]? = some x0 := ⟨_, List.getElem?_eq_getElem (by rw [HTL.out]; exact H1.out.1)⟩
  obtain ⟨g, rfl, hg1, _⟩ := hO.get hx0
  have HG : Hid (w.heap.size ≤ g) := hg1
  have HO0 : Hid (w2.ownsRow w.heap.size 22 1 (.slice (some ⟨g, 0, none⟩) L C1) L (ucells (mp u ts 0))) := by
    unfold Hid; rw [mp_zero, ← HTL.out]; exact hO
  clear hx0 hg1 hO
  go_loopw [24] (fun v wr => ∃ k : Nat, v = .int .i64 (k : Int) ∧ k ≤ L ∧ Hid (wr.ownsRow w.heap.size 22 1 (.slice (some ⟨g, 0, none⟩) L C1) L (ucells (mp u ts k))) ∧ Below w.heap.size w wr) (fun v _ => L - (intOf v).toNat)
  case atStart => exact ⟨0, rfl, by omega, HO0, hB2⟩
  case round =>
    clear HO0 hB2
    obtain ⟨k, rfl, hk, HO, hB⟩ := hrel
    by_cases hlt : k < L
    · obtain ⟨x, hx⟩ : ∃ x, ts[k]? = some x := ⟨_, List.getElem?_eq_getElem (by rw [HTL.out]; exact hlt)⟩
      have hck : wr.cell? ⟨g, k, none⟩ = some (.int .u64 (x : Int)) := (World.ownsRow.cellAt HO.out k (by omega)).trans (ucells_get (by rw [mp_get]; exact hx))
      have hfk : wr.frozen? ⟨g, k, none⟩ = false := World.ownsRow.frozenAt HO.out k
      have HLx := HL'.out wr (hw.trans (hB.mono hw.size)) x (List.mem_of_getElem? hx)
      obtain ⟨hO3, hG3⟩ := World.ownsRow.stored HO.out k (.int .u64 ((u x : Nat) : Int))
      have HO3 : Hid ((wr.setCell ⟨g, k, none⟩ (.int .u64 ((u x : Nat) : Int))).ownsRow w.heap.size 22 1 (.slice (some ⟨g, 0, none⟩) L C1) L (ucells (mp u ts (k + 1)))) := by
        unfold Hid
        rw [← mp_set hx, ucells_set]; exact hO3
      have hB3 : Below w.heap.size w (wr.setCell ⟨g, k, none⟩ (.int .u64 ((u x : Nat) : Int))) := hB.setCell (p := ⟨g, k, none⟩) HG.out _
      obtain ⟨y, hy⟩ : ∃ y, u x = y := ⟨_, rfl⟩
      rw [hy] at HLx HO3 hB3
      have HB3 : Hid (Below w.heap.size w (wr.setCell ⟨g, k, none⟩ (.int .u64 (y : Int)))) := hB3
      clear hO3 hG3 HO hy hx hB3
      go_wp2_with (go_at_call 103; with_reducible refine AnsW.use0 HLx fun n2 => ?_)
      go_roundw
      case rel => exact ⟨k + 1, by go_num, by omega, HO3, below_dN HB3.out n2⟩
      case measure => simp [intOf]; omega
    · obtain rfl : k = L := by omega
      have HO4 : Hid (OwnU wr w.heap.size (some ⟨g, 0, none⟩) C1 (ts.map u)) := by
        unfold Hid OwnU; rw [← HMA.out, HMl'.out]; exact HO.out
      clear HO
      go_wp2
      go_ret2
      exact ⟨_, _, rfl, HO4.out, hB⟩
theorem lifted_yes (W : World) (b : Nat) (x : En) (F : FieldAt W b x) (hF : Fld x) (n : Nat) (h1 : 1 ≤ n) (h2 : n ≤ 4096) (hd : (x.p - 1) % n = 0) (i : Bool) : OwnT W 82 #[pt b, .int .i64 (n : Int), .bool i] ((pws (twR x n i) x.p n).map fun y => up y x.p) := by
  obtain ⟨h3, hodd, hlt⟩ := hF.num
  refine lifted_walk W b n i _ (fun y => up y x.p) (by rw [pws_len]; exact h1) (by rw [pws_len]; exact h2) (table_yes W b x F hF n h1 h2 hd i) fun wr hB y hy => ?_
  have := pws_lt (show 0 < x.p by omega) y hy
  exact fLift_any (F.below hB) y (by omega)

/-! ### The document's -/
set_option maxHeartbeats 1000000 in
theorem dTable_any (W : World) (y p n : Nat) (hy : y < 18446744073709551616) (h2 : 2 ≤ p) (hp : p < 18446744073709551616) (hn : n ≤ 4096) : OwnR W 27 #[.int .u64 (p : Int), .int .u64 (y : Int), .int .i64 (n : Int)] (pws y p n) := by
  intro w hw
  obtain ⟨ii, hii, hzi, hsi, hbi⟩ := info_parts infoWd
  rw [pws_len]
  have HM : Hid (n ≤ 4096) := hn
  have HS : Hid (∀ k, ucells (pws y p (k + 1)) = ucells (pws y p k) ++ [.int .u64 ((y ^ k % p : Nat) : Int)]) := fun k => by rw [pws_succ, ucells_snoc]
  have H0 : Hid (ucells (pws y p 0) = []) := rfl
  have hlenn : (n : Int) ≤ 9223372036854775807 := by omega
  have HP : Hid (1 % p = 1) := Nat.mod_eq_of_lt (by omega)
  have h0 : 1 < p := by omega
  go_enter Tryz.func27, Tryz.ntmps27
  go_wp2
  go_loopw [7, 8, 9] (fun out x v wr => ∃ c k : Nat, x = .int .u64 (c : Int) ∧ v = .int .i64 (k : Int) ∧ k ≤ n ∧ c < p ∧ Hid (c = y ^ k % p) ∧ Hid (wr.ownsRow w.heap.size 22 1 out k (ucells (pws y p k))) ∧ Below w.heap.size w wr) (fun _ _ v _ => n - (intOf v).toNat)
  case atStart => exact ⟨1, 0, rfl, rfl, by omega, h0, by unfold Hid; rw [Nat.pow_zero, HP.out], by unfold Hid; rw [H0.out]; exact World.ownsRow_nil _ _ _ _, Below.refl _ _⟩
  case round =>
    obtain ⟨c, k, rfl, rfl, hk, hc, HC, HO, hB⟩ := hrel
    by_cases hlt : k < n
    · have HQ := rmul_any c y p (by omega) (by omega) hp (by omega)
      obtain ⟨d, hd⟩ : ∃ d, c * y % p = d := ⟨_, rfl⟩
      rw [hd] at HQ
      have hdl : d < p := hd ▸ Nat.mod_lt _ (by omega)
      have HD : Hid (d = y ^ (k + 1) % p) := by unfold Hid; rw [← hd, HC.out, pw_next']
      have hO2 := World.ownsRow.alloc HO.out (.cells #[.int .u64 (c : Int)] 22)
      have hnews := one_new wr (.int .u64 (c : Int)) 22
      have hBa : Below w.heap.size w (wr.alloc (.cells #[.int .u64 (c : Int)] 22)) := bb hB (below_alloc _ _)
      have HX : Hid (ucells (pws y p (k + 1)) = ucells (pws y p k) ++ [.int .u64 (c : Int)]) := by unfold Hid; rw [HS.out, HC.out]
      have hkm : k ≤ 4096 := Nat.le_trans hk HM.out
      clear hd HO HC
      go_wp2_with (at_builtin; refine Hid.out ?_)
      unfold Hid
      refine (wpList_append_own _ rfl _ _ 26 rfl w.heap.size 22 ii _ 1 8 Tryz.underlying26 hii hzi hsi hbi rfl (by omega) _ k _ rfl hO2 ⟨wr.heap.size, 0, none⟩ 1 1 [.int .u64 (c : Int)] rfl rfl hnews (by simp [Value.oneCell']) (by unfold maxLen; omega) (by omega) hBa.size ?_)
      intro v' w5 hO3 hG _
      have HO3 : Hid (w5.ownsRow w.heap.size 22 1 v' (k + 1) (ucells (pws y p (k + 1)))) := by unfold Hid; rw [HX.out]; exact hO3
      have hB5 : Below w.heap.size w w5 := hBa.grown hG hBa.size (fun k hk => (hO2.lt k hk).1)
      clear hO3 hG hO2 hBa hnews hB HX hkm
      go_wp2_with (go_at_call 29; with_reducible refine Ans.use HQ _ fun n2 => ?_)
      go_roundw
      case rel => exact ⟨d, k + 1, rfl, by go_num, by omega, hdl, HD, by unfold Hid; exact HO3.out, below_dN hB5 n2⟩
      case measure => simp [intOf]; omega
    · obtain rfl : k = n := by omega
      obtain ⟨A1, C1, rfl⟩ : ∃ A1 C1, u7 = .slice A1 k C1 := by
        rcases HO.out.2 with ⟨hv, h0⟩ | ⟨g, cap, cur, hv, _⟩
        · exact ⟨none, 0, by rw [hv, h0]⟩
        · exact ⟨_, _, hv⟩
      have HO4 : Hid (OwnU wr w.heap.size A1 C1 (pws y p k)) := by
        unfold Hid OwnU; rw [pws_len]; exact HO.out
      clear HO HC
      go_wp2
      go_ret
      exact ⟨A1, C1, rfl, HO4.out, hB⟩
end Go.Proofs.YtpjfapibjihbbaaGreatDoor

/-
  Plain mathematics of layer 10: powers of a number, tables that have all of them, roots and what makes 1 with them. No condition.
-/
import Derived.Test.YtphpllachnhfbaaGreatF29
import Derived.Test.YtphpllachnhfbaaGreatF9
namespace Go.Proofs.YtphpllachnhfbaaGreat
set_option linter.unusedVariables false

theorem Fld.num {x : En} (h : Fld x) : 3 ≤ x.p ∧ x.p % 2 = 1 ∧ x.p < 9223372036854775808 := by
  obtain ⟨h1, h2, h3⟩ := h.gd
  exact ⟨by omega, h1, h3⟩
theorem pw_next (w p i : Nat) : w * (w ^ i % p) % p = w ^ (i + 1) % p := by rw [Nat.mul_mod_mod, Nat.mul_comm, ← Nat.pow_succ]
theorem pw_next' (w p i : Nat) : (w ^ i % p) * w % p = w ^ (i + 1) % p := by rw [Nat.mod_mul_mod, ← Nat.pow_succ]
/-- The first n powers. -/
def pws (w p n : Nat) : List Nat := (List.range n).map fun i => w ^ i % p
theorem pws_len (w p n : Nat) : (pws w p n).length = n := by simp [pws]
theorem pws_get {w p n i : Nat} (h : i < n) : (pws w p n)[i]? = some (w ^ i % p) := by
  unfold pws; rw [List.getElem?_map, List.getElem?_range h]; rfl
theorem pws_getD {w p n i : Nat} (h : i < n) : (pws w p n).getD i 0 = w ^ i % p := by
  rw [List.getD_eq_getElem?_getD, pws_get h]; rfl
theorem pws_lt {w p n : Nat} (hp : 0 < p) : ∀ x ∈ pws w p n, x < p := fun x hx => by
  obtain ⟨i, _, rfl⟩ := List.mem_map.1 hx
  exact Nat.mod_lt _ hp
theorem pws_succ (w p n : Nat) : pws w p (n + 1) = pws w p n ++ [w ^ n % p] := by unfold pws; rw [List.range_succ]; simp

/-! ### Tables -/
/-- The numbers go round: each is the one before, times the second one; the first is 1, and comes again behind the last. -/
def Goes (p : Nat) (t : List Nat) : Prop := t.getD 0 0 = 1 ∧ ∀ i, i < t.length → t.getD ((i + 1) % t.length) 0 = t.getD (1 % t.length) 0 * t.getD i 0 % p
def HasO (t : List Nat) : Prop := ∀ q ∈ pf t.length, t.getD (t.length / q) 0 ≠ 1
def DocR (p : Nat) (t : List Nat) : Prop := t.getD 0 0 = 1 ∧ (∀ i, i < t.length → t.getD i 0 = (t.getD (1 % t.length) 0) ^ i % p ∧ (0 < i → (t.getD (1 % t.length) 0) ^ i % p ≠ 1)) ∧ (t.getD (1 % t.length) 0) ^ t.length % p = 1
theorem right_iff {p : Nat} (h2 : 2 ≤ p) {t : List Nat} (hn : 1 ≤ t.length) : (Goes p t ∧ HasO t) ↔ DocR p t := by
  have h1p : 1 % p = 1 := Nat.mod_eq_of_lt (by omega)
  obtain ⟨n, en⟩ : ∃ n, t.length = n := ⟨_, rfl⟩
  unfold Goes HasO DocR
  rw [en] at hn ⊢
  obtain ⟨w, ew⟩ : ∃ w, t.getD (1 % n) 0 = w := ⟨_, rfl⟩
  rw [ew]
  constructor
  · rintro ⟨⟨h0, hs⟩, ho⟩
    have hi : ∀ i, i < n → t.getD i 0 = w ^ i % p := by
      intro i
      induction i with
      | zero => intro _; rw [h0, Nat.pow_zero, h1p]
      | succ i ih =>
        intro h
        have := hs i (by omega)
        rw [Nat.mod_eq_of_lt h, ih (by omega), pw_next] at this
        exact this
    have hl : w ^ n % p = 1 := by
      have := hs (n - 1) (by omega)
      rw [show n - 1 + 1 = n by omega, Nat.mod_self, h0, hi (n - 1) (by omega), pw_next, show n - 1 + 1 = n by omega] at this
      exact this.symm
    refine ⟨h0, fun i h => ⟨hi i h, fun hp he => ?_⟩, hl⟩
    have hg := pow_gcd w p i n (by rw [h1p]; exact he) (by rw [h1p]; exact hl)
    have hgi := Nat.le_of_dvd hp (Nat.gcd_dvd_left i n)
    obtain ⟨m, hm⟩ := Nat.gcd_dvd_right i n
    have hg0 : 0 < Nat.gcd i n := Nat.gcd_pos_of_pos_left _ hp
    obtain ⟨d, hd⟩ : ∃ d, Nat.gcd i n = d := ⟨_, rfl⟩
    rw [hd] at hg hgi hm hg0
    have hm2 : 2 ≤ m := by
      rcases Nat.lt_or_ge m 2 with hlt | hge
      · have : m = 0 ∨ m = 1 := by omega
        rcases this with rfl | rfl
        · omega
        · omega
      · exact hge
    obtain ⟨q, hq, r, hr⟩ := has_prime m hm2
    have hq2 := hq.1
    have hnq : n / q = d * r := by
      rw [hm, hr, Nat.mul_left_comm, Nat.mul_div_cancel_left _ (by omega)]
    have hlt : n / q < n := Nat.div_lt_self (by omega) hq2
    refine ho q ((mem_pf hn).2 ⟨hq, d * r, by rw [hm, hr, Nat.mul_left_comm]⟩) ?_
    rw [hi _ hlt, hnq, pow_one_mul w p d r hg, h1p]
  · rintro ⟨h0, hi, hl⟩
    refine ⟨⟨h0, fun i h => ?_⟩, fun q hq => ?_⟩
    · rw [(hi i h).1, pw_next]
      by_cases e : i + 1 = n
      · rw [e, Nat.mod_self, h0, hl]
      · rw [Nat.mod_eq_of_lt (by omega), (hi _ (by omega)).1]
    · obtain ⟨pq, dq⟩ := (mem_pf hn).1 hq
      have hq2 := pq.1
      have hlt : n / q < n := Nat.div_lt_self (by omega) hq2
      have hpos : 0 < n / q := Nat.div_pos (Nat.le_of_dvd (by omega) dq) (by omega)
      rw [(hi _ hlt).1]
      exact (hi _ hlt).2 hpos
/-- A number of order n. -/
def OrdN (w p n : Nat) : Prop := ∀ k, w ^ k % p = 1 ↔ k % n = 0
theorem pws_docR {w p n : Nat} (h2 : 2 ≤ p) (hn : 1 ≤ n) (ho : OrdN w p n) : DocR p (pws w p n) := by
  have h1p : 1 % p = 1 := Nat.mod_eq_of_lt (by omega)
  have hn1 : w ^ n % p = 1 := (ho n).2 (Nat.mod_self _)
  unfold DocR
  rw [pws_len]
  refine ⟨by rw [pws_getD (by omega), Nat.pow_zero, h1p], fun i h => ?_, ?_⟩
  · rw [pws_getD (Nat.mod_lt _ (by omega)), pws_getD h, ← Nat.pow_mod]
    by_cases e : n = 1
    · subst e
      obtain rfl : i = 0 := by omega
      exact ⟨by rw [Nat.pow_zero, Nat.pow_zero], fun h => absurd h (by omega)⟩
    · rw [Nat.mod_eq_of_lt (show 1 < n by omega), Nat.pow_one]
      exact ⟨rfl, fun hp he => by have := (ho i).1 he; rw [Nat.mod_eq_of_lt h] at this; omega⟩
  · rw [pws_getD (Nat.mod_lt _ (by omega)), ← Nat.pow_mod]
    by_cases e : n = 1
    · subst e
      rw [Nat.mod_self, Nat.pow_zero, Nat.one_pow, h1p]
    · rw [Nat.mod_eq_of_lt (show 1 < n by omega), Nat.pow_one]; exact hn1

/-! ### Roots -/
def rootN (p g n : Nat) : Nat := g ^ ((p - 1) / n) % p
theorem rootN_ord {x : En} (hF : Fld x) {n : Nat} (h1 : 1 ≤ n) (h : (x.p - 1) % n = 0) : OrdN (rootN x.p x.g n) x.p n := by
  obtain ⟨l, hl⟩ := hF.luc
  exact fun k => root_order hl n k h1 h
theorem rootN_lt {x : En} (hF : Fld x) (n : Nat) : rootN x.p x.g n < x.p := Nat.mod_lt _ (by have := hF.num; omega)
theorem OrdN.mod {w p n : Nat} (h : OrdN w p n) (k : Nat) : w ^ k % p = w ^ (k % n) % p := by
  by_cases hp : 2 ≤ p
  · have h1p : 1 % p = 1 := Nat.mod_eq_of_lt (by omega)
    have := pow_one_add w p (n * (k / n)) (k % n) (by rw [h1p]; exact (h _).2 (Nat.mul_mod_right _ _))
    rw [Nat.div_add_mod] at this
    exact this
  · have : p = 0 ∨ p = 1 := by omega
    rcases this with rfl | rfl
    · by_cases hn : n = 0
      · subst hn; simp
      · have e := (h n).2 (Nat.mod_self _)
        rw [Nat.mod_zero] at e
        have hw : w = 1 := by
          rcases Nat.lt_trichotomy w 1 with h' | h' | h'
          · obtain rfl : w = 0 := by omega
            rw [Nat.zero_pow (by omega)] at e; omega
          · exact h'
          · have := Nat.one_lt_pow (n := n) (by omega) h'; omega
        subst hw; simp
    · have := (h 0).2 (Nat.zero_mod _); omega
theorem OrdN.ne {w p n : Nat} (h : OrdN w p n) (hn : 1 ≤ n) : w % p ≠ 0 := fun e => by
  have h1 := (h n).2 (Nat.mod_self _)
  rw [Nat.pow_mod, e, Nat.zero_pow (by omega)] at h1
  simp at h1
/-- What makes 1 with a number of order n: its power of n - 1; of the same order. -/
theorem inv_root {w p n v : Nat} (hp : Prm p) (h : OrdN w p n) (hn : 1 ≤ n) (hv : IsInv w p v) : v = w ^ (n - 1) % p := by
  have h2 := hp.1
  refine inv_unique hv.lt (Nat.mod_lt _ (by omega)) (hv.yes (h.ne hn)) ?_
  rw [pw_next, show n - 1 + 1 = n by omega]
  exact (h n).2 (Nat.mod_self _)
theorem inv_pow {w p n v : Nat} (hp : Prm p) (h : OrdN w p n) (hn : 1 ≤ n) (hv : IsInv w p v) {i : Nat} (hi : i < n) : v ^ i % p = w ^ ((n - i) % n) % p := by
  rw [inv_root hp h hn hv, ← Nat.pow_mod, ← Nat.pow_mul, h.mod, h.mod ((n - i) % n), Nat.mod_mod]
  congr 2
  have e : (n - 1) * i + i = n * i := by rw [← Nat.succ_mul, Nat.succ_eq_add_one, show n - 1 + 1 = n by omega]
  by_cases h0 : i = 0
  · subst h0; simp
  · have e2 : (n - 1) * i = n * (i - 1) + (n - i) := by
      have e3 : n * i = n * (i - 1) + n := by rw [← Nat.mul_succ, Nat.succ_eq_add_one, show i - 1 + 1 = i by omega]
      omega
    rw [e2, Nat.mul_add_mod]
theorem inv_ord {w p n v : Nat} (hp : Prm p) (h : OrdN w p n) (hn : 1 ≤ n) (hv : IsInv w p v) : OrdN v p n := fun k => by
  have h2 := hp.1
  have h1p : 1 % p = 1 := Nat.mod_eq_of_lt (by omega)
  have e : w ^ k * v ^ k % p = 1 := by rw [← Nat.mul_pow, Nat.pow_mod, hv.yes (h.ne hn), Nat.one_pow, h1p]
  rw [← h k]
  constructor
  · intro he; rw [Nat.mul_mod, he, Nat.mul_one, Nat.mod_mod] at e; exact e
  · intro he; rw [Nat.mul_mod, he, Nat.one_mul, Nat.mod_mod] at e; exact e
theorem both_one {w p n v : Nat} (hp : Prm p) (h : OrdN w p n) (hn : 1 ≤ n) (hv : IsInv w p v) (i : Nat) : (w ^ i % p) * (v ^ i % p) % p = 1 := by
  have h2 := hp.1
  rw [← Nat.mul_mod, ← Nat.mul_pow, Nat.pow_mod, hv.yes (h.ne hn), Nat.one_pow, Nat.mod_eq_of_lt (by omega)]
/-- Each second power of the root of order 2 n is one of the root of order n; n further on is the opposite. -/
theorem half_second {p g n : Nat} (hn : 1 ≤ n) (h : (p - 1) % (2 * n) = 0) (i : Nat) : rootN p g (2 * n) ^ (2 * i) % p = rootN p g n ^ i % p := by
  obtain ⟨e, _⟩ := tree_pow (p := p) (g := g) 2 n (by omega) hn h
  unfold rootN
  rw [Nat.pow_mul, Nat.pow_mod, e]
theorem half_divides {p n : Nat} (hn : 1 ≤ n) (h : (p - 1) % (2 * n) = 0) : (p - 1) % n = 0 := by
  obtain ⟨c, hc⟩ := Nat.dvd_of_mod_eq_zero h
  rw [hc, Nat.mul_comm 2 n, Nat.mul_assoc]; exact Nat.mul_mod_right _ _
theorem half_neg {x : En} (hF : Fld x) {n : Nat} (hn : 1 ≤ n) (h : (x.p - 1) % (2 * n) = 0) (i : Nat) : rootN x.p x.g (2 * n) ^ (i + n) % x.p = negN (rootN x.p x.g (2 * n) ^ i % x.p) x.p := by
  have hp := hF.prm
  have h3 := hF.num.1
  have ho := rootN_ord hF (n := 2 * n) (by omega) h
  obtain ⟨w, hw⟩ : ∃ w, rootN x.p x.g (2 * n) = w := ⟨_, rfl⟩
  obtain ⟨p, ep⟩ : ∃ p, x.p = p := ⟨_, rfl⟩
  rw [hw, ep] at ho ⊢
  rw [ep] at hp h3
  have hne : w ^ n % p ≠ 1 := fun e => by
    have := (ho n).1 e
    rw [Nat.mod_eq_of_lt (by omega)] at this; omega
  have hsq : w ^ n * w ^ n % p = 1 := by
    rw [← Nat.pow_add, show n + n = 2 * n by omega]; exact (ho _).2 (Nat.mod_self _)
  have hm : w ^ n % p = p - 1 := by
    rcases hp.self_inv _ hsq with h | h
    · exact absurd h hne
    · exact h
  rw [Nat.pow_add, Nat.mul_mod, hm]
  obtain ⟨a, ha⟩ : ∃ a, w ^ i % p = a := ⟨_, rfl⟩
  have hal : a < p := ha ▸ Nat.mod_lt _ (by omega)
  rw [ha]
  unfold negN
  rw [Nat.mod_eq_of_lt hal]
  have e : a * (p - 1) + a = a * p := by rw [← Nat.mul_succ, Nat.succ_eq_add_one, show p - 1 + 1 = p by omega]
  by_cases h0 : a = 0
  · subst h0; simp
  · have e2 : a * (p - 1) = (p - a) + p * (a - 1) := by
      have e3 : a * p = p * (a - 1) + p := by rw [← Nat.mul_succ, Nat.succ_eq_add_one, show a - 1 + 1 = a by omega, Nat.mul_comm]
      omega
    rw [e2, Nat.add_mul_mod_self_left]
end Go.Proofs.YtphpllachnhfbaaGreat

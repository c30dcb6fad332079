/-
  Plain mathematics of layer 5: trials, how often a prime divides a number, the prime factors of a number in their order, and how many they may be.
-/
import Derived.Test.YtafmmkhegkceiaaPfD
import Derived.Test.YtafmmkhegkceiaaLucas
namespace Go.Proofs.Ytafmmkhegkceiaa

noncomputable def prmB (n : Nat) : Bool := @decide (Prm n) (Classical.propDecidable _)
theorem prmB_iff {n : Nat} : prmB n = true ↔ Prm n := by unfold prmB; exact @decide_eq_true_iff _ (Classical.propDecidable _)
theorem prmB_not {n : Nat} : prmB n = false ↔ ¬ Prm n := by rw [← prmB_iff]; simp
theorem prmB_yes {n : Nat} (h : Prm n) : prmB n = true := prmB_iff.2 h
theorem prmB_no {n : Nat} (h : ¬ Prm n) : prmB n = false := prmB_not.2 h

theorem has_prime : ∀ n, 2 ≤ n → ∃ q, Prm q ∧ q ∣ n := by
  intro n
  induction n using Nat.strongRecOn with
  | ind n ih =>
    intro h
    by_cases hp : Prm n
    · exact ⟨n, hp, Nat.dvd_refl _⟩
    · have : ∃ d, d ∣ n ∧ d ≠ 1 ∧ d ≠ n := by
        apply Classical.byContradiction; intro hn
        apply hp; refine ⟨h, fun d hd => ?_⟩
        apply Classical.byContradiction; intro h2
        exact hn ⟨d, hd, fun e => h2 (Or.inl e), fun e => h2 (Or.inr e)⟩
      obtain ⟨d, hd, h1, h2⟩ := this
      have hle := Nat.le_of_dvd (by omega) hd
      have hpos := Nat.pos_of_dvd_of_pos hd (by omega)
      obtain ⟨q, hq, hqd⟩ := ih d (by omega) (by omega)
      exact ⟨q, hq, Nat.dvd_trans hqd hd⟩
/-- What divides, and no prime below it does: it is a prime. -/
theorem prm_of_least {q n : Nat} (h2 : 2 ≤ q) (hd : q ∣ n) (h : ∀ r, Prm r → r < q → ¬ r ∣ n) : Prm q := by
  obtain ⟨r, hr, hrq⟩ := has_prime q h2
  have hle := Nat.le_of_dvd (by omega) hrq
  by_cases e : r = q
  · exact e ▸ hr
  · exact absurd (Nat.dvd_trans hrq hd) (h r hr (by omega))
/-- No prime up to the root divides it: it is a prime. -/
theorem prm_of_root {n d : Nat} (h2 : 2 ≤ n) (hd : n < d * d) (h : ∀ r, Prm r → r < d → ¬ r ∣ n) : Prm n := by
  obtain ⟨r, hr, k, hk⟩ := has_prime n h2
  by_cases h1 : k < 2
  · have : k = 1 := by
      rcases Nat.lt_or_ge 0 k with h | h
      · omega
      · have : k = 0 := by omega
        subst this; rw [Nat.mul_zero] at hk; omega
    subst this; rw [Nat.mul_one] at hk; exact hk ▸ hr
  · exfalso
    have hrd : d ≤ r := Nat.le_of_not_lt fun hl => h r hr hl ⟨k, hk⟩
    obtain ⟨s, hs, hsk⟩ := has_prime k (by omega)
    have hsd : d ≤ s := Nat.le_of_not_lt fun hl => h s hs hl (Nat.dvd_trans hsk ⟨r, by rw [hk, Nat.mul_comm]⟩)
    have h3 := Nat.le_of_dvd (by omega) hsk
    have h4 := Nat.mul_le_mul hrd (Nat.le_trans hsd h3)
    omega
theorem not_prm_dvd {n d : Nat} (h2 : 2 ≤ d) (hl : d < n) (hd : n % d = 0) : ¬ Prm n := fun h => h.no_div d h2 hl hd

/-! ### How often a number divides another -/
def vpF : Nat → Nat → Nat → Nat
  | 0, _, _ => 0
  | f + 1, q, n => if n % q = 0 then vpF f q (n / q) + 1 else 0
def vp (q n : Nat) : Nat := vpF n q n
theorem vpF_eq {q : Nat} (hq : 2 ≤ q) {m : Nat} (hm : ¬ q ∣ m) : ∀ (e f : Nat), e ≤ f → vpF f q (q ^ e * m) = e
  | 0, 0, _ => rfl
  | 0, f + 1, _ => by
    rw [vpF, if_neg]
    intro h
    rw [Nat.pow_zero, Nat.one_mul] at h
    exact hm (Nat.dvd_of_mod_eq_zero h)
  | e + 1, f + 1, h => by
    have e1 : q ^ (e + 1) * m = q * (q ^ e * m) := by rw [Nat.pow_succ, Nat.mul_comm (q ^ e) q, Nat.mul_assoc]
    rw [vpF, e1, Nat.mul_mod_right, if_pos rfl, Nat.mul_div_cancel_left _ (by omega), vpF_eq hq hm e f (by omega)]
theorem lt_pow {q : Nat} (hq : 2 ≤ q) : ∀ e, e < q ^ e
  | 0 => by simp
  | e + 1 => by
    have := lt_pow hq e
    rw [Nat.pow_succ]
    have h2 : q ^ e * 2 ≤ q ^ e * q := Nat.mul_le_mul_left _ hq
    omega
theorem vp_eq {q n e m : Nat} (hq : 2 ≤ q) (hn : n = q ^ e * m) (hm : ¬ q ∣ m) : vp q n = e := by
  unfold vp
  have hm0 : 0 < m := Nat.pos_of_ne_zero fun h => hm (h ▸ Nat.dvd_zero q)
  have : e ≤ n := by
    have h1 := lt_pow hq e
    have h2 : q ^ e * 1 ≤ q ^ e * m := Nat.mul_le_mul_left _ hm0
    omega
  conv => lhs; arg 3; rw [hn]
  exact vpF_eq hq hm e n this
theorem vp_ex (q : Nat) (hq : 2 ≤ q) : ∀ n, 1 ≤ n → ∃ m, n = q ^ (vp q n) * m ∧ ¬ q ∣ m := by
  have key : ∀ n, 1 ≤ n → ∃ e m, n = q ^ e * m ∧ ¬ q ∣ m := by
    intro n
    induction n using Nat.strongRecOn with
    | ind n ih =>
      intro h
      by_cases hd : q ∣ n
      · obtain ⟨k, hk⟩ := hd
        have hk0 : 0 < k := Nat.pos_of_ne_zero fun e => by subst e; rw [Nat.mul_zero] at hk; omega
        have hlt : k < n := by
          have : 2 * k ≤ q * k := Nat.mul_le_mul_right _ hq
          omega
        obtain ⟨e, m, he, hm⟩ := ih k hlt hk0
        exact ⟨e + 1, m, by rw [hk, he, Nat.pow_succ, Nat.mul_comm (q ^ e) q, Nat.mul_assoc], hm⟩
      · exact ⟨0, n, by rw [Nat.pow_zero, Nat.one_mul], hd⟩
  intro n h
  obtain ⟨e, m, he, hm⟩ := key n h
  rw [vp_eq hq he hm]
  exact ⟨m, he, hm⟩
theorem vp_zero {q n : Nat} (hq : 2 ≤ q) (h : ¬ q ∣ n) : vp q n = 0 := vp_eq (m := n) hq (by rw [Nat.pow_zero, Nat.one_mul]) h
theorem vp_mul {q n : Nat} (hq : 2 ≤ q) (hn : 1 ≤ n) : vp q (q * n) = vp q n + 1 := by
  obtain ⟨m, he, hm⟩ := vp_ex q hq n hn
  exact vp_eq (m := m) hq (by rw [Nat.pow_succ, Nat.mul_comm (q ^ vp q n) q, Nat.mul_assoc, ← he]) hm
theorem vp_other {q r n : Nat} (hr : Prm r) (hq : Prm q) (hne : r ≠ q) (hn : 1 ≤ n) : vp r (q * n) = vp r n := by
  obtain ⟨m, he, hm⟩ := vp_ex r hr.1 n hn
  refine vp_eq (m := q * m) hr.1 (by rw [← Nat.mul_assoc, Nat.mul_comm (r ^ vp r n) q, Nat.mul_assoc, ← he]) fun hd => ?_
  rcases hr.prod _ _ (Nat.mod_eq_zero_of_dvd hd) with h | h
  · rcases hq.2 r (Nat.dvd_of_mod_eq_zero h) with h | h
    · have := hr.1; omega
    · exact hne h
  · exact hm (Nat.dvd_of_mod_eq_zero h)
theorem vp_pos {q n : Nat} (hq : 2 ≤ q) (hn : 1 ≤ n) : 0 < vp q n ↔ q ∣ n := by
  constructor
  · intro h
    exact Classical.byContradiction fun hd => by rw [vp_zero hq hd] at h; omega
  · rintro ⟨k, hk⟩
    have hk0 : 1 ≤ k := Nat.pos_of_ne_zero fun e => by subst e; rw [Nat.mul_zero] at hk; omega
    rw [hk, vp_mul hq hk0]; omega
theorem vp_one {q : Nat} (hq : 2 ≤ q) : vp q 1 = 0 := vp_zero hq fun h => by have := Nat.le_of_dvd (by omega) h; omega

/-! ### Lists that rise -/
theorem sorted_ext : ∀ {l1 l2 : List Nat}, l1.Pairwise (· < ·) → l2.Pairwise (· < ·) → (∀ x, x ∈ l1 ↔ x ∈ l2) → l1 = l2
  | [], [], _, _, _ => rfl
  | [], b :: l2, _, _, h => absurd ((h b).2 (by simp)) (by simp)
  | a :: l1, [], _, _, h => absurd ((h a).1 (by simp)) (by simp)
  | a :: l1, b :: l2, h1, h2, h => by
    rw [List.pairwise_cons] at h1 h2
    have hab : a = b := by
      have ha := (h a).1 (by simp)
      have hb := (h b).2 (by simp)
      rw [List.mem_cons] at ha hb
      rcases ha with ha | ha
      · exact ha
      · rcases hb with hb | hb
        · exact hb.symm
        · have := h2.1 a ha; have := h1.1 b hb; omega
    subst hab
    congr 1
    refine sorted_ext h1.2 h2.2 fun x => ?_
    have hx := h x
    rw [List.mem_cons, List.mem_cons] at hx
    constructor
    · intro hm
      rcases hx.1 (Or.inr hm) with e | e
      · have := h1.1 x hm; omega
      · exact e
    · intro hm
      rcases hx.2 (Or.inr hm) with e | e
      · have := h2.1 x hm; omega
      · exact e

/-! ### The prime factors -/
noncomputable def isPf (n q : Nat) : Bool := prmB q && n % q == 0
theorem isPf_iff {n q : Nat} : isPf n q = true ↔ Prm q ∧ q ∣ n := by
  unfold isPf
  rw [Bool.and_eq_true, prmB_iff, beq_iff_eq]
  exact ⟨fun ⟨a, b⟩ => ⟨a, Nat.dvd_of_mod_eq_zero b⟩, fun ⟨a, b⟩ => ⟨a, Nat.mod_eq_zero_of_dvd b⟩⟩
noncomputable def pf (n : Nat) : List Nat := (List.range (n + 1)).filter (isPf n)
theorem mem_pf {n q : Nat} (hn : 1 ≤ n) : q ∈ pf n ↔ Prm q ∧ q ∣ n := by
  unfold pf
  rw [List.mem_filter, List.mem_range, isPf_iff]
  exact ⟨fun ⟨_, h⟩ => h, fun h => ⟨by have := Nat.le_of_dvd hn h.2; omega, h⟩⟩
theorem pf_sorted (n : Nat) : (pf n).Pairwise (· < ·) := List.Pairwise.filter _ List.pairwise_lt_range
/-- The factors, each with how often it is one. -/
noncomputable def facOf (n : Nat) : List Pw := (pf n).map fun q => ⟨q, (vp q n : Nat)⟩

/-! ### How many there may be -/
def prodL : List Nat → Nat
  | [] => 1
  | a :: l => a * prodL l
def rise : Nat → Nat → Nat
  | _, 0 => 1
  | b, k + 1 => (b + 1) * rise (b + 1) k
theorem rise_le : ∀ (l : List Nat) (b : Nat), l.Pairwise (· < ·) → (∀ x ∈ l, b < x) → rise b l.length ≤ prodL l
  | [], _, _, _ => Nat.le_refl _
  | a :: l, b, h, hb => by
    rw [List.pairwise_cons] at h
    have ha := hb a (by simp)
    show (b + 1) * rise (b + 1) l.length ≤ a * prodL l
    exact Nat.mul_le_mul ha (rise_le l (b + 1) h.2 fun x hx => by have := h.1 x hx; omega)
theorem rise_mono : ∀ (k j b : Nat), rise b k ≤ rise b (k + j)
  | 0, 0, _ => Nat.le_refl _
  | 0, j + 1, b => by
    have := rise_mono 0 j (b + 1)
    rw [Nat.zero_add] at this ⊢
    show 1 ≤ (b + 1) * rise (b + 1) j
    have h1 : 1 ≤ rise (b + 1) j := this
    exact Nat.mul_le_mul (show 1 ≤ b + 1 by omega) h1
  | k + 1, j, b => by
    rw [show k + 1 + j = (k + j) + 1 by omega]
    exact Nat.mul_le_mul_left _ (rise_mono k j (b + 1))
theorem prodL_dvd {n : Nat} : ∀ (l : List Nat), l.Pairwise (· < ·) → (∀ x ∈ l, Prm x ∧ x ∣ n) → prodL l ∣ n
  | [], _, _ => Nat.one_dvd _
  | a :: l, h, hp => by
    rw [List.pairwise_cons] at h
    have hl := prodL_dvd l h.2 fun x hx => hp x (by simp [hx])
    obtain ⟨pa, da⟩ := hp a (by simp)
    have hc : ∀ (l : List Nat), (∀ x ∈ l, Prm x ∧ a < x) → Nat.Coprime a (prodL l) := by
      intro l
      induction l with
      | nil => intro _; exact Nat.coprime_one_right a
      | cons x l ih =>
        intro hx
        obtain ⟨px, ax⟩ := hx x (by simp)
        refine Nat.Coprime.mul_right ?_ (ih fun y hy => hx y (by simp [hy]))
        refine pa.coprime fun hd => ?_
        rcases px.2 a hd with e | e
        · have := pa.1; omega
        · omega
    exact Nat.Coprime.mul_dvd_of_dvd_of_dvd (hc l fun x hx => ⟨(hp x (by simp [hx])).1, h.1 x hx⟩) da hl
theorem few_primes {n : Nat} (hn : 1 ≤ n) (hle : n ≤ 4294967296) (l : List Nat) (h : l.Pairwise (· < ·)) (hp : ∀ x ∈ l, Prm x ∧ x ∣ n) : l.length ≤ 11 := by
  have h1 := rise_le l 1 h fun x hx => (hp x hx).1.1
  have h2 := Nat.le_of_dvd hn (prodL_dvd l h hp)
  refine Nat.le_of_not_lt fun hl => ?_
  have h3 := rise_mono 12 (l.length - 12) 1
  rw [show 12 + (l.length - 12) = l.length by omega] at h3
  have h4 : rise 1 12 = 6227020800 := by decide
  omega
theorem pf_few {n : Nat} (hn : 1 ≤ n) (hle : n ≤ 4294967296) : (pf n).length ≤ 11 := few_primes hn hle _ (pf_sorted n) fun _ hx => (mem_pf hn).1 hx
end Go.Proofs.Ytafmmkhegkceiaa

/-
  Plain mathematics of layer 5: trials, how often a prime divides a number, the prime factors of a number in their order, and how many they may be.
-/
import Derived.Test.YtpjfapibjihbbaaGreatDoorF1
import Derived.Test.YtpjfapibjihbbaaGreatDoorF3
import Derived.Laws.OwnMore
import Derived.Maps.AppendAt
import Derived.Lib.HexFns
namespace Go.Proofs.YtpjfapibjihbbaaGreatDoor

noncomputable def prmB (n : Nat) : Bool := @decide (Prm n) (Classical.propDecidable _)
theorem prmB_iff {n : Nat} : prmB n = true ↔ Prm n := by unfold prmB; exact @decide_eq_true_iff _ (Classical.propDecidable _)
theorem prmB_not {n : Nat} : prmB n = false ↔ ¬ Prm n := by rw [← prmB_iff]; simp
theorem prmB_yes {n : Nat} (h : Prm n) : prmB n = true := prmB_iff.2 h
theorem prmB_no {n : Nat} (h : ¬ Prm n) : prmB n = false := prmB_not.2 h

theorem has_prime : ∀ n, 2 ≤ n → ∃ q, Prm q ∧ q ∣ n := by
  intro n
  induction n using Nat.strongRecOn with
  | ind n ih =>
    intro h
    by_cases hp : Prm n
    · exact ⟨n, hp, Nat.dvd_refl _⟩
    · have : ∃ d, d ∣ n ∧ d ≠ 1 ∧ d ≠ n := by
        apply Classical.byContradiction; intro hn
        apply hp; refine ⟨h, fun d hd => ?_⟩
        apply Classical.byContradiction; intro h2
        exact hn ⟨d, hd, fun e => h2 (Or.inl e), fun e => h2 (Or.inr e)⟩
      obtain ⟨d, hd, h1, h2⟩ := this
      have hle := Nat.le_of_dvd (by omega) hd
      have hpos := Nat.pos_of_dvd_of_pos hd (by omega)
      obtain ⟨q, hq, hqd⟩ := ih d (by omega) (by omega)
      exact ⟨q, hq, Nat.dvd_trans hqd hd⟩
/-- What divides, and no prime below it does: it is a prime. -/
theorem prm_of_least {q n : Nat} (h2 : 2 ≤ q) (hd : q ∣ n) (h : ∀ r, Prm r → r < q → ¬ r ∣ n) : Prm q := by
  obtain ⟨r, hr, hrq⟩ := has_prime q h2
  have hle := Nat.le_of_dvd (by omega) hrq
  by_cases e : r = q
  · exact e ▸ hr
  · exact absurd (Nat.dvd_trans hrq hd) (h r hr (by omega))
/-- No prime up to the root divides it: it is a prime. -/
theorem prm_of_root {n d : Nat} (h2 : 2 ≤ n) (hd : n < d * d) (h : ∀ r, Prm r → r < d → ¬ r ∣ n) : Prm n := by
  obtain ⟨r, hr, k, hk⟩ := has_prime n h2
  by_cases h1 : k < 2
  · have : k = 1 := by
      rcases Nat.lt_or_ge 0 k with h | h
      · omega
      · have : k = 0 := by omega
        subst this; rw [Nat.mul_zero] at hk; omega
    subst this; rw [Nat.mul_one] at hk; exact hk ▸ hr
  · exfalso
    have hrd : d ≤ r := Nat.le_of_not_lt fun hl => h r hr hl ⟨k, hk⟩
    obtain ⟨s, hs, hsk⟩ := has_prime k (by omega)
    have hsd : d ≤ s := Nat.le_of_not_lt fun hl => h s hs hl (Nat.dvd_trans hsk ⟨r, by rw [hk, Nat.mul_comm]⟩)
    have h3 := Nat.le_of_dvd (by omega) hsk
    have h4 := Nat.mul_le_mul hrd (Nat.le_trans hsd h3)
    omega
theorem not_prm_dvd {n d : Nat} (h2 : 2 ≤ d) (hl : d < n) (hd : n % d = 0) : ¬ Prm n := fun h => h.no_div d h2 hl hd

/-! ### How often a number divides another -/
def vpF : Nat → Nat → Nat → Nat
  | 0, _, _ => 0
  | f + 1, q, n => if n % q = 0 then vpF f q (n / q) + 1 else 0
def vp (q n : Nat) : Nat := vpF n q n
theorem vpF_eq {q : Nat} (hq : 2 ≤ q) {m : Nat} (hm : ¬ q ∣ m) : ∀ (e f : Nat), e ≤ f → vpF f q (q ^ e * m) = e
  | 0, 0, _ => rfl
  | 0, f + 1, _ => by
    rw [vpF, if_neg]
    intro h
    rw [Nat.pow_zero, Nat.one_mul] at h
    exact hm (Nat.dvd_of_mod_eq_zero h)
  | e + 1, f + 1, h => by
    have e1 : q ^ (e + 1) * m = q * (q ^ e * m) := by rw [Nat.pow_succ, Nat.mul_comm (q ^ e) q, Nat.mul_assoc]
    rw [vpF, e1, Nat.mul_mod_right, if_pos rfl, Nat.mul_div_cancel_left _ (by omega), vpF_eq hq hm e f (by omega)]
theorem lt_pow {q : Nat} (hq : 2 ≤ q) : ∀ e, e < q ^ e
  | 0 => by simp
  | e + 1 => by
    have := lt_pow hq e
    rw [Nat.pow_succ]
    have h2 : q ^ e * 2 ≤ q ^ e * q := Nat.mul_le_mul_left _ hq
    omega
theorem vp_eq {q n e m : Nat} (hq : 2 ≤ q) (hn : n = q ^ e * m) (hm : ¬ q ∣ m) : vp q n = e := by
  unfold vp
  have hm0 : 0 < m := Nat.pos_of_ne_zero fun h => hm (h ▸ Nat.dvd_zero q)
  have : e ≤ n := by
    have h1 := lt_pow hq e
    have h2 : q ^ e * 1 ≤ q ^ e * m := Nat.mul_le_mul_left _ hm0
    omega
  conv => lhs; arg 3; rw [hn]
  exact vpF_eq hq hm e n this
theorem vp_ex (q : Nat) (hq : 2 ≤ q) : ∀ n, 1 ≤ n → ∃ m, n = q ^ (vp q n) * m ∧ ¬ q ∣ m := by
  have key : ∀ n, 1 ≤ n → ∃ e m, n = q ^ e * m ∧ ¬ q ∣ m := by
    intro n
    induction n using Nat.strongRecOn with
    | ind n ih =>
      intro h
      by_cases hd : q ∣ n
      · obtain ⟨k, hk⟩ := hd
        have hk0 : 0 < k := Nat.pos_of_ne_zero fun e => by subst e; rw [Nat.mul_zero] at hk; omega
        have hlt : k < n := by
          have : 2 * k ≤ q * k := Nat.mul_le_mul_right _ hq
          omega
        obtain ⟨e, m, he, hm⟩ := ih k hlt hk0
        exact ⟨e + 1, m, by rw [hk, he, Nat.pow_succ, Nat.mul_comm (q ^ e) q, Nat.mul_assoc], hm⟩
      · exact ⟨0, n, by rw [Nat.pow_zero, Nat.one_mul], hd⟩
  intro n h
  obtain ⟨e, m, he, hm⟩ := key n h
  rw [vp_eq hq he hm]
  exact ⟨m, he, hm⟩
theorem vp_zero {q n : Nat} (hq : 2 ≤ q) (h : ¬ q ∣ n) : vp q n = 0 := vp_eq (m := n) hq (by rw [Nat.pow_zero, Nat.one_mul]) h
theorem vp_mul {q n : Nat} (hq : 2 ≤ q) (hn : 1 ≤ n) : vp q (q * n) = vp q n + 1 := by
  obtain ⟨m, he, hm⟩ := vp_ex q hq n hn
  exact vp_eq (m := m) hq (by rw [Nat.pow_succ, Nat.mul_comm (q ^ vp q n) q, Nat.mul_assoc, ← he]) hm
theorem vp_other {q r n : Nat} (hr : Prm r) (hq : Prm q) (hne : r ≠ q) (hn : 1 ≤ n) : vp r (q * n) = vp r n := by
  obtain ⟨m, he, hm⟩ := vp_ex r hr.1 n hn
  refine vp_eq (m := q * m) hr.1 (by rw [← Nat.mul_assoc, Nat.mul_comm (r ^ vp r n) q, Nat.mul_assoc, ← he]) fun hd => ?_
  rcases hr.prod _ _ (Nat.mod_eq_zero_of_dvd hd) with h | h
  · rcases hq.2 r (Nat.dvd_of_mod_eq_zero h) with h | h
    · have := hr.1; omega
    · exact hne h
  · exact hm (Nat.dvd_of_mod_eq_zero h)
theorem vp_pos {q n : Nat} (hq : 2 ≤ q) (hn : 1 ≤ n) : 0 < vp q n ↔ q ∣ n := by
  constructor
  · intro h
    exact Classical.byContradiction fun hd => by rw [vp_zero hq hd] at h; omega
  · rintro ⟨k, hk⟩
    have hk0 : 1 ≤ k := Nat.pos_of_ne_zero fun e => by subst e; rw [Nat.mul_zero] at hk; omega
    rw [hk, vp_mul hq hk0]; omega
theorem vp_one {q : Nat} (hq : 2 ≤ q) : vp q 1 = 0 := vp_zero hq fun h => by have := Nat.le_of_dvd (by omega) h; omega

/-! ### Lists that rise -/
theorem sorted_ext : ∀ {l1 l2 : List Nat}, l1.Pairwise (· < ·) → l2.Pairwise (· < ·) → (∀ x, x ∈ l1 ↔ x ∈ l2) → l1 = l2
  | [], [], _, _, _ => rfl
  | [], b :: l2, _, _, h => absurd ((h b).2 (by simp)) (by simp)
  | a :: l1, [], _, _, h => absurd ((h a).1 (by simp)) (by simp)
  | a :: l1, b :: l2, h1, h2, h => by
    rw [List.pairwise_cons] at h1 h2
    have hab : a = b := by
      have ha := (h a).1 (by simp)
      have hb := (h b).2 (by simp)
      rw [List.mem_cons] at ha hb
      rcases ha with ha | ha
      · exact ha
      · rcases hb with hb | hb
        · exact hb.symm
        · have := h2.1 a ha; have := h1.1 b hb; omega
    subst hab
    congr 1
    refine sorted_ext h1.2 h2.2 fun x => ?_
    have hx := h x
    rw [List.mem_cons, List.mem_cons] at hx
    constructor
    · intro hm
      rcases hx.1 (Or.inr hm) with e | e
      · have := h1.1 x hm; omega
      · exact e
    · intro hm
      rcases hx.2 (Or.inr hm) with e | e
      · have := h2.1 x hm; omega
      · exact e

/-! ### The prime factors -/
noncomputable def isPf (n q : Nat) : Bool := prmB q && n % q == 0
theorem isPf_iff {n q : Nat} : isPf n q = true ↔ Prm q ∧ q ∣ n := by
  unfold isPf
  rw [Bool.and_eq_true, prmB_iff, beq_iff_eq]
  exact ⟨fun ⟨a, b⟩ => ⟨a, Nat.dvd_of_mod_eq_zero b⟩, fun ⟨a, b⟩ => ⟨a, Nat.mod_eq_zero_of_dvd b⟩⟩
noncomputable def pf (n : Nat) : List Nat := (List.range (n + 1)).filter (isPf n)
theorem mem_pf {n q : Nat} (hn : 1 ≤ n) : q ∈ pf n ↔ Prm q ∧ q ∣ n := by
  unfold pf
  rw [List.mem_filter, List.mem_range, isPf_iff]
  exact ⟨fun ⟨_, h⟩ => h, fun h => ⟨by have := Nat.le_of_dvd hn h.2; omega, h⟩⟩
theorem pf_sorted (n : Nat) : (pf n).Pairwise (· < ·) := List.Pairwise.filter _ List.pairwise_lt_range
/-- The factors, each with how often it is one. -/
noncomputable def facOf (n : Nat) : List Pw := (pf n).map fun q => ⟨q, (vp q n : Nat)⟩

/-! ### How many there may be -/
def prodL : List Nat → Nat
  | [] => 1
  | a :: l => a * prodL l
def rise : Nat → Nat → Nat
  | _, 0 => 1
  | b, k + 1 => (b + 1) * rise (b + 1) k
theorem rise_le : ∀ (l : List Nat) (b : Nat), l.Pairwise (· < ·) → (∀ x ∈ l, b < x) → rise b l.length ≤ prodL l
  | [], _, _, _ => Nat.le_refl _
  | a :: l, b, h, hb => by
    rw [List.pairwise_cons] at h
    have ha := hb a (by simp)
    show (b + 1) * rise (b + 1) l.length ≤ a * prodL l
    exact Nat.mul_le_mul ha (rise_le l (b + 1) h.2 fun x hx => by have := h.1 x hx; omega)
theorem rise_mono : ∀ (k j b : Nat), rise b k ≤ rise b (k + j)
  | 0, 0, _ => Nat.le_refl _
  | 0, j + 1, b => by
    have := rise_mono 0 j (b + 1)
    rw [Nat.zero_add] at this ⊢
    show 1 ≤ (b + 1) * rise (b + 1) j
    have h1 : 1 ≤ rise (b + 1) j := this
    exact Nat.mul_le_mul (show 1 ≤ b + 1 by omega) h1
  | k + 1, j, b => by
    rw [show k + 1 + j = (k + j) + 1 by omega]
    exact Nat.mul_le_mul_left _ (rise_mono k j (b + 1))
theorem prodL_dvd {n : Nat} : ∀ (l : List Nat), l.Pairwise (· < ·) → (∀ x ∈ l, Prm x ∧ x ∣ n) → prodL l ∣ n
  | [], _, _ => Nat.one_dvd _
  | a :: l, h, hp => by
    rw [List.pairwise_cons] at h
    have hl := prodL_dvd l h.2 fun x hx => hp x (by simp [hx])
    obtain ⟨pa, da⟩ := hp a (by simp)
    have hc : ∀ (l : List Nat), (∀ x ∈ l, Prm x ∧ a < x) → Nat.Coprime a (prodL l) := by
      intro l
      induction l with
      | nil => intro _; exact Nat.coprime_one_right a
      | cons x l ih =>
        intro hx
        obtain ⟨px, ax⟩ := hx x (by simp)
        refine Nat.Coprime.mul_right ?_ (ih fun y hy => hx y (by simp [hy]))
        refine pa.coprime fun hd => ?_
        rcases px.2 a hd with e | e
        · have := pa.1; omega
        · omega
    exact Nat.Coprime.mul_dvd_of_dvd_of_dvd (hc l fun x hx => ⟨(hp x (by simp [hx])).1, h.1 x hx⟩) da hl
theorem few_primes {n : Nat} (hn : 1 ≤ n) (hle : n ≤ 4294967296) (l : List Nat) (h : l.Pairwise (· < ·)) (hp : ∀ x ∈ l, Prm x ∧ x ∣ n) : l.length ≤ 11 := by
  have h1 := rise_le l 1 h fun x hx => (hp x hx).1.1
  have h2 := Nat.le_of_dvd hn (prodL_dvd l h hp)
  refine Nat.le_of_not_lt fun hl => ?_
  have h3 := rise_mono 12 (l.length - 12) 1
  rw [show 12 + (l.length - 12) = l.length by omega] at h3
  have h4 : rise 1 12 = 6227020800 := by decide
  omega
theorem pf_few {n : Nat} (hn : 1 ≤ n) (hle : n ≤ 4294967296) : (pf n).length ≤ 11 := few_primes hn hle _ (pf_sorted n) fun _ hx => (mem_pf hn).1 hx
end Go.Proofs.YtpjfapibjihbbaaGreatDoor
/-
  Plain mathematics of layer 5: Fermat's theorem, how many roots a polynomial may have modulo a prime, and that each odd prime has a number whose powers are all.
-/
namespace Go.Proofs.YtpjfapibjihbbaaGreatDoor

/-! ### The factors multiplied -/
def powsOf (n : Nat) (l : List Nat) : List (Nat × Nat) := l.map fun q => (q, vp q n)
theorem vp_pow_other {q r n : Nat} (hr : Prm r) (hq : Prm q) (hne : r ≠ q) (hn : 1 ≤ n) : ∀ e, vp r (q ^ e * n) = vp r n
  | 0 => by rw [Nat.pow_zero, Nat.one_mul]
  | e + 1 => by
    rw [Nat.pow_succ, Nat.mul_comm (q ^ e) q, Nat.mul_assoc, vp_other hr hq hne (Nat.mul_pos (Nat.pow_pos (by have := hq.1; omega)) hn), vp_pow_other hr hq hne hn e]
theorem strip {n : Nat} (hn : 1 ≤ n) : ∀ (l : List Nat), l.Pairwise (· < ·) → (∀ x ∈ l, Prm x) → ∃ m, n = prodOf (powsOf n l) * m ∧ (∀ q ∈ l, ¬ q ∣ m) ∧ ∀ r, Prm r → r ∉ l → vp r m = vp r n
  | [], _, _ => ⟨n, by simp [powsOf, prodOf], by simp, fun _ _ _ => rfl⟩
  | q :: l, h, hp => by
    rw [List.pairwise_cons] at h
    obtain ⟨m, hm, hd, hv⟩ := strip hn l h.2 fun x hx => hp x (by simp [hx])
    have pq := hp q (by simp)
    have hql : q ∉ l := fun hq => by have := h.1 q hq; omega
    have hm1 : 1 ≤ m := Nat.pos_of_ne_zero fun e => by rw [e, Nat.mul_zero] at hm; omega
    obtain ⟨k, hk, hqk⟩ := vp_ex q pq.1 m hm1
    rw [hv q pq hql] at hk
    have hk1 : 1 ≤ k := Nat.pos_of_ne_zero fun e => hqk (e ▸ Nat.dvd_zero q)
    refine ⟨k, ?_, ?_, ?_⟩
    · show n = q ^ vp q n * prodOf (powsOf n l) * k
      rw [Nat.mul_comm (q ^ vp q n), Nat.mul_assoc, ← hk]; exact hm
    · intro r hr
      rw [List.mem_cons] at hr
      rcases hr with rfl | hr
      · exact hqk
      · exact fun hd' => hd r hr (Nat.dvd_trans hd' ⟨q ^ vp q n, by rw [Nat.mul_comm]; exact hk⟩)
    · intro r pr hr
      rw [List.mem_cons] at hr
      rw [← hv r pr (fun h => hr (Or.inr h))]
      conv => rhs; rw [hk]
      exact (vp_pow_other pr pq (fun e => hr (Or.inl e)) hk1 _).symm
theorem prod_fac {n : Nat} (hn : 1 ≤ n) : prodOf (powsOf n (pf n)) = n := by
  obtain ⟨m, hm, hd, hv⟩ := strip hn (pf n) (pf_sorted n) fun x hx => ((mem_pf hn).1 hx).1
  have hm1 : 1 ≤ m := Nat.pos_of_ne_zero fun e => by rw [e, Nat.mul_zero] at hm; omega
  have : m = 1 := by
    refine Classical.byContradiction fun h => ?_
    obtain ⟨r, pr, hr⟩ := has_prime m (by omega)
    exact hd r ((mem_pf hn).2 ⟨pr, Nat.dvd_trans hr ⟨_, by rw [Nat.mul_comm]; exact hm⟩⟩) hr
  rw [this, Nat.mul_one] at hm
  exact hm.symm

/-! ### Fermat -/
theorem perm_of_sub : ∀ {l1 l2 : List Nat}, l1.Nodup → (∀ x ∈ l1, x ∈ l2) → l2.length ≤ l1.length → l1.Perm l2
  | [], l2, _, _, h => by
    have : l2 = [] := List.eq_nil_of_length_eq_zero (by simpa using h)
    rw [this]
  | a :: t, l2, hn, hs, hl => by
    rw [List.nodup_cons] at hn
    have ha : a ∈ l2 := hs a (by simp)
    have hp := List.perm_cons_erase ha
    have hlen : l2.length = (l2.erase a).length + 1 := by rw [hp.length_eq]; simp
    refine List.Perm.trans (List.Perm.cons a (perm_of_sub hn.2 (fun x hx => ?_) (by simp at hl; omega))) hp.symm
    have hxa : x ≠ a := fun e => hn.1 (by rw [← e]; exact hx)
    exact (List.mem_erase_of_ne hxa).2 (hs x (by simp [hx]))
theorem prodL_perm {l1 l2 : List Nat} (h : l1.Perm l2) : prodL l1 = prodL l2 := by
  induction h with
  | nil => rfl
  | cons a _ ih => simp [prodL, ih]
  | swap a b l => simp only [prodL]; rw [← Nat.mul_assoc, ← Nat.mul_assoc, Nat.mul_comm b a]
  | trans _ _ i1 i2 => exact i1.trans i2
theorem prodL_mod (a p : Nat) : ∀ l : List Nat, prodL (l.map fun x => a * x % p) % p = a ^ l.length * prodL l % p
  | [] => by simp [prodL]
  | x :: l => by
    show (a * x % p) * prodL (l.map fun x => a * x % p) % p = a ^ (l.length + 1) * (x * prodL l) % p
    rw [Nat.mod_mul_mod, Nat.mul_mod, prodL_mod a p l, ← Nat.mul_mod, Nat.pow_succ]
    congr 1
    grind
theorem prodL_not {p : Nat} (hp : Prm p) : ∀ l : List Nat, (∀ x ∈ l, 0 < x ∧ x < p) → ¬ p ∣ prodL l
  | [], _ => fun h => by have := Nat.le_of_dvd (by simp [prodL]) h; simp [prodL] at this; have := hp.1; omega
  | x :: l, h => fun hd => by
    rcases hp.prod _ _ (Nat.mod_eq_zero_of_dvd (show p ∣ x * prodL l from hd)) with e | e
    · obtain ⟨h1, h2⟩ := h x (by simp)
      have := Nat.le_of_dvd h1 (Nat.dvd_of_mod_eq_zero e); omega
    · exact prodL_not hp l (fun y hy => h y (by simp [hy])) (Nat.dvd_of_mod_eq_zero e)
theorem cancel_mod {p : Nat} (hp : Prm p) {a x y : Nat} (ha : ¬ p ∣ a) (h : a * x % p = a * y % p) : x % p = y % p := by
  have key : ∀ x y : Nat, x ≤ y → a * x % p = a * y % p → x % p = y % p := by
    intro x y hxy h
    have : p ∣ a * (y - x) := by
      rw [Nat.mul_sub]
      have h1 := Nat.div_add_mod (a * x) p
      have h2 := Nat.div_add_mod (a * y) p
      rw [h] at h1
      refine ⟨a * y / p - a * x / p, ?_⟩
      rw [Nat.mul_sub]
      omega
    obtain ⟨k, hk⟩ := (hp.coprime ha).dvd_of_dvd_mul_left this
    rw [show y = x + p * k by omega, Nat.add_mul_mod_self_left]
  rcases Nat.le_total x y with e | e
  · exact key x y e h
  · exact (key y x e h.symm).symm
theorem fermat {p : Nat} (hp : Prm p) {a : Nat} (ha : ¬ p ∣ a) : a ^ (p - 1) % p = 1 := by
  have h2 := hp.1
  obtain ⟨L, hL⟩ : ∃ L, L = (List.range (p - 1)).map (· + 1) := ⟨_, rfl⟩
  have hmem : ∀ x, x ∈ L ↔ 0 < x ∧ x < p := by
    intro x
    rw [hL, List.mem_map]
    constructor
    · rintro ⟨i, hi, rfl⟩; rw [List.mem_range] at hi; omega
    · intro h; exact ⟨x - 1, List.mem_range.2 (by omega), by omega⟩
  have hlen : L.length = p - 1 := by rw [hL]; simp
  have hnd : L.Nodup := by
    rw [hL]
    exact List.Pairwise.map _ (fun a b h => by omega) List.nodup_range
  have hperm : (L.map fun x => a * x % p).Perm L := by
    refine perm_of_sub ?_ ?_ (by simp)
    · refine List.pairwise_map.2 (List.Pairwise.imp_of_mem ?_ hnd)
      intro x y hx hy hne e
      have := cancel_mod hp ha e
      rw [Nat.mod_eq_of_lt ((hmem x).1 hx).2, Nat.mod_eq_of_lt ((hmem y).1 hy).2] at this
      exact hne this
    · intro y hy
      rw [List.mem_map] at hy
      obtain ⟨x, hx, rfl⟩ := hy
      rw [hmem]
      refine ⟨Nat.pos_of_ne_zero fun e => ?_, Nat.mod_lt _ (by omega)⟩
      rcases hp.prod _ _ e with h | h
      · exact ha (Nat.dvd_of_mod_eq_zero h)
      · have := (hmem x).1 hx
        rw [Nat.mod_eq_of_lt this.2] at h; omega
  have h := prodL_mod a p L
  rw [prodL_perm hperm, hlen] at h
  have hnot := prodL_not hp L fun x hx => (hmem x).1 hx
  have h5 : prodL L * 1 % p = prodL L * a ^ (p - 1) % p := by rw [Nat.mul_one, Nat.mul_comm _ (a ^ (p - 1))]; exact h
  have := cancel_mod hp hnot h5
  rw [Nat.mod_eq_of_lt (show 1 < p by omega)] at this
  exact this.symm

/-! ### Polynomials -/
def ev : List Int → Int → Int
  | [], _ => 0
  | c :: l, x => c + x * ev l x
def dv (r : Int) : List Int → List Int
  | [] => []
  | [_] => []
  | _ :: c :: l => ev (c :: l) r :: dv r (c :: l)
theorem ev_dv (r x : Int) : ∀ l, ev l x - ev l r = (x - r) * ev (dv r l) x
  | [] => by simp [ev, dv]
  | [c] => by simp [ev, dv]
  | a :: c :: l => by
    have ih := ev_dv r x (c :: l)
    rw [dv]
    show (a + x * ev (c :: l) x) - (a + r * ev (c :: l) r) = (x - r) * (ev (c :: l) r + x * ev (dv r (c :: l)) x)
    generalize ev (c :: l) x = T at ih ⊢
    generalize ev (c :: l) r = U at ih ⊢
    generalize ev (dv r (c :: l)) x = V at ih ⊢
    grind
def lead : List Int → Int
  | [] => 0
  | [c] => c
  | _ :: c :: l => lead (c :: l)
theorem dv_length (r : Int) : ∀ l, (dv r l).length = l.length - 1
  | [] => rfl
  | [_] => rfl
  | _ :: c :: l => by rw [dv, List.length_cons, dv_length r (c :: l)]; simp
theorem dv_lead (r : Int) : ∀ a c l, lead (dv r (a :: c :: l)) = lead (a :: c :: l)
  | a, c, [] => by simp [dv, lead, ev]
  | a, c, d :: l => by
    have ih := dv_lead r c d l
    rw [dv]
    rw [show lead (a :: c :: d :: l) = lead (c :: d :: l) from rfl, ← ih]
    rw [dv]; rfl
theorem int_prime {p : Nat} (hp : Prm p) {a b : Int} (h : (p : Int) ∣ a * b) : (p : Int) ∣ a ∨ (p : Int) ∣ b := by
  rw [← Int.natAbs_dvd_natAbs, Int.natAbs_mul, Int.natAbs_natCast] at h
  rw [← Int.natAbs_dvd_natAbs, ← Int.natAbs_dvd_natAbs (b := b), Int.natAbs_natCast]
  rcases hp.prod _ _ (Nat.mod_eq_zero_of_dvd h) with e | e
  · exact Or.inl (Nat.dvd_of_mod_eq_zero e)
  · exact Or.inr (Nat.dvd_of_mod_eq_zero e)
theorem roots_le {p : Nat} (hp : Prm p) : ∀ (n : Nat) (l : List Int), l.length = n + 1 → ¬ (p : Int) ∣ lead l → ∀ rs : List Nat, rs.Nodup → (∀ r ∈ rs, r < p ∧ (p : Int) ∣ ev l r) → rs.length ≤ n
  | _, _, _, _, [], _, _ => Nat.zero_le _
  | 0, l, hl, hn, r :: rs, _, h => by
    obtain ⟨c, rfl⟩ : ∃ c, l = [c] := by
      match l, hl with
      | [c], _ => exact ⟨c, rfl⟩
    have := (h r (by simp)).2
    simp [ev] at this
    exact absurd this hn
  | n + 1, l, hl, hn, r :: rs, hd, h => by
    obtain ⟨a, c, t, rfl⟩ : ∃ a c t, l = a :: c :: t := by
      match l, hl with
      | a :: c :: t, _ => exact ⟨a, c, t, rfl⟩
    rw [List.nodup_cons] at hd
    have h0 := h r (by simp)
    have := roots_le hp n (dv r (a :: c :: t)) (by rw [dv_length]; simp at hl ⊢; omega) (by rw [dv_lead]; exact hn) rs hd.2 fun s hs => by
      obtain ⟨h1, h2⟩ := h s (by simp [hs])
      refine ⟨h1, ?_⟩
      have e := ev_dv (r : Int) (s : Int) (a :: c :: t)
      have h3 : (p : Int) ∣ ((s : Int) - r) * ev (dv r (a :: c :: t)) s := by rw [← e]; exact Int.dvd_sub h2 h0.2
      rcases int_prime hp h3 with h4 | h4
      · exfalso
        have hne : s ≠ r := fun e => hd.1 (e ▸ hs)
        obtain ⟨k, hk⟩ := h4
        have hr := h0.1
        have hk0 : k = 0 := by
          refine Classical.byContradiction fun hk0 => ?_
          rcases Int.lt_or_lt_of_ne hk0 with hk1 | hk1
          · have : (p : Int) * k ≤ p * (-1) := Int.mul_le_mul_of_nonneg_left (by omega) (by omega)
            omega
          · have : (p : Int) * 1 ≤ p * k := Int.mul_le_mul_of_nonneg_left (by omega) (by omega)
            omega
        rw [hk0] at hk
        omega
      · exact h4
    simp
    exact this
def mon : Nat → List Int
  | 0 => [1]
  | k + 1 => 0 :: mon k
theorem mon_ev (x : Int) : ∀ k, ev (mon k) x = x ^ k
  | 0 => by simp [mon, ev]
  | k + 1 => by rw [mon, ev, mon_ev x k, Int.pow_succ, Int.zero_add, Int.mul_comm]
theorem mon_len : ∀ k, (mon k).length = k + 1
  | 0 => rfl
  | k + 1 => by rw [mon, List.length_cons, mon_len k]
theorem lead_cons (a : Int) : ∀ l : List Int, l ≠ [] → lead (a :: l) = lead l
  | [], h => absurd rfl h
  | _ :: _, _ => rfl
theorem mon_ne : ∀ k, mon k ≠ []
  | 0 => by simp [mon]
  | k + 1 => by simp [mon]
theorem mon_lead : ∀ k, lead (mon k) = 1
  | 0 => rfl
  | k + 1 => by rw [mon, lead_cons _ _ (mon_ne k), mon_lead k]
/-- Not all are roots of 1. -/
theorem ex_not_one {p : Nat} (hp : Prm p) {d : Nat} (h1 : 1 ≤ d) (hd : d < p - 1) : ∃ x, 1 ≤ x ∧ x < p ∧ x ^ d % p ≠ 1 := by
  refine Classical.byContradiction fun hn => ?_
  have h2 := hp.1
  obtain ⟨k, rfl⟩ : ∃ k, d = k + 1 := ⟨d - 1, by omega⟩
  have := roots_le hp (k + 1) ((-1) :: mon k) (by simp [mon_len]) (by
      rw [lead_cons _ _ (mon_ne k), mon_lead]
      intro h
      have := Int.le_of_dvd (by omega) h; omega) ((List.range (p - 1)).map (· + 1)) (List.Pairwise.map _ (fun a b h => by omega) List.nodup_range) (by
      intro r hr
      rw [List.mem_map] at hr
      obtain ⟨i, hi, rfl⟩ := hr
      rw [List.mem_range] at hi
      refine ⟨by omega, ?_⟩
      have h5 : (i + 1) ^ (k + 1) % p = 1 := Classical.byContradiction fun h => hn ⟨i + 1, by omega, by omega, h⟩
      rw [ev, mon_ev]
      have h6 := Nat.div_add_mod ((i + 1) ^ (k + 1)) p
      rw [h5] at h6
      refine ⟨(((i + 1) ^ (k + 1) / p : Nat) : Int), ?_⟩
      have h7 : (((i + 1 : Nat) : Int)) * ((i + 1 : Nat) : Int) ^ k = (((i + 1) ^ (k + 1) : Nat) : Int) := by
        rw [Int.natCast_pow, Int.pow_succ, Int.mul_comm]
      rw [h7]
      have h8 : (((i + 1) ^ (k + 1) : Nat) : Int) = (p : Int) * (((i + 1) ^ (k + 1) / p : Nat) : Int) + 1 := by
        rw [← Int.natCast_mul]; omega
      rw [h8]
      omega)
  simp at this
  omega

/-! ### A number whose powers are all -/
theorem pow_dvd_one {x p a b : Nat} (h : x ^ a % p = 1 % p) (hd : a ∣ b) : x ^ b % p = 1 % p := by
  obtain ⟨k, rfl⟩ := hd
  exact pow_one_mul x p a k h
theorem not_dvd_pow {p : Nat} (hp : Prm p) {x : Nat} (h : ¬ p ∣ x) : ∀ k, ¬ p ∣ x ^ k
  | 0 => fun hd => by rw [Nat.pow_zero] at hd; have := Nat.le_of_dvd (by omega) hd; have := hp.1; omega
  | k + 1 => fun hd => by
    rw [Nat.pow_succ] at hd
    rcases hp.prod _ _ (Nat.mod_eq_zero_of_dvd hd) with e | e
    · exact not_dvd_pow hp h k (Nat.dvd_of_mod_eq_zero e)
    · exact h (Nat.dvd_of_mod_eq_zero e)
/-- For a prime factor of p - 1: a number that lacks just it. -/
theorem one_factor {p q : Nat} (hp : Prm p) (h3 : 3 ≤ p) (hq : Prm q) (hd : q ∣ p - 1) : ∃ y, ¬ p ∣ y ∧ y ^ ((p - 1) / q) % p ≠ 1 ∧ ∀ r, Prm r → r ∣ p - 1 → r ≠ q → y ^ ((p - 1) / r) % p = 1 := by
  have e1 : (1 : Nat) % p = 1 := Nat.mod_eq_of_lt (by omega)
  obtain ⟨n, hn⟩ : ∃ n, p - 1 = n := ⟨_, rfl⟩
  rw [hn] at hd ⊢
  have hn1 : 1 ≤ n := by omega
  have hq2 := hq.1
  have hqn : 1 ≤ n / q := Nat.div_pos (Nat.le_of_dvd hn1 hd) (by omega)
  have hlt : n / q < n := Nat.div_lt_self hn1 hq2
  obtain ⟨x, hx1, hx2, hx⟩ := ex_not_one hp hqn (by omega)
  have hpx : ¬ p ∣ x := fun h => by have := Nat.le_of_dvd hx1 h; omega
  have hf : x ^ n % p = 1 := by rw [← hn]; exact fermat hp hpx
  obtain ⟨m, hm, hqm⟩ := vp_ex q hq2 n hn1
  obtain ⟨e, he⟩ : ∃ e, vp q n = e := ⟨_, rfl⟩
  rw [he] at hm
  have hy : (x ^ m) ^ (q ^ e) % p = 1 % p := by rw [← Nat.pow_mul, Nat.mul_comm m, ← hm, e1]; exact hf
  refine ⟨x ^ m, not_dvd_pow hp hpx m, fun hbad => ?_, fun r hr hrd hne => ?_⟩
  · rw [← Nat.pow_mul, Nat.mul_comm, Nat.pow_mul] at hbad
    have hz : (x ^ (n / q)) ^ q % p = 1 % p := by
      rw [← Nat.pow_mul, Nat.div_mul_cancel hd, e1]; exact hf
    have := pow_gcd (x ^ (n / q)) p q m hz (by rw [e1]; exact hbad)
    rw [show Nat.gcd q m = 1 from hq.coprime hqm, Nat.pow_one, e1] at this
    exact hx this
  · have : q ^ e ∣ n / r := by
      have h1 : q ^ e ∣ r * (n / r) := by rw [Nat.mul_div_cancel' hrd]; exact ⟨m, hm⟩
      have hc : Nat.Coprime (q ^ e) r := Nat.Coprime.pow_left e (hq.coprime fun h => by
        rcases hr.2 q h with e | e
        · omega
        · exact hne e.symm)
      exact hc.dvd_of_dvd_mul_left h1
    rw [pow_dvd_one hy this, e1]
theorem some_factors {p : Nat} (hp : Prm p) (h3 : 3 ≤ p) : ∀ l : List Nat, l.Nodup → (∀ q ∈ l, Prm q ∧ q ∣ p - 1) → ∃ g, ¬ p ∣ g ∧ ∀ q, Prm q → q ∣ p - 1 → (q ∈ l → g ^ ((p - 1) / q) % p ≠ 1) ∧ (q ∉ l → g ^ ((p - 1) / q) % p = 1)
  | [], _, _ => ⟨1, fun h => by have := Nat.le_of_dvd (by omega) h; omega, fun q _ _ => ⟨fun h => by simp at h, fun _ => by rw [Nat.one_pow]; exact Nat.mod_eq_of_lt (by omega)⟩⟩
  | q0 :: l, hnd, hl => by
    rw [List.nodup_cons] at hnd
    obtain ⟨g, hg, hgs⟩ := some_factors hp h3 l hnd.2 fun q hq => hl q (by simp [hq])
    obtain ⟨pq, dq⟩ := hl q0 (by simp)
    obtain ⟨y, hy, hy1, hy2⟩ := one_factor hp h3 pq dq
    refine ⟨g * y, fun h => ?_, fun q hq hqd => ?_⟩
    · rcases hp.prod _ _ (Nat.mod_eq_zero_of_dvd h) with e | e
      · exact hg (Nat.dvd_of_mod_eq_zero e)
      · exact hy (Nat.dvd_of_mod_eq_zero e)
    · obtain ⟨a, b⟩ := hgs q hq hqd
      rw [Nat.mul_pow]
      by_cases e : q = q0
      · subst e
        have h1 := b hnd.1
        refine ⟨fun _ => ?_, fun h => absurd (by simp) h⟩
        rw [Nat.mul_mod, h1, Nat.one_mul, Nat.mod_mod]; exact hy1
      · have h1 := hy2 q hq hqd e
        have e2 : g ^ ((p - 1) / q) * y ^ ((p - 1) / q) % p = g ^ ((p - 1) / q) % p := by rw [Nat.mul_mod, h1, Nat.mul_one, Nat.mod_mod]
        rw [e2]
        refine ⟨fun h => a ?_, fun h => b fun h' => h (by simp [h'])⟩
        rw [List.mem_cons] at h
        exact h.resolve_left e
/-- Whether no power but that of p - 1, and its multiples, is 1. -/
def GenP (g p : Nat) : Prop := ∀ q ∈ pf (p - 1), g ^ ((p - 1) / q) % p ≠ 1
theorem ex_gen {p : Nat} (hp : Prm p) (h3 : 3 ≤ p) : ∃ g, 2 ≤ g ∧ g < p ∧ GenP g p := by
  have hn1 : 1 ≤ p - 1 := by omega
  obtain ⟨g, hg, h⟩ := some_factors hp h3 (pf (p - 1)) ((pf_sorted _).imp fun h => by omega) fun q hq => (mem_pf hn1).1 hq
  have hG : GenP (g % p) p := by
    intro q hq
    obtain ⟨a, b⟩ := (mem_pf hn1).1 hq
    rw [← Nat.pow_mod]
    exact (h q a b).1 hq
  have h0 : g % p ≠ 0 := fun e => hg (Nat.dvd_of_mod_eq_zero e)
  have h1 : g % p ≠ 1 := by
    intro e
    obtain ⟨q, hq, hd⟩ := has_prime (p - 1) (by omega)
    have := hG q ((mem_pf hn1).2 ⟨hq, hd⟩)
    rw [e, Nat.one_pow, Nat.mod_eq_of_lt (by omega)] at this
    exact this rfl
  exact ⟨g % p, by omega, Nat.mod_lt _ (by omega), hG⟩
theorem least {P : Nat → Prop} : ∀ n, P n → ∃ m, m ≤ n ∧ P m ∧ ∀ k, k < m → ¬ P k := by
  intro n
  induction n using Nat.strongRecOn with
  | ind n ih =>
    intro h
    by_cases hs : ∃ k, k < n ∧ P k
    · obtain ⟨k, hk, hP⟩ := hs
      obtain ⟨m, h1, h2, h3⟩ := ih k hk hP
      exact ⟨m, by omega, h2, h3⟩
    · exact ⟨n, Nat.le_refl _, h, fun k hk hP => hs ⟨k, hk, hP⟩⟩
theorem ex_least_gen {p : Nat} (hp : Prm p) (h3 : 3 ≤ p) : ∃ g, 2 ≤ g ∧ g < p ∧ GenP g p ∧ ∀ k, 2 ≤ k → k < g → ¬ GenP k p := by
  obtain ⟨g, h1, h2, h⟩ := ex_gen hp h3
  obtain ⟨m, a, b, c⟩ := least (P := fun g => 2 ≤ g ∧ GenP g p) g ⟨h1, h⟩
  exact ⟨m, b.1, by omega, b.2, fun k hk hl hP => c k hl ⟨hk, hP⟩⟩
/-- An odd prime up to 2^16. -/
def Odd16 (p : Nat) : Prop := Prm p ∧ 3 ≤ p ∧ p ≤ 65536
open Classical in
/-- The least number whose powers are all; 0 of what is no odd prime up to 2^16. -/
noncomputable def genOf (p : Nat) : Nat := if h : Odd16 p then Classical.choose (ex_least_gen h.1 h.2.1) else 0
theorem genOf_spec {p : Nat} (h : Odd16 p) : 2 ≤ genOf p ∧ genOf p < p ∧ GenP (genOf p) p ∧ ∀ k, 2 ≤ k → k < genOf p → ¬ GenP k p := by
  unfold genOf
  rw [dif_pos h]
  exact Classical.choose_spec (ex_least_gen h.1 h.2.1)
theorem genOf_no {p : Nat} (h : ¬ Odd16 p) : genOf p = 0 := by unfold genOf; rw [dif_neg h]
theorem gen_luc {p g : Nat} (hp : Prm p) (h3 : 3 ≤ p) (hg : ¬ p ∣ g) (h : GenP g p) : Luc p g (powsOf (p - 1) (pf (p - 1))) := by
  have hn1 : 1 ≤ p - 1 := by omega
  refine ⟨h3, fun x hx => ?_, prod_fac hn1, fermat hp hg, fun x hx => ?_⟩
  · obtain ⟨q, hq, rfl⟩ := List.mem_map.1 hx
    exact ((mem_pf hn1).1 hq).1
  · obtain ⟨q, hq, rfl⟩ := List.mem_map.1 hx
    exact h q hq
/-- The least exponent of a power that is 1 is p - 1 just for such numbers. -/
theorem order_gen {p g n : Nat} (hp : Prm p) (h3 : 3 ≤ p) (hg : ¬ p ∣ g) (hn : 1 ≤ n) (h1 : g ^ n % p = 1) (hl : ∀ k, 1 ≤ k → k < n → g ^ k % p ≠ 1) : n = p - 1 ↔ GenP g p := by
  have hn1 : 1 ≤ p - 1 := by omega
  constructor
  · intro e q hq
    obtain ⟨a, b⟩ := (mem_pf hn1).1 hq
    have h2 := a.1
    exact hl _ (Nat.div_pos (Nat.le_of_dvd hn1 b) (by omega)) (by rw [e]; exact Nat.div_lt_self hn1 h2)
  · intro h
    have hd := (gen_luc hp h3 hg h).order n h1
    have := Nat.le_of_dvd hn hd
    have hf := fermat hp hg
    by_cases e : n = p - 1
    · exact e
    · exact absurd hf (hl (p - 1) hn1 (by omega))
end Go.Proofs.YtpjfapibjihbbaaGreatDoor
/-
  Contracts of the document's Prime and Odd (layer 5): trials come to the primes. No condition but that arguments are words.
-/
namespace Go.Proofs.YtpjfapibjihbbaaGreatDoor
set_option linter.unusedVariables false
open Go.RowKit

theorem rbool {a b : Bool} (h : a = b) : Ending.returned (.bool a) = .returned (.bool b) := by rw [h]
/-- A prime up to 2^32. -/
noncomputable def prm32 (n : Nat) : Bool := prmB n && decide (n ≤ 4294967296)
theorem wrap_sq {d s : Nat} (hs : d * d = s) (hd : d ≤ 4294967295) : IntKind.u64.wrap ((d : Int) * (d : Int)) = (s : Int) := by
  have h1 : d * d ≤ 4294967295 * 4294967295 := Nat.mul_le_mul hd hd
  rw [← Int.natCast_mul, hs]
  rw [IntKind.wrap_u64]
  omega
theorem sq_root {d : Nat} (h : d * d ≤ 4294967296) : d ≤ 65536 := by
  refine Nat.le_of_not_lt fun hl => ?_
  have := Nat.mul_le_mul (show 65537 ≤ d from hl) (show 65537 ≤ d from hl)
  omega
theorem rprime_few (n : Nat) (h : n < 2) : Ans 50 #[.int .u64 n] (.bool false) := by
  intro w
  go_enter Tryz.func50, Tryz.ntmps50
  go_wp2
  go_ret
  exact ⟨rfl, 0, rfl⟩
theorem rprime_great (n : Nat) (h2 : 2 ≤ n) (h : 4294967296 < n) (hn : n < 18446744073709551616) : Ans 50 #[.int .u64 n] (.bool false) := by
  intro w
  go_enter Tryz.func50, Tryz.ntmps50
  go_wp2
  go_ret
  exact ⟨rfl, 0, rfl⟩
set_option maxHeartbeats 1000000 in
theorem rprime_walk (n : Nat) (h2 : 2 ≤ n) (h : n ≤ 4294967296) : Ans 50 #[.int .u64 n] (.bool (prmB n)) := by
  intro w
  go_enter Tryz.func50, Tryz.ntmps50
  go_wp2
  go_loopw [3] (fun x wr => ∃ d : Nat, x = .int .u64 d ∧ 2 ≤ d ∧ d ≤ 65537 ∧ Hid (∀ r, Prm r → r < d → ¬ r ∣ n) ∧ wr = w) (fun x _ => 65537 - (intOf x).toNat)
  case atStart => exact ⟨2, rfl, by omega, by omega, fun r hr hl => absurd hr.1 (by omega), rfl⟩
  case round =>
    obtain ⟨d, rfl, hd2, hd, HI, rfl⟩ := hrel
    obtain ⟨s, hs⟩ : ∃ s, d * d = s := ⟨_, rfl⟩
    have hm := wrap_sq hs (by omega)
    have HS : Hid (d * d = s) := hs
    by_cases hle : s ≤ n
    · have hd6 : d ≤ 65536 := sq_root (by omega)
      have hd1 : d < n := by
        have : d * 2 ≤ d * d := Nat.mul_le_mul_left d hd2
        omega
      clear hs
      by_cases hr : n % d = 0
      · have hr' : ((n : Int) % (d : Int) == 0) = true := by rw [beq_iff_eq]; omega
        have HE : Hid (prmB n = false) := prmB_no (not_prm_dvd hd2 hd1 hr)
        clear hr
        go_wp2
        go_ret
        exact ⟨rbool HE.out.symm, 0, rfl⟩
      · have hr' : ((n : Int) % (d : Int) == 0) = false := by rw [beq_eq_false_iff_ne]; omega
        have HJ : Hid (∀ r, Prm r → r < d + 1 → ¬ r ∣ n) := by
          intro r pr hl hdv
          by_cases e : r = d
          · exact hr (Nat.mod_eq_zero_of_dvd (e ▸ hdv))
          · exact HI.out r pr (by omega) hdv
        clear hr HI
        go_wp2
        go_roundw
        case rel => exact ⟨d + 1, by go_num, by omega, by omega, HJ, by first | rfl | trivial⟩
        case measure => simp [intOf]; omega
    · have HE : Hid (prmB n = true) := prmB_yes (prm_of_root h2 (by omega) HI.out)
      clear hs HI
      go_wp2
      go_ret
      exact ⟨rbool HE.out.symm, 0, rfl⟩
/-- The document's Prime. -/
theorem rprime_any (n : Nat) (hn : n < 18446744073709551616) : Ans 50 #[.int .u64 n] (.bool (prm32 n)) := by
  unfold prm32
  by_cases h2 : n < 2
  · rw [prmB_no (fun h => by have := h.1; omega)]; exact rprime_few n h2
  · by_cases h : n ≤ 4294967296
    · rw [decide_eq_true h, Bool.and_true]; exact rprime_walk n (by omega) h
    · rw [decide_eq_false h, Bool.and_false]; exact rprime_great n (by omega) (by omega) hn
noncomputable def oddB (p : Nat) : Bool := prmB p && decide (3 ≤ p) && decide (p ≤ 65536)
theorem oddB_iff {p : Nat} : oddB p = true ↔ Odd16 p := by
  unfold oddB Odd16
  rw [Bool.and_eq_true, Bool.and_eq_true, prmB_iff, decide_eq_true_iff, decide_eq_true_iff, and_assoc]
theorem rodd_walk0 (p : Nat) (hn : p < 18446744073709551616) (h : p ≤ 2) : Ans 34 #[.int .u64 p] (.bool false) := by
  intro w
  go_enter Tryz.func34, Tryz.ntmps34
  go_wp2
  go_ret
  exact ⟨rfl, 0, rfl⟩
theorem rodd_walk1 (p : Nat) (hn : p < 18446744073709551616) (h : 2 < p) (h' : 65536 < p) : Ans 34 #[.int .u64 p] (.bool false) := by
  intro w
  go_enter Tryz.func34, Tryz.ntmps34
  go_wp2
  go_ret
  exact ⟨rfl, 0, rfl⟩
theorem rodd_walk2 (p : Nat) (h : 2 < p) (h' : p ≤ 65536) (b : Bool) (HP : Ans 50 #[.int .u64 p] (.bool b)) : Ans 34 #[.int .u64 p] (.bool b) := by
  intro w
  go_enter Tryz.func34, Tryz.ntmps34
  go_wp2_with (go_at_call 50; with_reducible refine Ans.use HP _ fun n1 => ?_)
  go_ret
  exact ⟨rfl, n1, rfl⟩
/-- The document's Odd. -/
theorem rodd_any (p : Nat) (hn : p < 18446744073709551616) : Ans 34 #[.int .u64 p] (.bool (oddB p)) := by
  unfold oddB
  by_cases h : p ≤ 2
  · rw [decide_eq_false (show ¬ 3 ≤ p by omega), Bool.and_false, Bool.false_and]; exact rodd_walk0 p hn h
  · by_cases h' : p ≤ 65536
    · rw [decide_eq_true (show 3 ≤ p by omega), decide_eq_true h', Bool.and_true, Bool.and_true]
      have := rprime_any p hn
      unfold prm32 at this
      rw [decide_eq_true (show p ≤ 4294967296 by omega), Bool.and_true] at this
      exact rodd_walk2 p (by omega) h' _ this
    · rw [decide_eq_false h', Bool.and_false]; exact rodd_walk1 p hn (by omega) (by omega)
end Go.Proofs.YtpjfapibjihbbaaGreatDoor
/-
  Contracts of what sorts words: cmp.Less, insertionSortOrdered, pdqsortOrdered and slices.Sort of up to 12 of them. No condition but these.
-/
namespace Go.Proofs.YtpjfapibjihbbaaGreatDoor
set_option linter.unusedVariables false
open Go.RowKit

theorem nan_any (x : Int) : Ans 145 #[.int .u64 x] (.bool false) := by
  intro w
  go_enter Tryz.func145, Tryz.ntmps145
  go_wp2
  go_ret
  exact ⟨by simp, 0, rfl⟩
theorem less_walk (x y : Int) (b : Bool) (hb : decide (x < y) = b) : Ans 120 #[.int .u64 x, .int .u64 y] (.bool b) := by
  intro w
  have HN := nan_any x
  go_enter Tryz.func120, Tryz.ntmps120
  go_wp2_with (go_at_call 145; with_reducible refine Ans.use HN _ fun n1 => ?_)
  go_ret
  exact ⟨rbool (by simp), n1, rfl⟩

/-! ### Lists of words -/
theorem grown_drew {w w' : World} {row : Option Nat} (h : w.grownBy w' row) (n : Nat) : w.grownBy (w'.drewN n) row := ⟨h.os, h.tape, h.output, h.size, h.block⟩
def encU (x : Nat) : Value := .int .u64 (x : Int)
def at' (l : List Nat) (x : Nat) : Nat := l[x]?.getD 0
def sw (l : List Nat) (k : Nat) : List Nat := (l.set (k + 1) (at' l k)).set k (at' l (k + 1))
theorem at_lt {l : List Nat} {x : Nat} (h : x < l.length) : l[x]? = some (at' l x) := by
  unfold at'; rw [List.getElem?_eq_getElem h]; rfl
theorem sw_len (l : List Nat) (k : Nat) : (sw l k).length = l.length := by simp [sw]
theorem sw_at {l : List Nat} {k : Nat} (h : k + 1 < l.length) (x : Nat) : at' (sw l k) x = if x = k then at' l (k + 1) else if x = k + 1 then at' l k else at' l x := by
  unfold at' sw
  rw [List.getElem?_set, List.getElem?_set]
  by_cases h1 : x = k
  · subst h1; simp; rw [if_pos (by omega)]; rfl
  · rw [if_neg (fun e => h1 e.symm), if_neg h1]
    by_cases h2 : x = k + 1
    · subst h2; simp [h]; rfl
    · rw [if_neg (fun e => h2 e.symm), if_neg h2]
theorem sw_perm {l : List Nat} {k : Nat} (h : k + 1 < l.length) : (sw l k).Perm l := by
  have hk : k < l.length := by omega
  have h1 : ((l.set (k + 1) l[k]).set k l[k + 1]).Perm l := List.set_set_perm h hk
  unfold sw at'
  rw [List.getElem?_eq_getElem h, List.getElem?_eq_getElem hk]
  exact h1
theorem sw_map (l : List Nat) (k : Nat) : (sw l k).map encU = ((l.map encU).set (k + 1) (encU (at' l k))).set k (encU (at' l (k + 1))) := by
  simp [sw, List.map_set]
/-- The first i + 1 are in order, but for the one at j. -/
def Nearly (l : List Nat) (i j : Nat) : Prop := ∀ a b, a < b → b ≤ i → b ≠ j → at' l a ≤ at' l b
theorem Nearly.step {l : List Nat} {i k : Nat} (h : Nearly l i (k + 1)) (hk : k + 1 ≤ i) (hl : k + 1 < l.length) (hlt : at' l (k + 1) < at' l k) : Nearly (sw l k) i k := by
  intro a b hab hbi hbk
  rw [sw_at hl, sw_at hl]
  have h1 := h a b hab hbi
  have h2 := fun h' : a < k => h a k h' (by omega) (by omega)
  have h3 := fun h' : k < b => h k b h' (by omega)
  have h4 := fun h' : k + 1 < b => h (k + 1) b h' (by omega) (by omega)
  by_cases e1 : b = k + 1
  · subst e1
    rw [if_neg (show ¬ k + 1 = k by omega), if_pos rfl]
    by_cases e2 : a = k
    · subst e2; rw [if_pos rfl]; omega
    · rw [if_neg e2, if_neg (show ¬ a = k + 1 by omega)]
      exact h2 (by omega)
  · rw [if_neg hbk, if_neg e1]
    by_cases e2 : a = k
    · subst e2; rw [if_pos rfl]; exact h4 (by omega)
    · rw [if_neg e2]
      by_cases e3 : a = k + 1
      · subst e3; rw [if_pos rfl]; exact h3 (by omega) e1
      · rw [if_neg e3]; exact h1 e1
theorem Nearly.done {l : List Nat} {i k : Nat} (h : Nearly l i (k + 1)) (hk : k + 1 ≤ i) (hge : at' l k ≤ at' l (k + 1)) : Nearly l (i + 1) (i + 1) := by
  intro a b hab hbi hbk
  by_cases e : b = k + 1
  · subst e
    by_cases e2 : a = k
    · subst e2; exact hge
    · exact Nat.le_trans (h a k (by omega) (by omega) (by omega)) hge
  · exact h a b hab (by omega) e
theorem Nearly.zero {l : List Nat} {i : Nat} (h : Nearly l i 0) : Nearly l (i + 1) (i + 1) := fun a b hab hbi hbk => h a b hab (by omega) (by omega)
theorem Nearly.all {l : List Nat} {i : Nat} (h : Nearly l i i) (hl : l.length ≤ i) : l.Pairwise (· ≤ ·) := by
  rw [List.pairwise_iff_getElem]
  intro a b ha hb hab
  have := h a b hab (by omega) (by omega)
  unfold at' at this
  rw [List.getElem?_eq_getElem ha, List.getElem?_eq_getElem hb] at this
  exact this

set_option maxHeartbeats 1000000 in
/-- insertionSortOrdered. -/
theorem insertion_any (w : World) (base g cap : Nat) (l0 : List Nat) (hlen : l0.length ≤ 1000) (hw : ∀ x ∈ l0, x < 18446744073709551616) (hrow : w.ownsRow base 22 1 (.slice (some ⟨g, 0, none⟩) l0.length cap) l0.length (l0.map encU)) :
    Calls Tryz.prog 114 #[.slice (some ⟨g, 0, none⟩) l0.length cap, .int .i64 0, .int .i64 (l0.length : Int)] w fun e w' => e = .returned (.tuple #[]) ∧ ∃ l : List Nat, l.Perm l0 ∧ l.Pairwise (· ≤ ·) ∧ w'.ownsRow base 22 1 (.slice (some ⟨g, 0, none⟩) l0.length cap) l0.length (l.map encU) ∧ w.grownBy w' (some g) := by
  obtain ⟨n, hn⟩ : ∃ n, l0.length = n := ⟨_, rfl⟩
  have HN : Hid (l0.length = n) := hn
  rw [hn] at hlen hrow ⊢
  clear hn
  go_enter Tryz.func114, Tryz.ntmps114
  go_wp2
  go_loopw [6] (fun v wr => ∃ (i : Nat) (l : List Nat), v = .int .i64 (i : Int) ∧ 1 ≤ i ∧ i ≤ n + 1 ∧ Hid (l.Perm l0 ∧ Nearly l i i) ∧ wr.ownsRow base 22 1 (.slice (some ⟨g, 0, none⟩) n cap) n (l.map encU) ∧ w.grownBy wr (some g)) (fun v _ => n + 1 - (intOf v).toNat)
  case atStart => exact ⟨1, l0, by go_num, by omega, by omega, ⟨List.Perm.refl _, fun a b h1 h2 h3 => by omega⟩, hrow, World.grownBy.refl _ _⟩
  case round =>
    obtain ⟨i, l, rfl, hi, hin, HP, hR, hG⟩ := hrel
    by_cases hlt : i < n
    · go_wp2
      go_loopw [7] (fun v wi => ∃ (j : Nat) (l : List Nat), v = .int .i64 (j : Int) ∧ j ≤ i ∧ Hid (l.Perm l0 ∧ Nearly l i j) ∧ wi.ownsRow base 22 1 (.slice (some ⟨g, 0, none⟩) n cap) n (l.map encU) ∧ w.grownBy wi (some g)) (fun v _ => (intOf v).toNat)
      case atStart => exact ⟨i, l, rfl, by omega, HP, hR, hG⟩
      case round =>
        clear HP hR hG
        obtain ⟨j, l, rfl, hj, HP, hR, hG⟩ := hrel
        have hll : l.length = n := by rw [← HN.out]; exact HP.out.1.length_eq
        by_cases h0 : j = 0
        · subst h0
          have hgd : decide ((0 : Int) < 0) = false := by decide
          have HQ : Hid (l.Perm l0 ∧ Nearly l (i + 1) (i + 1)) := ⟨HP.out.1, HP.out.2.zero⟩
          clear HP
          go_wp2
          go_quiet ((fail))
          go_wp2
          go_roundw
          case rel => exact ⟨i + 1, l, by go_num, by omega, by omega, HQ, hR, grown_drew hG _⟩
          case measure => simp [intOf]; omega
        · obtain ⟨k, rfl⟩ : ∃ k, j = k + 1 := ⟨j - 1, by omega⟩
          have hk1 : k + 1 < l.length := by omega
          have c1 := (hR.cellAt (k + 1) (by omega)).trans (show (l.map encU)[k + 1]? = some (.int .u64 (at' l (k + 1) : Int)) by rw [List.getElem?_map, at_lt hk1]; rfl)
          have c0 := (hR.cellAt k (by omega)).trans (show (l.map encU)[k]? = some (.int .u64 (at' l k : Int)) by rw [List.getElem?_map, at_lt (by omega)]; rfl)
          have f1 := hR.frozenAt (k + 1)
          have f0 := hR.frozenAt k
          obtain ⟨x, hx⟩ : ∃ x, at' l (k + 1) = x := ⟨_, rfl⟩
          obtain ⟨y, hy⟩ : ∃ y, at' l k = y := ⟨_, rfl⟩
          rw [hx] at c1
          rw [hy] at c0
          obtain ⟨j, hjk⟩ : ∃ j, k + 1 = j := ⟨_, rfl⟩
          have HJ : Hid (k + 1 = j) := hjk
          rw [hjk] at c1 f1 hj ⊢
          have hgd : decide ((0 : Int) < (j : Int)) = true := decide_eq_true (by omega)
          have hgd2 : decide (0 < j) = true := decide_eq_true (by omega)
          have hjn : j < n := by omega
          have hkn : k < n := by omega
          have hjk' : (j : Int) - 1 = (k : Int) := by omega
          have hwk : IntKind.i64.wrap (k : Int) = (k : Int) := by rw [IntKind.wrap_i64]; omega
          clear hjk
          by_cases hxy : x < y
          · have HL := less_walk (x : Int) (y : Int) true (by simp; omega)
            have HQ : Hid ((sw l k).Perm l0 ∧ Nearly (sw l k) i k) := ⟨(sw_perm hk1).trans HP.out.1, HP.out.2.step (by omega) hk1 (by omega)⟩
            have HM : Hid ((sw l k).map encU = ((l.map encU).set j (.int .u64 (y : Int))).set k (.int .u64 (x : Int))) := by
              unfold Hid; rw [sw_map, HJ.out, ← hy, ← hx, HJ.out]; rfl
            clear HP
            go_wp2
            go_quiet ((go_at_call 120; first | (with_reducible exact Ans.quiet HL) | (with_reducible exact Ans.quiet0 HL)))
            go_wp2
            go_region
            obtain ⟨hR1, hG1⟩ := World.ownsRow.stored (w := wr.drewN (nq + 1)) hR j (.int .u64 (y : Int))
            obtain ⟨hR2, hG2⟩ := hR1.stored k (.int .u64 (x : Int))
            rw [← HM.out] at hR2
            have hG3 := ((grown_drew hG (nq + 1)).trans hG1).trans hG2
            generalize (((wr.drewN (nq + 1)).setCell ⟨g, j, none⟩ (.int .u64 (y : Int))).setCell ⟨g, k, none⟩ (.int .u64 (x : Int))) = w3 at hR2 hG3 ⊢
            clear hR1 hG1 hG2 c0 c1 f0 f1
            go_wp2
            go_roundw
            case rel => exact ⟨k, sw l k, by go_num, by omega, HQ, hR2, hG3⟩
            case measure => simp [intOf]; omega
          · have HL := less_walk (x : Int) (y : Int) false (by simp; omega)
            have HQ : Hid (l.Perm l0 ∧ Nearly l (i + 1) (i + 1)) := ⟨HP.out.1, HP.out.2.done (by omega) (by omega)⟩
            clear HP
            go_wp2
            go_quiet ((go_at_call 120; first | (with_reducible exact Ans.quiet HL) | (with_reducible exact Ans.quiet0 HL)))
            go_wp2
            go_roundw
            case rel => exact ⟨i + 1, l, by go_num, by omega, by omega, HQ, hR, grown_drew hG _⟩
            case measure => simp [intOf]; omega
    · have HQ : Hid (l.Perm l0 ∧ l.Pairwise (· ≤ ·)) := ⟨HP.out.1, HP.out.2.all (by rw [HP.out.1.length_eq, HN.out]; omega)⟩
      clear HP
      go_wp2
      go_end0
      exact ⟨rfl, l, HQ.out.1, HQ.out.2, hR, hG⟩
end Go.Proofs.YtpjfapibjihbbaaGreatDoor
/-
  Contracts of math/bits.Len, pdqsortOrdered and slices.Sort of 1 to 12 words.
-/
namespace Go.Proofs.YtpjfapibjihbbaaGreatDoor
set_option linter.unusedVariables false
open Go.RowKit

theorem len_walk (x r : Int) (HL : Ans 124 #[.int .u64 x] (.int .i64 r)) : Ans 92 #[.int .u64 x] (.int .i64 r) := by
  intro w
  go_enter Tryz.func92, Tryz.ntmps92
  go_wp2_with (go_at_call 124; with_reducible refine Ans.use HL _ fun n1 => ?_)
  go_ret
  exact ⟨rfl, n1, rfl⟩

/-- What sorts: the same words, in order, in the same row; nothing else has turned. -/
def SortAns (f : FuncId) (more : Array Value) (w : World) (base g cap : Nat) (l0 : List Nat) : Prop :=
  Calls Tryz.prog f (#[.slice (some ⟨g, 0, none⟩) l0.length cap] ++ more) w fun e w' => e = .returned (.tuple #[]) ∧ ∃ l : List Nat, l.Perm l0 ∧ l.Pairwise (· ≤ ·) ∧ w'.ownsRow base 22 1 (.slice (some ⟨g, 0, none⟩) l0.length cap) l0.length (l.map encU) ∧ w.grownBy w' (some g)

set_option maxHeartbeats 1000000 in
theorem pdq_any (w : World) (base g cap : Nat) (lim : Int) (l0 : List Nat) (hlen : l0.length ≤ 12) (hw : ∀ x ∈ l0, x < 18446744073709551616) (hrow : w.ownsRow base 22 1 (.slice (some ⟨g, 0, none⟩) l0.length cap) l0.length (l0.map encU)) :
    SortAns 91 #[.int .i64 0, .int .i64 (l0.length : Int), .int .i64 lim] w base g cap l0 := by
  have HI := insertion_any w base g cap l0 (by omega) hw hrow
  unfold SortAns
  obtain ⟨n, hn⟩ : ∃ n, l0.length = n := ⟨_, rfl⟩
  rw [hn] at hlen hrow HI ⊢
  clear hn
  go_enter Tryz.func91, Tryz.ntmps91
  go_wp2
  refine wp_loop_rounds 1 ?_
  rw [rounds_succ]
  go_wp2_with (go_at_call 114; refine HI.mono ?_; rintro e w' ⟨rfl, hx⟩)
  refine bodyPost_ret (results_none rfl _ _ _) rfl ?_
  exact ⟨rfl, hx⟩

theorem u64_of_len {n : Nat} (h : n ≤ 12) : IntKind.u64.wrap (n : Int) = (n : Int) := by rw [IntKind.wrap_u64]; omega
set_option maxHeartbeats 1000000 in
theorem sort_any (w : World) (base g cap : Nat) (l0 : List Nat) (hlen : l0.length ≤ 12) (hw : ∀ x ∈ l0, x < 18446744073709551616) (hrow : w.ownsRow base 22 1 (.slice (some ⟨g, 0, none⟩) l0.length cap) l0.length (l0.map encU)) :
    SortAns 74 #[] w base g cap l0 := by
  obtain ⟨r, HL⟩ : ∃ r : Int, Ans 92 #[.int .u64 (l0.length : Int)] (.int .i64 r) := ⟨_, len_walk _ _ (len64_any l0.length (by omega))⟩
  have HI := fun k => pdq_any (w.drewN k) base g cap r l0 hlen hw hrow
  unfold SortAns at HI ⊢
  have hu := u64_of_len hlen
  obtain ⟨n, hn⟩ : ∃ n, l0.length = n := ⟨_, rfl⟩
  rw [hn] at hlen hrow HI HL hu ⊢
  clear hn
  go_enter Tryz.func74, Tryz.ntmps74
  go_wp2_with (first | (go_at_call 92; with_reducible refine Ans.use HL _ fun n1 => ?_) | (go_at_call 91; refine (HI _).mono ?_; rintro e w' ⟨rfl, l, h1, h2, h3, h4⟩))
  go_end0
  exact ⟨rfl, l, h1, h2, h3, ⟨h4.os, h4.tape, h4.output, h4.size, h4.block⟩⟩
end Go.Proofs.YtpjfapibjihbbaaGreatDoor

/-
  Plain mathematics of layer 5: Fermat's theorem, how many roots a polynomial may have modulo a prime, and that each odd prime has a number whose powers are all.
-/
import Derived.Test.YtafmmkhegkceiaaFacM
namespace Go.Proofs.Ytafmmkhegkceiaa

/-! ### The factors multiplied -/
def powsOf (n : Nat) (l : List Nat) : List (Nat × Nat) := l.map fun q => (q, vp q n)
theorem vp_pow_other {q r n : Nat} (hr : Prm r) (hq : Prm q) (hne : r ≠ q) (hn : 1 ≤ n) : ∀ e, vp r (q ^ e * n) = vp r n
  | 0 => by rw [Nat.pow_zero, Nat.one_mul]
  | e + 1 => by
    rw [Nat.pow_succ, Nat.mul_comm (q ^ e) q, Nat.mul_assoc, vp_other hr hq hne (Nat.mul_pos (Nat.pow_pos (by have := hq.1; omega)) hn), vp_pow_other hr hq hne hn e]
theorem strip {n : Nat} (hn : 1 ≤ n) : ∀ (l : List Nat), l.Pairwise (· < ·) → (∀ x ∈ l, Prm x) → ∃ m, n = prodOf (powsOf n l) * m ∧ (∀ q ∈ l, ¬ q ∣ m) ∧ ∀ r, Prm r → r ∉ l → vp r m = vp r n
  | [], _, _ => ⟨n, by simp [powsOf, prodOf], by simp, fun _ _ _ => rfl⟩
  | q :: l, h, hp => by
    rw [List.pairwise_cons] at h
    obtain ⟨m, hm, hd, hv⟩ := strip hn l h.2 fun x hx => hp x (by simp [hx])
    have pq := hp q (by simp)
    have hql : q ∉ l := fun hq => by have := h.1 q hq; omega
    have hm1 : 1 ≤ m := Nat.pos_of_ne_zero fun e => by rw [e, Nat.mul_zero] at hm; omega
    obtain ⟨k, hk, hqk⟩ := vp_ex q pq.1 m hm1
    rw [hv q pq hql] at hk
    have hk1 : 1 ≤ k := Nat.pos_of_ne_zero fun e => hqk (e ▸ Nat.dvd_zero q)
    refine ⟨k, ?_, ?_, ?_⟩
    · show n = q ^ vp q n * prodOf (powsOf n l) * k
      rw [Nat.mul_comm (q ^ vp q n), Nat.mul_assoc, ← hk]; exact hm
    · intro r hr
      rw [List.mem_cons] at hr
      rcases hr with rfl | hr
      · exact hqk
      · exact fun hd' => hd r hr (Nat.dvd_trans hd' ⟨q ^ vp q n, by rw [Nat.mul_comm]; exact hk⟩)
    · intro r pr hr
      rw [List.mem_cons] at hr
      rw [← hv r pr (fun h => hr (Or.inr h))]
      conv => rhs; rw [hk]
      exact (vp_pow_other pr pq (fun e => hr (Or.inl e)) hk1 _).symm
theorem prod_fac {n : Nat} (hn : 1 ≤ n) : prodOf (powsOf n (pf n)) = n := by
  obtain ⟨m, hm, hd, hv⟩ := strip hn (pf n) (pf_sorted n) fun x hx => ((mem_pf hn).1 hx).1
  have hm1 : 1 ≤ m := Nat.pos_of_ne_zero fun e => by rw [e, Nat.mul_zero] at hm; omega
  have : m = 1 := by
    refine Classical.byContradiction fun h => ?_
    obtain ⟨r, pr, hr⟩ := has_prime m (by omega)
    exact hd r ((mem_pf hn).2 ⟨pr, Nat.dvd_trans hr ⟨_, by rw [Nat.mul_comm]; exact hm⟩⟩) hr
  rw [this, Nat.mul_one] at hm
  exact hm.symm

/-! ### Fermat -/
theorem perm_of_sub : ∀ {l1 l2 : List Nat}, l1.Nodup → (∀ x ∈ l1, x ∈ l2) → l2.length ≤ l1.length → l1.Perm l2
  | [], l2, _, _, h => by
    have : l2 = [] := List.eq_nil_of_length_eq_zero (by simpa using h)
    rw [this]
  | a :: t, l2, hn, hs, hl => by
    rw [List.nodup_cons] at hn
    have ha : a ∈ l2 := hs a (by simp)
    have hp := List.perm_cons_erase ha
    have hlen : l2.length = (l2.erase a).length + 1 := by rw [hp.length_eq]; simp
    refine List.Perm.trans (List.Perm.cons a (perm_of_sub hn.2 (fun x hx => ?_) (by simp at hl; omega))) hp.symm
    have hxa : x ≠ a := fun e => hn.1 (by rw [← e]; exact hx)
    exact (List.mem_erase_of_ne hxa).2 (hs x (by simp [hx]))
theorem prodL_perm {l1 l2 : List Nat} (h : l1.Perm l2) : prodL l1 = prodL l2 := by
  induction h with
  | nil => rfl
  | cons a _ ih => simp [prodL, ih]
  | swap a b l => simp only [prodL]; rw [← Nat.mul_assoc, ← Nat.mul_assoc, Nat.mul_comm b a]
  | trans _ _ i1 i2 => exact i1.trans i2
theorem prodL_mod (a p : Nat) : ∀ l : List Nat, prodL (l.map fun x => a * x % p) % p = a ^ l.length * prodL l % p
  | [] => by simp [prodL]
  | x :: l => by
    show (a * x % p) * prodL (l.map fun x => a * x % p) % p = a ^ (l.length + 1) * (x * prodL l) % p
    rw [Nat.mod_mul_mod, Nat.mul_mod, prodL_mod a p l, ← Nat.mul_mod, Nat.pow_succ]
    congr 1
    grind
theorem prodL_not {p : Nat} (hp : Prm p) : ∀ l : List Nat, (∀ x ∈ l, 0 < x ∧ x < p) → ¬ p ∣ prodL l
  | [], _ => fun h => by have := Nat.le_of_dvd (by simp [prodL]) h; simp [prodL] at this; have := hp.1; omega
  | x :: l, h => fun hd => by
    rcases hp.prod _ _ (Nat.mod_eq_zero_of_dvd (show p ∣ x * prodL l from hd)) with e | e
    · obtain ⟨h1, h2⟩ := h x (by simp)
      have := Nat.le_of_dvd h1 (Nat.dvd_of_mod_eq_zero e); omega
    · exact prodL_not hp l (fun y hy => h y (by simp [hy])) (Nat.dvd_of_mod_eq_zero e)
theorem cancel_mod {p : Nat} (hp : Prm p) {a x y : Nat} (ha : ¬ p ∣ a) (h : a * x % p = a * y % p) : x % p = y % p := by
  have key : ∀ x y : Nat, x ≤ y → a * x % p = a * y % p → x % p = y % p := by
    intro x y hxy h
    have : p ∣ a * (y - x) := by
      rw [Nat.mul_sub]
      have h1 := Nat.div_add_mod (a * x) p
      have h2 := Nat.div_add_mod (a * y) p
      rw [h] at h1
      refine ⟨a * y / p - a * x / p, ?_⟩
      rw [Nat.mul_sub]
      omega
    obtain ⟨k, hk⟩ := (hp.coprime ha).dvd_of_dvd_mul_left this
    rw [show y = x + p * k by omega, Nat.add_mul_mod_self_left]
  rcases Nat.le_total x y with e | e
  · exact key x y e h
  · exact (key y x e h.symm).symm
theorem fermat {p : Nat} (hp : Prm p) {a : Nat} (ha : ¬ p ∣ a) : a ^ (p - 1) % p = 1 := by
  have h2 := hp.1
  obtain ⟨L, hL⟩ : ∃ L, L = (List.range (p - 1)).map (· + 1) := ⟨_, rfl⟩
  have hmem : ∀ x, x ∈ L ↔ 0 < x ∧ x < p := by
    intro x
    rw [hL, List.mem_map]
    constructor
    · rintro ⟨i, hi, rfl⟩; rw [List.mem_range] at hi; omega
    · intro h; exact ⟨x - 1, List.mem_range.2 (by omega), by omega⟩
  have hlen : L.length = p - 1 := by rw [hL]; simp
  have hnd : L.Nodup := by
    rw [hL]
    exact List.Pairwise.map _ (fun a b h => by omega) List.nodup_range
  have hperm : (L.map fun x => a * x % p).Perm L := by
    refine perm_of_sub ?_ ?_ (by simp)
    · refine List.pairwise_map.2 (List.Pairwise.imp_of_mem ?_ hnd)
      intro x y hx hy hne e
      have := cancel_mod hp ha e
      rw [Nat.mod_eq_of_lt ((hmem x).1 hx).2, Nat.mod_eq_of_lt ((hmem y).1 hy).2] at this
      exact hne this
    · intro y hy
      rw [List.mem_map] at hy
      obtain ⟨x, hx, rfl⟩ := hy
      rw [hmem]
      refine ⟨Nat.pos_of_ne_zero fun e => ?_, Nat.mod_lt _ (by omega)⟩
      rcases hp.prod _ _ e with h | h
      · exact ha (Nat.dvd_of_mod_eq_zero h)
      · have := (hmem x).1 hx
        rw [Nat.mod_eq_of_lt this.2] at h; omega
  have h := prodL_mod a p L
  rw [prodL_perm hperm, hlen] at h
  have hnot := prodL_not hp L fun x hx => (hmem x).1 hx
  have h5 : prodL L * 1 % p = prodL L * a ^ (p - 1) % p := by rw [Nat.mul_one, Nat.mul_comm _ (a ^ (p - 1))]; exact h
  have := cancel_mod hp hnot h5
  rw [Nat.mod_eq_of_lt (show 1 < p by omega)] at this
  exact this.symm

/-! ### Polynomials -/
def ev : List Int → Int → Int
  | [], _ => 0
  | c :: l, x => c + x * ev l x
def dv (r : Int) : List Int → List Int
  | [] => []
  | [_] => []
  | _ :: c :: l => ev (c :: l) r :: dv r (c :: l)
theorem ev_dv (r x : Int) : ∀ l, ev l x - ev l r = (x - r) * ev (dv r l) x
  | [] => by simp [ev, dv]
  | [c] => by simp [ev, dv]
  | a :: c :: l => by
    have ih := ev_dv r x (c :: l)
    rw [dv]
    show (a + x * ev (c :: l) x) - (a + r * ev (c :: l) r) = (x - r) * (ev (c :: l) r + x * ev (dv r (c :: l)) x)
    generalize ev (c :: l) x = T at ih ⊢
    generalize ev (c :: l) r = U at ih ⊢
    generalize ev (dv r (c :: l)) x = V at ih ⊢
    grind
def lead : List Int → Int
  | [] => 0
  | [c] => c
  | _ :: c :: l => lead (c :: l)
theorem dv_length (r : Int) : ∀ l, (dv r l).length = l.length - 1
  | [] => rfl
  | [_] => rfl
  | _ :: c :: l => by rw [dv, List.length_cons, dv_length r (c :: l)]; simp
theorem dv_lead (r : Int) : ∀ a c l, lead (dv r (a :: c :: l)) = lead (a :: c :: l)
  | a, c, [] => by simp [dv, lead, ev]
  | a, c, d :: l => by
    have ih := dv_lead r c d l
    rw [dv]
    rw [show lead (a :: c :: d :: l) = lead (c :: d :: l) from rfl, ← ih]
    rw [dv]; rfl
theorem int_prime {p : Nat} (hp : Prm p) {a b : Int} (h : (p : Int) ∣ a * b) : (p : Int) ∣ a ∨ (p : Int) ∣ b := by
  rw [← Int.natAbs_dvd_natAbs, Int.natAbs_mul, Int.natAbs_natCast] at h
  rw [← Int.natAbs_dvd_natAbs, ← Int.natAbs_dvd_natAbs (b := b), Int.natAbs_natCast]
  rcases hp.prod _ _ (Nat.mod_eq_zero_of_dvd h) with e | e
  · exact Or.inl (Nat.dvd_of_mod_eq_zero e)
  · exact Or.inr (Nat.dvd_of_mod_eq_zero e)
theorem roots_le {p : Nat} (hp : Prm p) : ∀ (n : Nat) (l : List Int), l.length = n + 1 → ¬ (p : Int) ∣ lead l → ∀ rs : List Nat, rs.Nodup → (∀ r ∈ rs, r < p ∧ (p : Int) ∣ ev l r) → rs.length ≤ n
  | _, _, _, _, [], _, _ => Nat.zero_le _
  | 0, l, hl, hn, r :: rs, _, h => by
    obtain ⟨c, rfl⟩ : ∃ c, l = [c] := by
      match l, hl with
      | [c], _ => exact ⟨c, rfl⟩
    have := (h r (by simp)).2
    simp [ev] at this
    exact absurd this hn
  | n + 1, l, hl, hn, r :: rs, hd, h => by
    obtain ⟨a, c, t, rfl⟩ : ∃ a c t, l = a :: c :: t := by
      match l, hl with
      | a :: c :: t, _ => exact ⟨a, c, t, rfl⟩
    rw [List.nodup_cons] at hd
    have h0 := h r (by simp)
    have := roots_le hp n (dv r (a :: c :: t)) (by rw [dv_length]; simp at hl ⊢; omega) (by rw [dv_lead]; exact hn) rs hd.2 fun s hs => by
      obtain ⟨h1, h2⟩ := h s (by simp [hs])
      refine ⟨h1, ?_⟩
      have e := ev_dv (r : Int) (s : Int) (a :: c :: t)
      have h3 : (p : Int) ∣ ((s : Int) - r) * ev (dv r (a :: c :: t)) s := by rw [← e]; exact Int.dvd_sub h2 h0.2
      rcases int_prime hp h3 with h4 | h4
      · exfalso
        have hne : s ≠ r := fun e => hd.1 (e ▸ hs)
        obtain ⟨k, hk⟩ := h4
        have hr := h0.1
        have hk0 : k = 0 := by
          refine Classical.byContradiction fun hk0 => ?_
          rcases Int.lt_or_lt_of_ne hk0 with hk1 | hk1
          · have : (p : Int) * k ≤ p * (-1) := Int.mul_le_mul_of_nonneg_left (by omega) (by omega)
            omega
          · have : (p : Int) * 1 ≤ p * k := Int.mul_le_mul_of_nonneg_left (by omega) (by omega)
            omega
        rw [hk0] at hk
        omega
      · exact h4
    simp
    exact this
def mon : Nat → List Int
  | 0 => [1]
  | k + 1 => 0 :: mon k
theorem mon_ev (x : Int) : ∀ k, ev (mon k) x = x ^ k
  | 0 => by simp [mon, ev]
  | k + 1 => by rw [mon, ev, mon_ev x k, Int.pow_succ, Int.zero_add, Int.mul_comm]
theorem mon_len : ∀ k, (mon k).length = k + 1
  | 0 => rfl
  | k + 1 => by rw [mon, List.length_cons, mon_len k]
theorem lead_cons (a : Int) : ∀ l : List Int, l ≠ [] → lead (a :: l) = lead l
  | [], h => absurd rfl h
  | _ :: _, _ => rfl
theorem mon_ne : ∀ k, mon k ≠ []
  | 0 => by simp [mon]
  | k + 1 => by simp [mon]
theorem mon_lead : ∀ k, lead (mon k) = 1
  | 0 => rfl
  | k + 1 => by rw [mon, lead_cons _ _ (mon_ne k), mon_lead k]
/-- Not all are roots of 1. -/
theorem ex_not_one {p : Nat} (hp : Prm p) {d : Nat} (h1 : 1 ≤ d) (hd : d < p - 1) : ∃ x, 1 ≤ x ∧ x < p ∧ x ^ d % p ≠ 1 := by
  refine Classical.byContradiction fun hn => ?_
  have h2 := hp.1
  obtain ⟨k, rfl⟩ : ∃ k, d = k + 1 := ⟨d - 1, by omega⟩
  have := roots_le hp (k + 1) ((-1) :: mon k) (by simp [mon_len]) (by
      rw [lead_cons _ _ (mon_ne k), mon_lead]
      intro h
      have := Int.le_of_dvd (by omega) h; omega) ((List.range (p - 1)).map (· + 1)) (List.Pairwise.map _ (fun a b h => by omega) List.nodup_range) (by
      intro r hr
      rw [List.mem_map] at hr
      obtain ⟨i, hi, rfl⟩ := hr
      rw [List.mem_range] at hi
      refine ⟨by omega, ?_⟩
      have h5 : (i + 1) ^ (k + 1) % p = 1 := Classical.byContradiction fun h => hn ⟨i + 1, by omega, by omega, h⟩
      rw [ev, mon_ev]
      have h6 := Nat.div_add_mod ((i + 1) ^ (k + 1)) p
      rw [h5] at h6
      refine ⟨(((i + 1) ^ (k + 1) / p : Nat) : Int), ?_⟩
      have h7 : (((i + 1 : Nat) : Int)) * ((i + 1 : Nat) : Int) ^ k = (((i + 1) ^ (k + 1) : Nat) : Int) := by
        rw [Int.natCast_pow, Int.pow_succ, Int.mul_comm]
      rw [h7]
      have h8 : (((i + 1) ^ (k + 1) : Nat) : Int) = (p : Int) * (((i + 1) ^ (k + 1) / p : Nat) : Int) + 1 := by
        rw [← Int.natCast_mul]; omega
      rw [h8]
      omega)
  simp at this
  omega

/-! ### A number whose powers are all -/
theorem pow_dvd_one {x p a b : Nat} (h : x ^ a % p = 1 % p) (hd : a ∣ b) : x ^ b % p = 1 % p := by
  obtain ⟨k, rfl⟩ := hd
  exact pow_one_mul x p a k h
theorem not_dvd_pow {p : Nat} (hp : Prm p) {x : Nat} (h : ¬ p ∣ x) : ∀ k, ¬ p ∣ x ^ k
  | 0 => fun hd => by rw [Nat.pow_zero] at hd; have := Nat.le_of_dvd (by omega) hd; have := hp.1; omega
  | k + 1 => fun hd => by
    rw [Nat.pow_succ] at hd
    rcases hp.prod _ _ (Nat.mod_eq_zero_of_dvd hd) with e | e
    · exact not_dvd_pow hp h k (Nat.dvd_of_mod_eq_zero e)
    · exact h (Nat.dvd_of_mod_eq_zero e)
/-- For a prime factor of p - 1: a number that lacks just it. -/
theorem one_factor {p q : Nat} (hp : Prm p) (h3 : 3 ≤ p) (hq : Prm q) (hd : q ∣ p - 1) : ∃ y, ¬ p ∣ y ∧ y ^ ((p - 1) / q) % p ≠ 1 ∧ ∀ r, Prm r → r ∣ p - 1 → r ≠ q → y ^ ((p - 1) / r) % p = 1 := by
  have e1 : (1 : Nat) % p = 1 := Nat.mod_eq_of_lt (by omega)
  obtain ⟨n, hn⟩ : ∃ n, p - 1 = n := ⟨_, rfl⟩
  rw [hn] at hd ⊢
  have hn1 : 1 ≤ n := by omega
  have hq2 := hq.1
  have hqn : 1 ≤ n / q := Nat.div_pos (Nat.le_of_dvd hn1 hd) (by omega)
  have hlt : n / q < n := Nat.div_lt_self hn1 hq2
  obtain ⟨x, hx1, hx2, hx⟩ := ex_not_one hp hqn (by omega)
  have hpx : ¬ p ∣ x := fun h => by have := Nat.le_of_dvd hx1 h; omega
  have hf : x ^ n % p = 1 := by rw [← hn]; exact fermat hp hpx
  obtain ⟨m, hm, hqm⟩ := vp_ex q hq2 n hn1
  obtain ⟨e, he⟩ : ∃ e, vp q n = e := ⟨_, rfl⟩
  rw [he] at hm
  have hy : (x ^ m) ^ (q ^ e) % p = 1 % p := by rw [← Nat.pow_mul, Nat.mul_comm m, ← hm, e1]; exact hf
  refine ⟨x ^ m, not_dvd_pow hp hpx m, fun hbad => ?_, fun r hr hrd hne => ?_⟩
  · rw [← Nat.pow_mul, Nat.mul_comm, Nat.pow_mul] at hbad
    have hz : (x ^ (n / q)) ^ q % p = 1 % p := by
      rw [← Nat.pow_mul, Nat.div_mul_cancel hd, e1]; exact hf
    have := pow_gcd (x ^ (n / q)) p q m hz (by rw [e1]; exact hbad)
    rw [show Nat.gcd q m = 1 from hq.coprime hqm, Nat.pow_one, e1] at this
    exact hx this
  · have : q ^ e ∣ n / r := by
      have h1 : q ^ e ∣ r * (n / r) := by rw [Nat.mul_div_cancel' hrd]; exact ⟨m, hm⟩
      have hc : Nat.Coprime (q ^ e) r := Nat.Coprime.pow_left e (hq.coprime fun h => by
        rcases hr.2 q h with e | e
        · omega
        · exact hne e.symm)
      exact hc.dvd_of_dvd_mul_left h1
    rw [pow_dvd_one hy this, e1]
theorem some_factors {p : Nat} (hp : Prm p) (h3 : 3 ≤ p) : ∀ l : List Nat, l.Nodup → (∀ q ∈ l, Prm q ∧ q ∣ p - 1) → ∃ g, ¬ p ∣ g ∧ ∀ q, Prm q → q ∣ p - 1 → (q ∈ l → g ^ ((p - 1) / q) % p ≠ 1) ∧ (q ∉ l → g ^ ((p - 1) / q) % p = 1)
  | [], _, _ => ⟨1, fun h => by have := Nat.le_of_dvd (by omega) h; omega, fun q _ _ => ⟨fun h => by simp at h, fun _ => by rw [Nat.one_pow]; exact Nat.mod_eq_of_lt (by omega)⟩⟩
  | q0 :: l, hnd, hl => by
    rw [List.nodup_cons] at hnd
    obtain ⟨g, hg, hgs⟩ := some_factors hp h3 l hnd.2 fun q hq => hl q (by simp [hq])
    obtain ⟨pq, dq⟩ := hl q0 (by simp)
    obtain ⟨y, hy, hy1, hy2⟩ := one_factor hp h3 pq dq
    refine ⟨g * y, fun h => ?_, fun q hq hqd => ?_⟩
    · rcases hp.prod _ _ (Nat.mod_eq_zero_of_dvd h) with e | e
      · exact hg (Nat.dvd_of_mod_eq_zero e)
      · exact hy (Nat.dvd_of_mod_eq_zero e)
    · obtain ⟨a, b⟩ := hgs q hq hqd
      rw [Nat.mul_pow]
      by_cases e : q = q0
      · subst e
        have h1 := b hnd.1
        refine ⟨fun _ => ?_, fun h => absurd (by simp) h⟩
        rw [Nat.mul_mod, h1, Nat.one_mul, Nat.mod_mod]; exact hy1
      · have h1 := hy2 q hq hqd e
        have e2 : g ^ ((p - 1) / q) * y ^ ((p - 1) / q) % p = g ^ ((p - 1) / q) % p := by rw [Nat.mul_mod, h1, Nat.mul_one, Nat.mod_mod]
        rw [e2]
        refine ⟨fun h => a ?_, fun h => b fun h' => h (by simp [h'])⟩
        rw [List.mem_cons] at h
        exact h.resolve_left e
/-- Whether no power but that of p - 1, and its multiples, is 1. -/
def GenP (g p : Nat) : Prop := ∀ q ∈ pf (p - 1), g ^ ((p - 1) / q) % p ≠ 1
theorem ex_gen {p : Nat} (hp : Prm p) (h3 : 3 ≤ p) : ∃ g, 2 ≤ g ∧ g < p ∧ GenP g p := by
  have hn1 : 1 ≤ p - 1 := by omega
  obtain ⟨g, hg, h⟩ := some_factors hp h3 (pf (p - 1)) ((pf_sorted _).imp fun h => by omega) fun q hq => (mem_pf hn1).1 hq
  have hG : GenP (g % p) p := by
    intro q hq
    obtain ⟨a, b⟩ := (mem_pf hn1).1 hq
    rw [← Nat.pow_mod]
    exact (h q a b).1 hq
  have h0 : g % p ≠ 0 := fun e => hg (Nat.dvd_of_mod_eq_zero e)
  have h1 : g % p ≠ 1 := by
    intro e
    obtain ⟨q, hq, hd⟩ := has_prime (p - 1) (by omega)
    have := hG q ((mem_pf hn1).2 ⟨hq, hd⟩)
    rw [e, Nat.one_pow, Nat.mod_eq_of_lt (by omega)] at this
    exact this rfl
  exact ⟨g % p, by omega, Nat.mod_lt _ (by omega), hG⟩
theorem least {P : Nat → Prop} : ∀ n, P n → ∃ m, m ≤ n ∧ P m ∧ ∀ k, k < m → ¬ P k := by
  intro n
  induction n using Nat.strongRecOn with
  | ind n ih =>
    intro h
    by_cases hs : ∃ k, k < n ∧ P k
    · obtain ⟨k, hk, hP⟩ := hs
      obtain ⟨m, h1, h2, h3⟩ := ih k hk hP
      exact ⟨m, by omega, h2, h3⟩
    · exact ⟨n, Nat.le_refl _, h, fun k hk hP => hs ⟨k, hk, hP⟩⟩
theorem ex_least_gen {p : Nat} (hp : Prm p) (h3 : 3 ≤ p) : ∃ g, 2 ≤ g ∧ g < p ∧ GenP g p ∧ ∀ k, 2 ≤ k → k < g → ¬ GenP k p := by
  obtain ⟨g, h1, h2, h⟩ := ex_gen hp h3
  obtain ⟨m, a, b, c⟩ := least (P := fun g => 2 ≤ g ∧ GenP g p) g ⟨h1, h⟩
  exact ⟨m, b.1, by omega, b.2, fun k hk hl hP => c k hl ⟨hk, hP⟩⟩
/-- An odd prime up to 2^16. -/
def Odd16 (p : Nat) : Prop := Prm p ∧ 3 ≤ p ∧ p ≤ 65536
open Classical in
/-- The least number whose powers are all; 0 of what is no odd prime up to 2^16. -/
noncomputable def genOf (p : Nat) : Nat := if h : Odd16 p then Classical.choose (ex_least_gen h.1 h.2.1) else 0
theorem genOf_spec {p : Nat} (h : Odd16 p) : 2 ≤ genOf p ∧ genOf p < p ∧ GenP (genOf p) p ∧ ∀ k, 2 ≤ k → k < genOf p → ¬ GenP k p := by
  unfold genOf
  rw [dif_pos h]
  exact Classical.choose_spec (ex_least_gen h.1 h.2.1)
theorem genOf_no {p : Nat} (h : ¬ Odd16 p) : genOf p = 0 := by unfold genOf; rw [dif_neg h]
theorem gen_luc {p g : Nat} (hp : Prm p) (h3 : 3 ≤ p) (hg : ¬ p ∣ g) (h : GenP g p) : Luc p g (powsOf (p - 1) (pf (p - 1))) := by
  have hn1 : 1 ≤ p - 1 := by omega
  refine ⟨h3, fun x hx => ?_, prod_fac hn1, fermat hp hg, fun x hx => ?_⟩
  · obtain ⟨q, hq, rfl⟩ := List.mem_map.1 hx
    exact ((mem_pf hn1).1 hq).1
  · obtain ⟨q, hq, rfl⟩ := List.mem_map.1 hx
    exact h q hq
/-- The least exponent of a power that is 1 is p - 1 just for such numbers. -/
theorem order_gen {p g n : Nat} (hp : Prm p) (h3 : 3 ≤ p) (hg : ¬ p ∣ g) (hn : 1 ≤ n) (h1 : g ^ n % p = 1) (hl : ∀ k, 1 ≤ k → k < n → g ^ k % p ≠ 1) : n = p - 1 ↔ GenP g p := by
  have hn1 : 1 ≤ p - 1 := by omega
  constructor
  · intro e q hq
    obtain ⟨a, b⟩ := (mem_pf hn1).1 hq
    have h2 := a.1
    exact hl _ (Nat.div_pos (Nat.le_of_dvd hn1 b) (by omega)) (by rw [e]; exact Nat.div_lt_self hn1 h2)
  · intro h
    have hd := (gen_luc hp h3 hg h).order n h1
    have := Nat.le_of_dvd hn hd
    have hf := fermat hp hg
    by_cases e : n = p - 1
    · exact e
    · exact absurd hf (hl (p - 1) hn1 (by omega))
end Go.Proofs.Ytafmmkhegkceiaa

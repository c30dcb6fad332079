/-
  Plain mathematics of layer 5: what a prime's proof leans on, that it is never more than 12 numbers up to 2^16, and the row of them.
-/
import Derived.Test.YtafmmkhegkceiaaGenM
import Derived.Test.YtafmmkhegkceiaaCloT
namespace Go.Proofs.Ytafmmkhegkceiaa

/-- What a prime leans on: itself, the odd primes that divide it less 1, what these lean on. -/
def Cl (p x : Nat) : Prop := ∀ S : Nat → Prop, S p → (∀ r q, S r → Prm q → q ≠ 2 → q ∣ r - 1 → S q) → S x
theorem Cl.self {p : Nat} : Cl p p := fun _ h _ => h
theorem Cl.step {p r q : Nat} (h : Cl p r) (hq : Prm q) (h2 : q ≠ 2) (hd : q ∣ r - 1) : Cl p q := fun S h0 hs => hs r q (h S h0 hs) hq h2 hd
theorem Cl.ind {p x : Nat} (h : Cl p x) (S : Nat → Prop) (h0 : S p) (hs : ∀ r q, Cl p r → S r → Prm q → q ≠ 2 → q ∣ r - 1 → S q) : S x :=
  (h (fun y => Cl p y ∧ S y) ⟨Cl.self, h0⟩ fun r q a c d e => ⟨Cl.step a.1 c d e, hs r q a.1 a.2 c d e⟩).2
theorem Cl.last {p x : Nat} (h : Cl p x) : x = p ∨ ∃ r, Cl p r ∧ Prm x ∧ x ≠ 2 ∧ x ∣ r - 1 :=
  h.ind (fun x => x = p ∨ ∃ r, Cl p r ∧ Prm x ∧ x ≠ 2 ∧ x ∣ r - 1) (Or.inl rfl) fun r _ a _ c d e => Or.inr ⟨r, a, c, d, e⟩
theorem Cl.split {p x : Nat} (h : Cl p x) : x = p ∨ ∃ r, Prm r ∧ r ≠ 2 ∧ r ∣ p - 1 ∧ Cl r x := by
  refine h.ind (fun x => x = p ∨ ∃ r, Prm r ∧ r ≠ 2 ∧ r ∣ p - 1 ∧ Cl r x) (Or.inl rfl) fun r q _ ih hq h2 hd => ?_
  rcases ih with rfl | ⟨s, a, b, c, d⟩
  · exact Or.inr ⟨_, hq, h2, hd, Cl.self⟩
  · exact Or.inr ⟨s, a, b, c, Cl.step d hq h2 hd⟩
theorem Cl.trans {p r x : Nat} (h1 : Cl p r) (h2 : Cl r x) : Cl p x :=
  h2.ind (fun x => Cl p x) h1 fun _ _ _ ih hq h2 hd => Cl.step ih hq h2 hd
theorem Cl.odd {p x : Nat} (hp : Odd16 p) (h : Cl p x) : Odd16 x ∧ x ≤ p := by
  refine h.ind (fun x => Odd16 x ∧ x ≤ p) ⟨hp, Nat.le_refl _⟩ fun r q _ ih hq h2 hd => ?_
  have h3 := ih.1.2.1
  have := Nat.le_of_dvd (by omega) hd
  have := ih.1.2.2
  have h4 := hq.1
  exact ⟨⟨hq, by omega, by omega⟩, by omega⟩

/-! ### How many -/
theorem stripB_eq (d : Nat) : ∀ (f e : Nat), ∃ j, e = d ^ j * stripB d f e
  | 0, e => ⟨0, by rw [Nat.pow_zero, Nat.one_mul]; rfl⟩
  | f + 1, e => by
    unfold stripB
    cases h : Nat.beq (e % d) 0 with
    | true =>
      obtain ⟨j, hj⟩ := stripB_eq d f (e / d)
      have he : e % d = 0 := Nat.eq_of_beq_eq_true h
      refine ⟨j + 1, ?_⟩
      show e = d ^ (j + 1) * stripB d f (e / d)
      rw [Nat.pow_succ, Nat.mul_comm (d ^ j) d, Nat.mul_assoc, ← hj]
      exact (Nat.mul_div_cancel' (Nat.dvd_of_mod_eq_zero he)).symm
    | false => exact ⟨0, by rw [Nat.pow_zero, Nat.one_mul]; rfl⟩
theorem prime_dvd_pow {q d : Nat} (hq : Prm q) : ∀ j, q ∣ d ^ j → q ∣ d
  | 0, h => by rw [Nat.pow_zero] at h; have := Nat.le_of_dvd (by omega) h; have := hq.1; omega
  | j + 1, h => by
    rw [Nat.pow_succ] at h
    rcases hq.prod _ _ (Nat.mod_eq_zero_of_dvd h) with e | e
    · exact prime_dvd_pow hq j (Nat.dvd_of_mod_eq_zero e)
    · exact Nat.dvd_of_mod_eq_zero e
theorem six_fact : ∀ r, r < 4 → (r < 2 ∨ 6 % r = 0) := by decide
set_option maxRecDepth 10000 in
theorem thirteen_fact : ∀ r, r < 14 → (r < 2 ∨ 6227020800 % r = 0) := by decide
theorem coprime_no {m F B : Nat} (hg : Nat.gcd m F = 1) (hF : ∀ r, r < B → (r < 2 ∨ F % r = 0)) (r : Nat) (hr : Prm r) (hl : r < B) : ¬ r ∣ m := fun hd => by
  rcases hF r hl with h | h
  · have := hr.1; omega
  · have := Nat.dvd_gcd hd (Nat.dvd_of_mod_eq_zero h)
    rw [hg] at this
    have := Nat.le_of_dvd (by omega) this
    have := hr.1; omega
theorem prB_prm {m : Nat} (h2 : 2 ≤ m) (hm : m < 32768) (h : prB m = true) : Prm m := by
  unfold prB at h
  cases h1 : Nat.ble 182 m with
  | true =>
    rw [h1] at h
    exact prm_of_root (d := 182) h2 (by omega) (coprime_no (Nat.eq_of_beq_eq_true h) facF_dvd)
  | false =>
    rw [h1] at h
    have hm1 : ¬ 182 ≤ m := fun hl => by rw [Nat.ble_eq_true_of_le hl] at h1; cases h1
    cases h3 : Nat.ble 14 m with
    | true =>
      rw [h3] at h
      exact prm_of_root (d := 14) h2 (by omega) (coprime_no (Nat.eq_of_beq_eq_true h) thirteen_fact)
    | false =>
      rw [h3] at h
      have hm2 : ¬ 14 ≤ m := fun hl => by rw [Nat.ble_eq_true_of_le hl] at h3; cases h3
      cases h4 : Nat.ble 4 m with
      | true =>
        rw [h4] at h
        exact prm_of_root (d := 4) h2 (by omega) (coprime_no (Nat.eq_of_beq_eq_true h) six_fact)
      | false =>
        rw [h4] at h
        have : m = 3 := Nat.eq_of_beq_eq_true h
        subst this
        exact prm_of_root (d := 2) (by omega) (by omega) fun r hr hl => by have := hr.1; omega
/-- A list of all that the primes of m lean on, no longer than u. -/
def Few (m u : Nat) : Prop := ∃ L : List Nat, L.length ≤ u ∧ ∀ q, Prm q → q ≠ 2 → q ∣ m → ∀ x, Cl q x → x ∈ L
theorem few_prime {m k u : Nat} (hm : Prm m) (hk : ∀ q, Prm q → q ≠ 2 → q ∣ m - 1 → q ∣ k) (h : Few k u) : Few m (1 + u) := by
  obtain ⟨L, hl, hL⟩ := h
  refine ⟨m :: L, by simp; omega, fun q hq h2 hd x hx => ?_⟩
  obtain rfl : q = m := by
    rcases hm.2 q hd with e | e
    · have := hq.1; omega
    · exact e
  rcases hx.split with rfl | ⟨r, a, b, c, d⟩
  · simp
  · exact List.mem_cons_of_mem _ (hL r a b (hk r a b c) x d)
theorem few_mul {m d e ud ue : Nat} (hq : ∀ q, Prm q → q ∣ m → q ∣ d ∨ q ∣ e) (hd : Few d ud) (he : Few e ue) : Few m (ud + ue) := by
  obtain ⟨L1, l1, h1⟩ := hd
  obtain ⟨L2, l2, h2⟩ := he
  refine ⟨L1 ++ L2, by simp; omega, fun q pq n2 hdv x hx => ?_⟩
  rw [List.mem_append]
  rcases hq q pq hdv with h | h
  · exact Or.inl (h1 q pq n2 h x hx)
  · exact Or.inr (h2 q pq n2 h x hx)
theorem Few.mono {m u v : Nat} (h : Few m u) (hv : u ≤ v) : Few m v := by
  obtain ⟨L, a, b⟩ := h
  exact ⟨L, by omega, b⟩
theorem oddpart {n : Nat} (hn : 1 ≤ n) (q : Nat) (hq : Prm q) (h2 : q ≠ 2) (hd : q ∣ n) : q ∣ n / Nat.gcd n 65536 := by
  obtain ⟨k, hk⟩ := Nat.gcd_dvd_left n 65536
  have hg : 0 < Nat.gcd n 65536 := Nat.gcd_pos_of_pos_left _ hn
  have e : n / Nat.gcd n 65536 = k := by
    conv => lhs; arg 1; rw [hk]
    exact Nat.mul_div_cancel_left _ hg
  rw [e]
  have hd' : q ∣ Nat.gcd n 65536 * k := hk ▸ hd
  rcases hq.prod _ _ (Nat.mod_eq_zero_of_dvd hd') with h | h
  · exfalso
    have h5 : q ∣ 2 ^ 16 := Nat.dvd_trans (Nat.dvd_of_mod_eq_zero h) (Nat.gcd_dvd_right n 65536)
    rcases prm_two.2 q (prime_dvd_pow hq 16 h5) with a | a
    · have := hq.1; omega
    · exact h2 a
  · exact Nat.dvd_of_mod_eq_zero h
theorem few_all : ∀ i, i < 16384 → Few (2 * i + 1) (uOf i) := by
  intro i
  induction i using Nat.strongRecOn with
  | ind i ih =>
    intro hi
    have hc := chk_at i hi
    unfold chk at hc
    rw [Bool.and_eq_true] at hc
    obtain ⟨_, hc⟩ := hc
    by_cases h0 : i = 0
    · subst h0
      refine ⟨[], by simp, fun q hq _ hd => ?_⟩
      have := Nat.le_of_dvd (by omega) hd
      have := hq.1; omega
    · have hb : Nat.beq i 0 = false := by
        cases hb : Nat.beq i 0 with
        | false => rfl
        | true => exact absurd (Nat.eq_of_beq_eq_true hb) h0
      rw [hb] at hc
      obtain ⟨m, hm⟩ : ∃ m, 2 * i + 1 = m := ⟨_, rfl⟩
      rw [hm] at hc ⊢
      cases hh : Nat.beq (hOf i) 0 with
      | true =>
        rw [hh] at hc
        replace hc : chkP m (uOf i) = true := hc
        unfold chkP at hc
        rw [Bool.and_eq_true, Bool.and_eq_true] at hc
        obtain ⟨hp, hodd, hle⟩ := hc
        obtain ⟨k, hk⟩ : ∃ k, (m - 1) / Nat.gcd (m - 1) 65536 = k := ⟨_, rfl⟩
        rw [hk] at hodd hle
        have hodd' := Nat.eq_of_beq_eq_true hodd
        have hle' := Nat.le_of_ble_eq_true hle
        have hpm := prB_prm (by omega) (by omega) hp
        have hg : Nat.gcd (m - 1) 65536 ≥ 2 := by
          have : 2 ∣ Nat.gcd (m - 1) 65536 := Nat.dvd_gcd ⟨i, by omega⟩ ⟨32768, rfl⟩
          exact Nat.le_of_dvd (Nat.gcd_pos_of_pos_left _ (by omega)) this
        have hkl : k ≤ (m - 1) / 2 := by rw [← hk]; exact Nat.div_le_div_left hg (by omega)
        have hf := ih (k / 2) (by omega) (by omega)
        rw [show 2 * (k / 2) + 1 = k by omega] at hf
        exact (few_prime hpm (fun q a b c => hk ▸ oddpart (by omega) q a b c) hf).mono hle'
      | false =>
        rw [hh] at hc
        replace hc : chkC m (hOf i) (uOf i) = true := hc
        unfold chkC at hc
        obtain ⟨d, hd⟩ : ∃ d, hOf i = d := ⟨_, rfl⟩
        rw [hd] at hc
        simp only [Bool.and_eq_true] at hc
        obtain ⟨c1, c2, c3, c4, c5, c6⟩ := hc
        have d2 := Nat.le_of_ble_eq_true c1
        have dm := Nat.dvd_of_mod_eq_zero (Nat.eq_of_beq_eq_true c2)
        have dl := Nat.le_of_ble_eq_true c3
        have do' := Nat.eq_of_beq_eq_true c4
        obtain ⟨j, hj⟩ := stripB_eq d 16 (m / d)
        obtain ⟨e, he⟩ : ∃ e, stripB d 16 (m / d) = e := ⟨_, rfl⟩
        rw [he] at c5 c6 hj
        have eo := Nat.eq_of_beq_eq_true c5
        have ul := Nat.le_of_ble_eq_true c6
        have hmd : m = d * (m / d) := (Nat.mul_div_cancel' dm).symm
        have hel : e ≤ m / d := Nat.le_of_dvd (Nat.div_pos (by omega) (by omega)) ⟨d ^ j, by rw [Nat.mul_comm]; exact hj⟩
        have hml : m / d ≤ m / 2 := Nat.div_le_div_left d2 (by omega)
        have f1 := ih (d / 2) (by omega) (by omega)
        rw [show 2 * (d / 2) + 1 = d by omega] at f1
        have f2 := ih (e / 2) (by omega) (by omega)
        rw [show 2 * (e / 2) + 1 = e by omega] at f2
        refine (few_mul (fun q hq hdv => ?_) f1 f2).mono ul
        rw [hmd] at hdv
        rcases hq.prod _ _ (Nat.mod_eq_zero_of_dvd hdv) with h | h
        · exact Or.inl (Nat.dvd_of_mod_eq_zero h)
        · have h' := Nat.dvd_of_mod_eq_zero h
          rw [hj] at h'
          rcases hq.prod _ _ (Nat.mod_eq_zero_of_dvd h') with h | h
          · exact Or.inl (prime_dvd_pow hq j (Nat.dvd_of_mod_eq_zero h))
          · exact Or.inr (Nat.dvd_of_mod_eq_zero h)
/-- NEVER MORE THAN 12. -/
theorem row_few {p : Nat} (hp : Odd16 p) : ∃ L : List Nat, L.length ≤ 12 ∧ ∀ x, Cl p x → x ∈ L := by
  obtain ⟨pp, h3, h6⟩ := hp
  have hpo : p % 2 = 1 := by
    rcases Nat.mod_two_eq_zero_or_one p with h | h
    · rcases pp.2 2 (Nat.dvd_of_mod_eq_zero h) with e | e <;> omega
    · exact h
  obtain ⟨k, hk⟩ : ∃ k, (p - 1) / Nat.gcd (p - 1) 65536 = k := ⟨_, rfl⟩
  have hg2 : 2 ∣ Nat.gcd (p - 1) 65536 := Nat.dvd_gcd ⟨(p - 1) / 2, by omega⟩ ⟨32768, rfl⟩
  have hgp : 0 < Nat.gcd (p - 1) 65536 := Nat.gcd_pos_of_pos_left _ (by omega)
  have hg : Nat.gcd (p - 1) 65536 ≥ 2 := Nat.le_of_dvd hgp hg2
  have hkl : k ≤ (p - 1) / 2 := by rw [← hk]; exact Nat.div_le_div_left hg (by omega)
  have hkm : p - 1 = Nat.gcd (p - 1) 65536 * k := by rw [← hk]; exact (Nat.mul_div_cancel' (Nat.gcd_dvd_left _ _)).symm
  have hk0 : 0 < k := Nat.pos_of_ne_zero fun e => by rw [e, Nat.mul_zero] at hkm; omega
  have hkodd : k % 2 = 1 := by
    rcases Nat.mod_two_eq_zero_or_one k with h | h
    · exfalso
      obtain ⟨t, ht⟩ := Nat.dvd_of_mod_eq_zero h
      -- twice the common divisor divides both, or it is 2^16
      have hgd : Nat.gcd (p - 1) 65536 ∣ 2 ^ 16 := Nat.gcd_dvd_right (p - 1) 65536
      obtain ⟨s, hs⟩ := hgd
      rcases Nat.mod_two_eq_zero_or_one s with h5 | h5
      · obtain ⟨r, hr⟩ := Nat.dvd_of_mod_eq_zero h5
        have hd1 : Nat.gcd (p - 1) 65536 * 2 ∣ p - 1 := ⟨t, by rw [Nat.mul_assoc, ← ht]; exact hkm⟩
        have hd2 : Nat.gcd (p - 1) 65536 * 2 ∣ 65536 := ⟨r, by rw [Nat.mul_assoc, ← hr]; exact hs⟩
        have := Nat.le_of_dvd hgp (Nat.dvd_gcd hd1 hd2)
        omega
      · have hs1 : s = 1 := by
          refine Classical.byContradiction fun hne => ?_
          have hs0 : 2 ≤ s := by
            rcases Nat.lt_or_ge s 2 with h | h
            · exfalso
              have : s = 0 := by omega
              rw [this, Nat.mul_zero] at hs; omega
            · exact h
          obtain ⟨q, hq, hqd⟩ := has_prime s hs0
          have hq2 : q ∣ 2 ^ 16 := Nat.dvd_trans hqd ⟨Nat.gcd (p - 1) 65536, by rw [Nat.mul_comm]; exact hs⟩
          rcases prm_two.2 q (prime_dvd_pow hq 16 hq2) with a | a
          · have := hq.1; omega
          · rw [a] at hqd; obtain ⟨r, hr⟩ := hqd; omega
        rw [hs1, Nat.mul_one] at hs
        have : Nat.gcd (p - 1) 65536 ≤ p - 1 := Nat.le_of_dvd (by omega) (Nat.gcd_dvd_left _ _)
        have h216 : (2 : Nat) ^ 16 = 65536 := by decide
        omega
    · exact h
  have hf := few_all (k / 2) (by omega)
  rw [show 2 * (k / 2) + 1 = k by omega] at hf
  have hu : uOf (k / 2) ≤ 11 := by
    have hc := chk_at (k / 2) (by omega)
    unfold chk at hc
    rw [Bool.and_eq_true] at hc
    exact Nat.le_of_ble_eq_true hc.1
  obtain ⟨L, l1, l2⟩ := (few_prime pp (fun q a b c => hk ▸ oddpart (by omega) q a b c) hf).mono (show 1 + uOf (k / 2) ≤ 12 by omega)
  exact ⟨L, l1, l2 p pp (by omega) (Nat.dvd_refl _)⟩

/-! ### The row -/
open Classical in
noncomputable def clB (p x : Nat) : Bool := decide (Cl p x)
theorem clB_iff {p x : Nat} : clB p x = true ↔ Cl p x := by unfold clB; exact @decide_eq_true_iff _ (Classical.propDecidable _)
noncomputable def rowL (p : Nat) : List Nat := (List.range (p + 1)).filter (clB p)
theorem mem_rowL {p x : Nat} (hp : Odd16 p) : x ∈ rowL p ↔ Cl p x := by
  unfold rowL
  rw [List.mem_filter, List.mem_range, clB_iff]
  exact ⟨fun h => h.2, fun h => ⟨by have := (h.odd hp).2; omega, h⟩⟩
theorem rowL_sorted (p : Nat) : (rowL p).Pairwise (· < ·) := List.Pairwise.filter _ List.pairwise_lt_range
noncomputable def enOf (q : Nat) : En := ⟨q, genOf q, facOf (q - 1)⟩
noncomputable def rowOf (p : Nat) : List En := (rowL p).map enOf
end Go.Proofs.Ytafmmkhegkceiaa

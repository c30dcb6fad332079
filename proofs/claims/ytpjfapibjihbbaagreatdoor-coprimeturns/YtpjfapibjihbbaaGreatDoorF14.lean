/-
  Plain mathematics of layer 5: what a prime's proof leans on, that it is never more than 12 numbers up to 2^16, and the row of them.
-/
import Derived.Test.YtpjfapibjihbbaaGreatDoorF9
import Derived.Test.YtpjfapibjihbbaaGreatDoorF13
import Derived.Test.YtpjfapibjihbbaaGreatDoorF12
namespace Go.Proofs.YtpjfapibjihbbaaGreatDoor

/-- What a prime leans on: itself, the odd primes that divide it less 1, what these lean on. -/
def Cl (p x : Nat) : Prop := ∀ S : Nat → Prop, S p → (∀ r q, S r → Prm q → q ≠ 2 → q ∣ r - 1 → S q) → S x
theorem Cl.self {p : Nat} : Cl p p := fun _ h _ => h
theorem Cl.step {p r q : Nat} (h : Cl p r) (hq : Prm q) (h2 : q ≠ 2) (hd : q ∣ r - 1) : Cl p q := fun S h0 hs => hs r q (h S h0 hs) hq h2 hd
theorem Cl.ind {p x : Nat} (h : Cl p x) (S : Nat → Prop) (h0 : S p) (hs : ∀ r q, Cl p r → S r → Prm q → q ≠ 2 → q ∣ r - 1 → S q) : S x :=
  (h (fun y => Cl p y ∧ S y) ⟨Cl.self, h0⟩ fun r q a c d e => ⟨Cl.step a.1 c d e, hs r q a.1 a.2 c d e⟩).2
theorem Cl.last {p x : Nat} (h : Cl p x) : x = p ∨ ∃ r, Cl p r ∧ Prm x ∧ x ≠ 2 ∧ x ∣ r - 1 :=
  h.ind (fun x => x = p ∨ ∃ r, Cl p r ∧ Prm x ∧ x ≠ 2 ∧ x ∣ r - 1) (Or.inl rfl) fun r _ a _ c d e => Or.inr ⟨r, a, c, d, e⟩
theorem Cl.split {p x : Nat} (h : Cl p x) : x = p ∨ ∃ r, Prm r ∧ r ≠ 2 ∧ r ∣ p - 1 ∧ Cl r x := by
  refine h.ind (fun x => x = p ∨ ∃ r, Prm r ∧ r ≠ 2 ∧ r ∣ p - 1 ∧ Cl r x) (Or.inl rfl) fun r q _ ih hq h2 hd => ?_
  rcases ih with rfl | ⟨s, a, b, c, d⟩
  · exact Or.inr ⟨_, hq, h2, hd, Cl.self⟩
  · exact Or.inr ⟨s, a, b, c, Cl.step d hq h2 hd⟩
theorem Cl.trans {p r x : Nat} (h1 : Cl p r) (h2 : Cl r x) : Cl p x :=
  h2.ind (fun x => Cl p x) h1 fun _ _ _ ih hq h2 hd => Cl.step ih hq h2 hd
theorem Cl.odd {p x : Nat} (hp : Odd16 p) (h : Cl p x) : Odd16 x ∧ x ≤ p := by
  refine h.ind (fun x => Odd16 x ∧ x ≤ p) ⟨hp, Nat.le_refl _⟩ fun r q _ ih hq h2 hd => ?_
  have h3 := ih.1.2.1
  have := Nat.le_of_dvd (by omega) hd
  have := ih.1.2.2
  have h4 := hq.1
  exact ⟨⟨hq, by omega, by omega⟩, by omega⟩

/-! ### How many -/
theorem stripB_eq (d : Nat) : ∀ (f e : Nat), ∃ j, e = d ^ j * stripB d f e
  | 0, e => ⟨0, by rw [Nat.pow_zero, Nat.one_mul]; rfl⟩
  | f + 1, e => by
    unfold stripB
    cases h : Nat.beq (e % d) 0 with
    | true =>
      obtain ⟨j, hj⟩ := stripB_eq d f (e / d)
      have he : e % d = 0 := Nat.eq_of_beq_eq_true h
      refine ⟨j + 1, ?_⟩
      show e = d ^ (j + 1) * stripB d f (e / d)
      rw [Nat.pow_succ, Nat.mul_comm (d ^ j) d, Nat.mul_assoc, ← hj]
      exact (Nat.mul_div_cancel' (Nat.dvd_of_mod_eq_zero he)).symm
    | false => exact ⟨0, by rw [Nat.pow_zero, Nat.one_mul]; rfl⟩
theorem prime_dvd_pow {q d : Nat} (hq : Prm q) : ∀ j, q ∣ d ^ j → q ∣ d
  | 0, h => by rw [Nat.pow_zero] at h; have := Nat.le_of_dvd (by omega) h; have := hq.1; omega
  | j + 1, h => by
    rw [Nat.pow_succ] at h
    rcases hq.prod _ _ (Nat.mod_eq_zero_of_dvd h) with e | e
    · exact prime_dvd_pow hq j (Nat.dvd_of_mod_eq_zero e)
    · exact Nat.dvd_of_mod_eq_zero e
theorem six_fact : ∀ r, r < 4 → (r < 2 ∨ 6 % r = 0) := by decide
set_option maxRecDepth 10000 in
theorem thirteen_fact : ∀ r, r < 14 → (r < 2 ∨ 6227020800 % r = 0) := by decide
theorem coprime_no {m F B : Nat} (hg : Nat.gcd m F = 1) (hF : ∀ r, r < B → (r < 2 ∨ F % r = 0)) (r : Nat) (hr : Prm r) (hl : r < B) : ¬ r ∣ m := fun hd => by
  rcases hF r hl with h | h
  · have := hr.1; omega
  · have := Nat.dvd_gcd hd (Nat.dvd_of_mod_eq_zero h)
    rw [hg] at this
    have := Nat.le_of_dvd (by omega) this
    have := hr.1; omega
theorem prB_prm {m : Nat} (h2 : 2 ≤ m) (hm : m < 32768) (h : prB m = true) : Prm m := by
  unfold prB at h
  cases h1 : Nat.ble 182 m with
  | true =>
    rw [h1] at h
    exact prm_of_root (d := 182) h2 (by omega) (coprime_no (Nat.eq_of_beq_eq_true h) facF_dvd)
  | false =>
    rw [h1] at h
    have hm1 : ¬ 182 ≤ m := fun hl => by rw [Nat.ble_eq_true_of_le hl] at h1; cases h1
    cases h3 : Nat.ble 14 m with
    | true =>
      rw [h3] at h
      exact prm_of_root (d := 14) h2 (by omega) (coprime_no (Nat.eq_of_beq_eq_true h) thirteen_fact)
    | false =>
      rw [h3] at h
      have hm2 : ¬ 14 ≤ m := fun hl => by rw [Nat.ble_eq_true_of_le hl] at h3; cases h3
      cases h4 : Nat.ble 4 m with
      | true =>
        rw [h4] at h
        exact prm_of_root (d := 4) h2 (by omega) (coprime_no (Nat.eq_of_beq_eq_true h) six_fact)
      | false =>
        rw [h4] at h
        have : m = 3 := Nat.eq_of_beq_eq_true h
        subst this
        exact prm_of_root (d := 2) (by omega) (by omega) fun r hr hl => by have := hr.1; omega
/-- A list of all that the primes of m lean on, no longer than u. -/
def Few (m u : Nat) : Prop := ∃ L : List Nat, L.length ≤ u ∧ ∀ q, Prm q → q ≠ 2 → q ∣ m → ∀ x, Cl q x → x ∈ L
theorem few_prime {m k u : Nat} (hm : Prm m) (hk : ∀ q, Prm q → q ≠ 2 → q ∣ m - 1 → q ∣ k) (h : Few k u) : Few m (1 + u) := by
  obtain ⟨L, hl, hL⟩ := h
  refine ⟨m :: L, by simp; omega, fun q hq h2 hd x hx => ?_⟩
  obtain rfl : q = m := by
    rcases hm.2 q hd with e | e
    · have := hq.1; omega
    · exact e
  rcases hx.split with rfl | ⟨r, a, b, c, d⟩
  · simp
  · exact List.mem_cons_of_mem _ (hL r a b (hk r a b c) x d)
theorem few_mul {m d e ud ue : Nat} (hq : ∀ q, Prm q → q ∣ m → q ∣ d ∨ q ∣ e) (hd : Few d ud) (he : Few e ue) : Few m (ud + ue) := by
  obtain ⟨L1, l1, h1⟩ := hd
  obtain ⟨L2, l2, h2⟩ := he
  refine ⟨L1 ++ L2, by simp; omega, fun q pq n2 hdv x hx => ?_⟩
  rw [List.mem_append]
  rcases hq q pq hdv with h | h
  · exact Or.inl (h1 q pq n2 h x hx)
  · exact Or.inr (h2 q pq n2 h x hx)
theorem Few.mono {m u v : Nat} (h : Few m u) (hv : u ≤ v) : Few m v := by
  obtain ⟨L, a, b⟩ := h
  exact ⟨L, by omega, b⟩
theorem oddpart {n : Nat} (hn : 1 ≤ n) (q : Nat) (hq : Prm q) (h2 : q ≠ 2) (hd : q ∣ n) : q ∣ n / Nat.gcd n 65536 := by
  obtain ⟨k, hk⟩ := Nat.gcd_dvd_left n 65536
  have hg : 0 < Nat.gcd n 65536 := Nat.gcd_pos_of_pos_left _ hn
  have e : n / Nat.gcd n 65536 = k := by
    conv => lhs; arg 1; rw [hk]
    exact Nat.mul_div_cancel_left _ hg
  rw [e]
  have hd' : q ∣ Nat.gcd n 65536 * k := hk ▸ hd
  rcases hq.prod _ _ (Nat.mod_eq_zero_of_dvd hd') with h | h
  · exfalso
    have h5 : q ∣ 2 ^ 16 := Nat.dvd_trans (Nat.dvd_of_mod_eq_zero h) (Nat.gcd_dvd_right n 65536)
    rcases prm_two.2 q (prime_dvd_pow hq 16 h5) with a | a
    · have := hq.1; omega
    · exact h2 a
  · exact Nat.dvd_of_mod_eq_zero h
theorem few_all : ∀ i, i < 16384 → Few (2 * i + 1) (uOf i) := by
  intro i
  induction i using Nat.strongRecOn with
  | ind i ih =>
    intro hi
    have hc := chk_at i hi
    unfold chk at hc
    rw [Bool.and_eq_true] at hc
    obtain ⟨_, hc⟩ := hc
    by_cases h0 : i = 0
    · subst h0
      refine ⟨[], by simp, fun q hq _ hd => ?_⟩
      have := Nat.le_of_dvd (by omega) hd
      have := hq.1; omega
    · have hb : Nat.beq i 0 = false := by
        cases hb : Nat.beq i 0 with
        | false => rfl
        | true => exact absurd (Nat.eq_of_beq_eq_true hb) h0
      rw [hb] at hc
      obtain ⟨m, hm⟩ : ∃ m, 2 * i + 1 = m := ⟨_, rfl⟩
      rw [hm] at hc ⊢
      cases hh : Nat.beq (hOf i) 0 with
      | true =>
        rw [hh] at hc
        replace hc : chkP m (uOf i) = true := hc
        unfold chkP at hc
        rw [Bool.and_eq_true, Bool.and_eq_true] at hc
        obtain ⟨hp, hodd, hle⟩ := hc
        obtain ⟨k, hk⟩ : ∃ k, (m - 1) / Nat.gcd (m - 1) 65536 = k := ⟨_, rfl⟩
        rw [hk] at hodd hle
        have hodd' := Nat.eq_of_beq_eq_true hodd
        have hle' := Nat.le_of_ble_eq_true hle
        have hpm := prB_prm (by omega) (by omega) hp
        have hg : Nat.gcd (m - 1) 65536 ≥ 2 := by
          have : 2 ∣ Nat.gcd (m - 1) 65536 := Nat.dvd_gcd ⟨i, by omega⟩ ⟨32768, rfl⟩
          exact Nat.le_of_dvd (Nat.gcd_pos_of_pos_left _ (by omega)) this
        have hkl : k ≤ (m - 1) / 2 := by rw [← hk]; exact Nat.div_le_div_left hg (by omega)
        have hf := ih (k / 2) (by omega) (by omega)
        rw [show 2 * (k / 2) + 1 = k by omega] at hf
        exact (few_prime hpm (fun q a b c => hk ▸ oddpart (by omega) q a b c) hf).mono hle'
      | false =>
        rw [hh] at hc
        replace hc : chkC m (hOf i) (uOf i) = true := hc
        unfold chkC at hc
        obtain ⟨d, hd⟩ : ∃ d, hOf i = d := ⟨_, rfl⟩
        rw [hd] at hc
        simp only [Bool.and_eq_true] at hc
        obtain ⟨c1, c2, c3, c4, c5, c6⟩ := hc
        have d2 := Nat.le_of_ble_eq_true c1
        have dm := Nat.dvd_of_mod_eq_zero (Nat.eq_of_beq_eq_true c2)
        have dl := Nat.le_of_ble_eq_true c3
        have do' := Nat.eq_of_beq_eq_true c4
        obtain ⟨j, hj⟩ := stripB_eq d 16 (m / d)
        obtain ⟨e, he⟩ : ∃ e, stripB d 16 (m / d) = e := ⟨_, rfl⟩
        rw [he] at c5 c6 hj
        have eo := Nat.eq_of_beq_eq_true c5
        have ul := Nat.le_of_ble_eq_true c6
        have hmd : m = d * (m / d) := (Nat.mul_div_cancel' dm).symm
        have hel : e ≤ m / d := Nat.le_of_dvd (Nat.div_pos (by omega) (by omega)) ⟨d ^ j, by rw [Nat.mul_comm]; exact hj⟩
        have hml : m / d ≤ m / 2 := Nat.div_le_div_left d2 (by omega)
        have f1 := ih (d / 2) (by omega) (by omega)
        rw [show 2 * (d / 2) + 1 = d by omega] at f1
        have f2 := ih (e / 2) (by omega) (by omega)
        rw [show 2 * (e / 2) + 1 = e by omega] at f2
        refine (few_mul (fun q hq hdv => ?_) f1 f2).mono ul
        rw [hmd] at hdv
        rcases hq.prod _ _ (Nat.mod_eq_zero_of_dvd hdv) with h | h
        · exact Or.inl (Nat.dvd_of_mod_eq_zero h)
        · have h' := Nat.dvd_of_mod_eq_zero h
          rw [hj] at h'
          rcases hq.prod _ _ (Nat.mod_eq_zero_of_dvd h') with h | h
          · exact Or.inl (prime_dvd_pow hq j (Nat.dvd_of_mod_eq_zero h))
          · exact Or.inr (Nat.dvd_of_mod_eq_zero h)
/-- NEVER MORE THAN 12. -/
theorem row_few {p : Nat} (hp : Odd16 p) : ∃ L : List Nat, L.length ≤ 12 ∧ ∀ x, Cl p x → x ∈ L := by
  obtain ⟨pp, h3, h6⟩ := hp
  have hpo : p % 2 = 1 := by
    rcases Nat.mod_two_eq_zero_or_one p with h | h
    · rcases pp.2 2 (Nat.dvd_of_mod_eq_zero h) with e | e <;> omega
    · exact h
  obtain ⟨k, hk⟩ : ∃ k, (p - 1) / Nat.gcd (p - 1) 65536 = k := ⟨_, rfl⟩
  have hg2 : 2 ∣ Nat.gcd (p - 1) 65536 := Nat.dvd_gcd ⟨(p - 1) / 2, by omega⟩ ⟨32768, rfl⟩
  have hgp : 0 < Nat.gcd (p - 1) 65536 := Nat.gcd_pos_of_pos_left _ (by omega)
  have hg : Nat.gcd (p - 1) 65536 ≥ 2 := Nat.le_of_dvd hgp hg2
  have hkl : k ≤ (p - 1) / 2 := by rw [← hk]; exact Nat.div_le_div_left hg (by omega)
  have hkm : p - 1 = Nat.gcd (p - 1) 65536 * k := by rw [← hk]; exact (Nat.mul_div_cancel' (Nat.gcd_dvd_left _ _)).symm
  have hk0 : 0 < k := Nat.pos_of_ne_zero fun e => by rw [e, Nat.mul_zero] at hkm; omega
  have hkodd : k % 2 = 1 := by
    rcases Nat.mod_two_eq_zero_or_one k with h | h
    · exfalso
      obtain ⟨t, ht⟩ := Nat.dvd_of_mod_eq_zero h
      -- twice the common divisor divides both, or it is 2^16
      have hgd : Nat.gcd (p - 1) 65536 ∣ 2 ^ 16 := Nat.gcd_dvd_right (p - 1) 65536
      obtain ⟨s, hs⟩ := hgd
      rcases Nat.mod_two_eq_zero_or_one s with h5 | h5
      · obtain ⟨r, hr⟩ := Nat.dvd_of_mod_eq_zero h5
        have hd1 : Nat.gcd (p - 1) 65536 * 2 ∣ p - 1 := ⟨t, by rw [Nat.mul_assoc, ← ht]; exact hkm⟩
        have hd2 : Nat.gcd (p - 1) 65536 * 2 ∣ 65536 := ⟨r, by rw [Nat.mul_assoc, ← hr]; exact hs⟩
        have := Nat.le_of_dvd hgp (Nat.dvd_gcd hd1 hd2)
        omega
      · have hs1 : s = 1 := by
          refine Classical.byContradiction fun hne => ?_
          have hs0 : 2 ≤ s := by
            rcases Nat.lt_or_ge s 2 with h | h
            · exfalso
              have : s = 0 := by omega
              rw [this, Nat.mul_zero] at hs; omega
            · exact h
          obtain ⟨q, hq, hqd⟩ := has_prime s hs0
          have hq2 : q ∣ 2 ^ 16 := Nat.dvd_trans hqd ⟨Nat.gcd (p - 1) 65536, by rw [Nat.mul_comm]; exact hs⟩
          rcases prm_two.2 q (prime_dvd_pow hq 16 hq2) with a | a
          · have := hq.1; omega
          · rw [a] at hqd; obtain ⟨r, hr⟩ := hqd; omega
        rw [hs1, Nat.mul_one] at hs
        have : Nat.gcd (p - 1) 65536 ≤ p - 1 := Nat.le_of_dvd (by omega) (Nat.gcd_dvd_left _ _)
        have h216 : (2 : Nat) ^ 16 = 65536 := by decide
        omega
    · exact h
  have hf := few_all (k / 2) (by omega)
  rw [show 2 * (k / 2) + 1 = k by omega] at hf
  have hu : uOf (k / 2) ≤ 11 := by
    have hc := chk_at (k / 2) (by omega)
    unfold chk at hc
    rw [Bool.and_eq_true] at hc
    exact Nat.le_of_ble_eq_true hc.1
  obtain ⟨L, l1, l2⟩ := (few_prime pp (fun q a b c => hk ▸ oddpart (by omega) q a b c) hf).mono (show 1 + uOf (k / 2) ≤ 12 by omega)
  exact ⟨L, l1, l2 p pp (by omega) (Nat.dvd_refl _)⟩

/-! ### The row -/
open Classical in
noncomputable def clB (p x : Nat) : Bool := decide (Cl p x)
theorem clB_iff {p x : Nat} : clB p x = true ↔ Cl p x := by unfold clB; exact @decide_eq_true_iff _ (Classical.propDecidable _)
noncomputable def rowL (p : Nat) : List Nat := (List.range (p + 1)).filter (clB p)
theorem mem_rowL {p x : Nat} (hp : Odd16 p) : x ∈ rowL p ↔ Cl p x := by
  unfold rowL
  rw [List.mem_filter, List.mem_range, clB_iff]
  exact ⟨fun h => h.2, fun h => ⟨by have := (h.odd hp).2; omega, h⟩⟩
theorem rowL_sorted (p : Nat) : (rowL p).Pairwise (· < ·) := List.Pairwise.filter _ List.pairwise_lt_range
noncomputable def enOf (q : Nat) : En := ⟨q, genOf q, facOf (q - 1)⟩
noncomputable def rowOf (p : Nat) : List En := (rowL p).map enOf
end Go.Proofs.YtpjfapibjihbbaaGreatDoor
/-
  The contract of sieve's enter: the entries of a prime, and of all that it leans on, are laid by those that are there.
-/
namespace Go.Proofs.YtpjfapibjihbbaaGreatDoor
set_option linter.unusedVariables false
open Go.RowKit Go.Maps

theorem rcells (w : World) (a b c : Value) (t : TypeId) : (w.alloc (.cells #[a, b, c] t)).cell? ⟨w.heap.size, 0, none⟩ = some a ∧ (w.alloc (.cells #[a, b, c] t)).cell? ⟨w.heap.size, 1, none⟩ = some b ∧ (w.alloc (.cells #[a, b, c] t)).cell? ⟨w.heap.size, 2, none⟩ = some c := by
  refine ⟨?_, ?_, ?_⟩ <;> (rw [World.cell?_alloc_at _ _ _ _ rfl]; rfl)
def heldV (v : Value) : Option (DataW Value × List MemPlace) := some (.held v, [])
noncomputable def lenF (q : Nat) : Nat := (facOf (q - 1)).length
/-- A prime's entry. -/
def EntV (w : World) (q : Nat) (v : Value) : Prop := ∃ A C, v = .agg #[.int .u64 (q : Int), .int .u64 (genOf q : Int), .slice A (lenF q) C] ∧ PowsAt w A C (facOf (q - 1))
/-- A map of entries lies there: of just those of S. -/
def EMap (w : World) (b : Nat) (S : Nat → Prop) : Prop := ∃ (D : DataW Value) (m : Nat → Option Value), w.ownsMap Tryz.prog 22 heldV b (Maps.size D) D ∧ (∀ (q : Nat) z, D.atKey (keyU q) z = match m q with | some v => .held v | none => z) ∧ (∀ q : Nat, has D (keyU q) = (m q).isSome) ∧ (∀ q, (m q).isSome = true ↔ S q) ∧ (∀ q v, m q = some v → EntV w q v) ∧ ∀ q, S q → q ≤ 65536
theorem pows_kept {w w' : World} {A : Option Addr} {C : Nat} {l : List Pw} (h : PowsAt w A C l) {row : Option Nat} (hg : w.grownBy w' row) (hr : ∀ b, row = some b → ∃ es clock, w.heap[b]? = some (.map es clock)) : PowsAt w' A C l := by
  refine ⟨h.cap, h.max, fun i f hf => ?_⟩
  obtain ⟨b, o, hA, hl, c0, c1, k⟩ := h.get i f hf
  have hne : some b ≠ row := by
    intro e
    obtain ⟨es, clock, hm⟩ := hr b e.symm
    unfold World.cell? at c0
    rw [hm] at c0
    simp at c0
  exact ⟨b, o, hA, Nat.lt_of_lt_of_le hl hg.size, hg.cell c0 hne, hg.cell c1 hne, k⟩
theorem EntV.kept {w w' : World} {q : Nat} {v : Value} (h : EntV w q v) {row : Option Nat} (hg : w.grownBy w' row) (hr : ∀ b, row = some b → ∃ es clock, w.heap[b]? = some (.map es clock)) : EntV w' q v := by
  obtain ⟨A, C, hv, hP⟩ := h
  exact ⟨A, C, hv, pows_kept hP hg hr⟩
theorem grown_of_below {w w' : World} (h : Below w.heap.size w w') (row : Option Nat) : w.grownBy w' row := ⟨h.os, h.tape, h.output, h.size, fun k hk _ => h.block k hk⟩
theorem tight {H : Type} {w : World} {P : Program} {k : TypeId} {R : Value → Option (DataW H × List MemPlace)} {b n : Nat} {D : DataW H} (h : w.ownsMap P k R b n D) : w.ownsMap P k R b (Maps.size D) D := by
  obtain ⟨es, clock, hb, F, hs, hD⟩ := h
  refine ⟨es, clock, hb, F, ?_, hD⟩
  rw [hD]; simp [Maps.size, length_sorted]
theorem EMap.below {w w' : World} {b : Nat} {S : Nat → Prop} (h : EMap w b S) (hb : Below w.heap.size w w') : EMap w' b S := by
  obtain ⟨D, m, h1, h2, h3, h4, h5, h6⟩ := h
  exact ⟨D, m, h1.kept (grown_of_below hb none) (by simp), h2, h3, h4, fun q v hv => (h5 q v hv).kept (grown_of_below hb none) (fun b e => by cases e), h6⟩
theorem EMap.lt {w : World} {b : Nat} {S : Nat → Prop} (h : EMap w b S) : b < w.heap.size := by
  obtain ⟨D, m, h1, _⟩ := h
  exact h1.lt
theorem EMap.isMap {w : World} {b : Nat} {S : Nat → Prop} (h : EMap w b S) : ∃ es clock, w.heap[b]? = some (.map es clock) := by
  obtain ⟨D, m, ⟨es, clock, hb, _⟩, _⟩ := h
  exact ⟨es, clock, hb⟩
theorem emap_size {w : World} {b n : Nat} {D : DataW Value} {m : Nat → Option Value} {S : Nat → Prop} (h1 : w.ownsMap Tryz.prog 22 heldV b n D) (h3 : ∀ q : Nat, has D (keyU q) = (m q).isSome) (h4 : ∀ q, (m q).isSome = true ↔ S q) (L : List Nat) (hL : ∀ x, S x → x ∈ L) : Maps.size D ≤ L.length := by
  obtain ⟨ks, k1, k2, k3⟩ := size_keys h1
  rw [← k2]
  exact nodup_sub_le k1 fun x hx => hL x ((h4 x).1 (by rw [← h3]; exact k3 x hx))
theorem emap_put {w w' : World} {b n : Nat} {D : DataW Value} {m : Nat → Option Value} {S : Nat → Prop} (h1 : w.ownsMap Tryz.prog 22 heldV b n D) (h2 : ∀ (q : Nat) z, D.atKey (keyU q) z = match m q with | some v => .held v | none => z) (h3 : ∀ q : Nat, has D (keyU q) = (m q).isSome) (h4 : ∀ q, (m q).isSome = true ↔ S q) (h5 : ∀ q v, m q = some v → EntV w q v) (h6 : ∀ q, S q → q ≤ 65536)
    (q : Nat) (v : Value) (hq : q ≤ 65536) (hv : EntV w q v) (hown : w'.ownsMap Tryz.prog 22 heldV b (n + 1) (D.put (keyU q) (.held v))) (hg : w.grownBy w' (some b)) : EMap w' b (fun x => x = q ∨ S x) := by
  have hD : IsMap D := h1.isMap
  have hm : ∃ es clock, w.heap[b]? = some (.map es clock) := by obtain ⟨es, clock, hb, _⟩ := h1; exact ⟨es, clock, hb⟩
  refine ⟨_, fun x => if x = q then some v else m x, tight hown, fun x z => ?_, fun x => ?_, fun x => ?_, fun x u hu => ?_, fun x hx => ?_⟩
  · by_cases e : x = q
    · subst e; rw [atKey_put_same hD (isKeyU x)]; simp
    · rw [atKey_put_other (fun e' => e (keyU_inj e')), h2]; simp [e]
  · by_cases e : x = q
    · subst e; rw [has_put_same hD (isKeyU x)]; simp
    · rw [has_put_other (fun e' => e (keyU_inj e')), h3]; simp [e]
  · by_cases e : x = q
    · subst e; simp
    · simp only [if_neg e, h4]
      exact ⟨fun h => Or.inr h, fun h => h.resolve_left e⟩
  · by_cases e : x = q
    · subst e
      simp at hu
      subst hu
      exact hv.kept hg (fun b' e => by cases e; exact hm)
    · replace hu : (if x = q then some v else m x) = some u := hu
      rw [if_neg e] at hu
      exact (h5 x u hu).kept hg (fun b' e => by cases e; exact hm)
  · rcases hx with rfl | hx
    · exact hq
    · exact h6 x hx
theorem zeroEn (w : World) : (zeroValue 78).run Tryz.prog w = .ok (.agg #[.int .u64 0, .int .u64 0, .slice none 0 0]) w := by kernel_rfl
theorem EMap.look {w : World} {b : Nat} {S : Nat → Prop} (h : EMap w b S) {q : Nat} (hq : q < 18446744073709551616) (hS : S q) : ∃ v, EntV w q v ∧ (Instr.lookup 99 (.map (some b)) (.int .u64 (q : Int)) true).run Tryz.prog w = .ok (.tuple #[v, .bool true]) w ∧ (Instr.lookup 99 (.map (some b)) (.int .u64 (q : Int)) false).run Tryz.prog w = .ok v w := by
  obtain ⟨D, m, h1, h2, h3, h4, h5, h6⟩ := h
  obtain ⟨v, hv⟩ := Option.isSome_iff_exists.1 ((h4 q).2 hS)
  obtain ⟨v1, ps, hr, hR⟩ := h1.look_ok keyed64 Tryz.underlying99 (zeroEn w) (R := heldV) rfl (keyOf_mk hq)
  obtain ⟨v2, ps2, hr2, hR2⟩ := h1.lookup keyed64 Tryz.underlying99 (zeroEn w) (R := heldV) rfl (keyOf_mk hq)
  rw [h2, hv] at hR hR2
  unfold heldV at hR hR2
  obtain rfl : v1 = v := by simpa using congrArg Prod.fst (Option.some.inj hR)
  obtain rfl : v2 = v1 := by simpa using congrArg Prod.fst (Option.some.inj hR2)
  rw [h3, hv] at hr
  exact ⟨v2, h5 q v2 hv, hr, hr2⟩
theorem EMap.miss {w : World} {b : Nat} {S : Nat → Prop} (h : EMap w b S) {q : Nat} (hq : q < 18446744073709551616) (hS : ¬ S q) : (Instr.lookup 99 (.map (some b)) (.int .u64 (q : Int)) true).run Tryz.prog w = .ok (.tuple #[.agg #[.int .u64 0, .int .u64 0, .slice none 0 0], .bool false]) w := by
  obtain ⟨D, m, h1, h2, h3, h4, h5, h6⟩ := h
  have hn : m q = none := by
    cases hc : m q with
    | none => rfl
    | some v => exact absurd ((h4 q).1 (by rw [hc]; rfl)) hS
  obtain ⟨v1, ps, hr, hR⟩ := h1.look_ok keyed64 Tryz.underlying99 (zeroEn w) (R := heldV) rfl (keyOf_mk hq)
  rw [h2, hn] at hR
  unfold heldV at hR
  obtain rfl : v1 = _ := by simpa using congrArg Prod.fst (Option.some.inj hR)
  rw [h3, hn] at hr
  exact hr

/-! ### What enter does to the keys -/
structure EnterPost (q : Nat) (S S' : Nat → Prop) : Prop where
  sub : ∀ x, S x → S' x
  has : q ≠ 2 → S' q
  only : ∀ x, S' x → S x ∨ (q ≠ 2 ∧ Cl q x)
  closed : ∀ x, S' x → ¬ S x → ∀ r, Prm r → r ≠ 2 → r ∣ x - 1 → S' r
structure LInv (q : Nat) (S : Nat → Prop) (k : Nat) (T : Nat → Prop) : Prop where
  sub : ∀ x, S x → T x
  self : T q
  only : ∀ x, T x → S x ∨ Cl q x
  closed : ∀ x, T x → ¬ S x → x ≠ q → ∀ r, Prm r → r ≠ 2 → r ∣ x - 1 → T r
  done : ∀ j r, j < k → (pf (q - 1))[j]? = some r → r ≠ 2 → T r
theorem LInv.start (q : Nat) (S : Nat → Prop) : LInv q S 0 (fun x => x = q ∨ S x) :=
  ⟨fun x h => Or.inr h, Or.inl rfl, fun x h => h.elim (fun e => Or.inr (e ▸ Cl.self)) Or.inl, fun x h h1 h2 => absurd (h.resolve_left h2) h1, fun j r hj => by omega⟩
theorem LInv.step {q k r : Nat} {S T T' : Nat → Prop} (h : LInv q S k T) (hq : 3 ≤ q) (hr : (pf (q - 1))[k]? = some r) (hp : EnterPost r T T') : LInv q S (k + 1) T' := by
  obtain ⟨pr, dr⟩ := (mem_pf (show 1 ≤ q - 1 by omega)).1 (List.mem_of_getElem? hr)
  refine ⟨fun x hx => hp.sub x (h.sub x hx), hp.sub q h.self, fun x hx => ?_, fun x hx h1 h2 s ps s2 ds => ?_, fun j s hj hs s2 => ?_⟩
  · rcases hp.only x hx with a | ⟨n2, c⟩
    · exact h.only x a
    · exact Or.inr ((Cl.step Cl.self pr n2 dr).trans c)
  · by_cases hT : T x
    · exact hp.sub s (h.closed x hT h1 h2 s ps s2 ds)
    · exact hp.closed x hx hT s ps s2 ds
  · by_cases hjk : j < k
    · exact hp.sub s (h.done j s hjk hs s2)
    · obtain rfl : j = k := by omega
      rw [hr] at hs; cases hs
      exact hp.has s2
theorem LInv.post {q k : Nat} {S T : Nat → Prop} (h : LInv q S k T) (hq : 3 ≤ q) (hk : (pf (q - 1)).length ≤ k) : EnterPost q S T := by
  refine ⟨h.sub, fun _ => h.self, fun x hx => (h.only x hx).imp id fun c => ⟨by omega, c⟩, fun x hx h1 r pr r2 dr => ?_⟩
  by_cases e : x = q
  · subst e
    have hm := (mem_pf (show 1 ≤ x - 1 by omega)).2 ⟨pr, dr⟩
    obtain ⟨j, hj, rfl⟩ := List.getElem_of_mem hm
    exact h.done j _ (by omega) (List.getElem?_eq_getElem hj) r2
  · exact h.closed x hx h1 e r pr r2 dr
def EnterAns (q : Nat) : Prop := ∀ (w : World) (b : Nat) (S : Nat → Prop), EMap w b S → Calls Tryz.prog 54 #[.map (some b), .int .u64 (q : Int)] w fun e w' => e = .returned (.tuple #[]) ∧ ∃ S', EnterPost q S S' ∧ EMap w' b S' ∧ w.grownBy w' (some b)
theorem EnterAns.use {q : Nat} (h : EnterAns q) {w : World} {b : Nat} {S : Nat → Prop} (hE : EMap w b S) {R : Ending → World → Prop} (k : ∀ w' S', EnterPost q S S' → EMap w' b S' → w.grownBy w' (some b) → R (.returned (.tuple #[])) w') : Calls Tryz.prog 54 #[.map (some b), .int .u64 (q : Int)] w R :=
  (h w b S hE).mono fun _ _ ⟨he, S', h1, h2, h3⟩ => by subst he; exact k _ _ h1 h2 h3
theorem enter_met (q : Nat) (hq : q ≤ 65536) (w : World) (b : Nat) (S : Nat → Prop) (hE : EMap w b S) (hS : S q) : Calls Tryz.prog 54 #[.map (some b), .int .u64 (q : Int)] w fun e w' => e = .returned (.tuple #[]) ∧ ∃ S', EnterPost q S S' ∧ EMap w' b S' ∧ w.grownBy w' (some b) := by
  obtain ⟨v, ⟨A, C, rfl, _⟩, hr, _⟩ := hE.look (by omega) hS
  obtain ⟨g, hg⟩ : ∃ g, genOf q = g := ⟨_, rfl⟩
  obtain ⟨l, hl⟩ : ∃ l, lenF q = l := ⟨_, rfl⟩
  rw [hg, hl] at hr
  clear hg hl
  go_enter Tryz.func54, Tryz.ntmps54
  go_wp2
  refine bodyPost_ret (results_none rfl _ _ _) rfl ?_
  exact ⟨rfl, S, ⟨fun _ h => h, fun _ => hS, fun _ h => Or.inl h, fun _ h1 h2 => absurd h1 h2⟩, hE.below (below_alloc _ _), grown_of_below (below_alloc _ _) _⟩
theorem enter_two (w : World) (b : Nat) (S : Nat → Prop) (hE : EMap w b S) (hS : ¬ S 2) : Calls Tryz.prog 54 #[.map (some b), .int .u64 2] w fun e w' => e = .returned (.tuple #[]) ∧ ∃ S', EnterPost 2 S S' ∧ EMap w' b S' ∧ w.grownBy w' (some b) := by
  have hr := hE.miss (q := 2) (by omega) hS
  rw [show ((2 : Nat) : Int) = 2 from rfl] at hr
  go_enter Tryz.func54, Tryz.ntmps54
  go_wp2
  refine bodyPost_ret (results_none rfl _ _ _) rfl ?_
  exact ⟨rfl, S, ⟨fun _ h => h, fun h => absurd rfl h, fun _ h => Or.inl h, fun _ h1 h2 => absurd h1 h2⟩, hE.below (below_alloc _ _), grown_of_below (below_alloc _ _) _⟩

set_option maxRecDepth 100000 in
set_option maxHeartbeats 4000000 in
theorem enter_walk (q : Nat) (ho : Odd16 q) (ih : ∀ r, Prm r → r < q → EnterAns r) (w : World) (b : Nat) (S : Nat → Prop) (hE : EMap w b S) (hS : ¬ S q) : Calls Tryz.prog 54 #[.map (some b), .int .u64 (q : Int)] w fun e w' => e = .returned (.tuple #[]) ∧ ∃ S', EnterPost q S S' ∧ EMap w' b S' ∧ w.grownBy w' (some b) := by
  have h3 := ho.2.1
  have h6 := ho.2.2
  have hr := hE.miss (by omega) hS
  have HG := generator_any q (by omega)
  have HF := factor_any (q - 1) (by omega)
  rw [facS_in (by omega) (by omega)] at HF
  obtain ⟨G, hG⟩ : ∃ G, genOf q = G := ⟨_, rfl⟩
  rw [hG] at HG
  have HGd : Hid (genOf q = G) := hG
  have hGq : G < q := hG ▸ (genOf_spec ho).2.1
  obtain ⟨q1, hq1⟩ : ∃ q1, q - 1 = q1 := ⟨_, rfl⟩
  have HQ1 : Hid (q - 1 = q1) := hq1
  have e1 : (q : Int) - 1 = (q1 : Int) := by omega
  have e2 : ((q : Int) == 2) = false := by rw [beq_eq_false_iff_ne]; omega
  rw [hq1] at HF
  obtain ⟨L, hL⟩ : ∃ L, (facOf q1).length = L := ⟨_, rfl⟩
  have HL : Hid ((facOf q1).length = L) := hL
  have HL2 : Hid (lenF q = L) := by unfold Hid lenF; rw [hq1]; exact hL
  have hpl : L ≤ 11 := by rw [← hL, facOf_len]; exact pf_few (by omega) (by omega)
  have hEa : EMap (w.alloc (.cells #[.int .u64 0, .int .u64 0, .slice none 0 0] 78)) b S := hE.below (below_alloc _ _)
  have hBa : Below w.heap.size w (w.alloc (.cells #[.int .u64 0, .int .u64 0, .slice none 0 0] 78)) := below_alloc _ _
  have HH : Hid (EMap (w.alloc (.cells #[.int .u64 0, .int .u64 0, .slice none 0 0] 78)) b S) := hEa
  have HS : Hid (¬ S q) := hS
  clear hG hq1 hL hEa hE hS ho
  go_enter Tryz.func54, Tryz.ntmps54
  go_wp2_with (first
    | (go_at_call 71; with_reducible refine AnsM.use HG fun w1 hB1 => ?_)
    | (go_at_call 72; with_reducible refine FacAns.use HF fun A C w2 hP2 hB2 => ?_; rw [HL.out]; refine Hid.out ?_))
  unfold Hid
  have hE2 : EMap w2 b S := (EMap.below HH.out hB1).below hB2
  have hBw2 : Below w.heap.size w w2 := bb (bb hBa hB1) hB2
  have hE3 : EMap (w2.alloc (.cells #[.int .u64 (q : Int), .int .u64 (G : Int), .slice A L C] 78)) b S := hE2.below (below_alloc _ _)
  have hP3 : PowsAt (w2.alloc (.cells #[.int .u64 (q : Int), .int .u64 (G : Int), .slice A L C] 78)) A C (facOf q1) := hP2.below (below_alloc _ _)
  have hB3 : Below w.heap.size w (w2.alloc (.cells #[.int .u64 (q : Int), .int .u64 (G : Int), .slice A L C] 78)) := bb hBw2 (below_alloc _ _)
  obtain ⟨t0, t1, t2⟩ := rcells w2 (.int .u64 (q : Int)) (.int .u64 (G : Int)) (.slice A L C) 78
  obtain ⟨V, hV⟩ : ∃ V, w2.alloc (.cells #[.int .u64 (q : Int), .int .u64 (G : Int), .slice A L C] 78) = V := ⟨_, rfl⟩
  have hbo0 : w2.heap.size < V.heap.size := by rw [← hV]; simp
  rw [hV] at hE3 hP3 hB3 t0 t1 t2
  obtain ⟨bo, hbo⟩ : ∃ bo, w2.heap.size = bo := ⟨_, rfl⟩
  have hbb : bo ≠ b := by have := hE2.lt; omega
  rw [hbo] at t0 t1 t2
  have hm3 := hE3.isMap
  obtain ⟨D, m, m1, m2, m3, m4, m5, m6⟩ := hE3
  have hsz : Maps.size D ≤ 65537 := by
    have := emap_size m1 m3 m4 (List.range 65537) (fun x hx => List.mem_range.2 (by have := m6 x hx; omega))
    rwa [List.length_range] at this
  have HNM : Hid (Maps.size D < maxLen) := by unfold Hid maxLen; omega
  have HKQ : Hid (keyOf Tryz.prog 22 (.int .u64 (q : Int)) = some (keyU q)) := keyOf_mk (x := q) (by omega)
  have HEV : Hid (EntV V q (.agg #[.int .u64 (q : Int), .int .u64 (G : Int), .slice A L C])) := by
    refine ⟨A, C, ?_, by rw [HQ1.out]; exact hP3⟩
    rw [HGd.out, HL2.out]
  have HM : Hid ((∀ (q : Nat) z, D.atKey (keyU q) z = match m q with | some v => .held v | none => z) ∧ (∀ q : Nat, has D (keyU q) = (m q).isSome) ∧ (∀ q, (m q).isSome = true ↔ S q) ∧ (∀ q v, m q = some v → EntV V q v) ∧ ∀ q, S q → q ≤ 65536) := ⟨m2, m3, m4, m5, m6⟩
  have HP3 : Hid (PowsAt V A C (facOf q1)) := hP3
  clear m2 m3 m4 m5 m6 hP3 hP2 hE2 hB1 hB2 hBa hBw2 hsz hr HG HF HH
  go_wp2_with (at_mapUpdate; refine wpList_mapUpdate_own _ rfl _ _ _ 99 rfl 22 78 keyed64 Tryz.underlying99 heldV b (Maps.size D) D rfl m1 HNM.out _ _ _ rfl rfl HKQ.out _ [] rfl ?_; intro w4 hown4 hg4; refine Hid.out ?_)
  unfold Hid
  have hE4 := emap_put m1 HM.out.1 HM.out.2.1 HM.out.2.2.1 HM.out.2.2.2.1 HM.out.2.2.2.2 q _ (by omega) HEV.out hown4 hg4
  have s2 := hg4.cell t2 (by intro e; cases e; exact hbb rfl)
  have hP4 : PowsAt w4 A C (facOf q1) := pows_kept HP3.out hg4 (fun b' e => by cases e; exact hm3)
  have hG4 : w.grownBy w4 (some b) := (grown_of_below hB3 (some b)).trans hg4
  have HE4 : Hid (EMap w4 b (fun x => x = q ∨ S x)) := hE4
  have HP4 : Hid (PowsAt w4 A C (facOf q1)) := hP4
  clear hE4 hP4 hown4 hg4 m1 HM HEV HNM HP3 t0 t1 t2 hB3 hm3 hV hbo hbo0
  go_wp2
  go_loopw [33] (fun v wr => ∃ (k : Nat) (T : Nat → Prop), v = .int .i64 (k : Int) ∧ k ≤ L ∧ Hid (LInv q S k T) ∧ Hid (EMap wr b T) ∧ Hid (PowsAt wr A C (facOf q1)) ∧ w.grownBy wr (some b)) (fun v _ => L - (intOf v).toNat)
  case atStart => exact ⟨0, _, rfl, by omega, LInv.start q S, HE4, HP4, hG4⟩
  case round =>
    clear HE4 HP4 hG4 s2
    obtain ⟨k, T, rfl, hk, HI, HE, HP, hG⟩ := hrel
    by_cases hlt : k < L
    · obtain ⟨r, hr⟩ : ∃ r, (pf q1)[k]? = some r := ⟨_, List.getElem?_eq_getElem (by rw [← facOf_len, HL.out]; exact hlt)⟩
      obtain ⟨pr, dr⟩ := (mem_pf (show 1 ≤ q1 by have := HQ1.out; omega)).1 (List.mem_of_getElem? hr)
      have hrl : r ≤ q1 := Nat.le_of_dvd (by have := HQ1.out; omega) dr
      have HA := ih r pr (by have := HQ1.out; omega)
      have hf := facOf_get hr
      obtain ⟨e, he⟩ : ∃ e, vp r q1 = e := ⟨_, rfl⟩
      rw [he] at hf
      obtain ⟨bk, o, hA, hbl, c0, c1, _⟩ := HP.out.get k _ hf
      subst hA
      replace c0 : wr.cell? ⟨bk, o + k * 2, none⟩ = some (.int .u64 (r : Int)) := c0
      replace c1 : wr.cell? ⟨bk, o + k * 2 + 1, none⟩ = some (.int .i64 (e : Int)) := c1
      have HR : Hid ((pf (q - 1))[k]? = some r) := by unfold Hid; rw [HQ1.out]; exact hr
      have hEv : EMap (wr.alloc (.cells #[.int .u64 (r : Int), .int .i64 (e : Int)] 93)) b T := EMap.below HE.out (below_alloc _ _)
      have hPv : PowsAt (wr.alloc (.cells #[.int .u64 (r : Int), .int .i64 (e : Int)] 93)) (some ⟨bk, o, none⟩) C (facOf q1) := PowsAt.below HP.out (below_alloc _ _)
      have hGv : w.grownBy (wr.alloc (.cells #[.int .u64 (r : Int), .int .i64 (e : Int)] 93)) (some b) := hG.trans (World.grownBy_alloc _ _ _)
      obtain ⟨t0, t1⟩ := tcells wr (.int .u64 (r : Int)) (.int .i64 (e : Int)) 93
      obtain ⟨V, hV⟩ : ∃ V, wr.alloc (.cells #[.int .u64 (r : Int), .int .i64 (e : Int)] 93) = V := ⟨_, rfl⟩
      rw [hV] at hEv hPv hGv t0 t1
      have HEv : Hid (EMap V b T) := hEv
      have HPv : Hid (PowsAt V (some ⟨bk, o, none⟩) C (facOf q1)) := hPv
      have hmv := hEv.isMap
      clear hr pr dr hf he hEv hPv HE HP hG
      go_wp2_with (go_at_call 54; refine EnterAns.use HA HEv.out fun w5 T' hp hE5 hg5 => ?_; refine Hid.out ?_)
      unfold Hid
      have HI5 : Hid (LInv q S (k + 1) T') := HI.out.step h3 HR.out hp
      have HE5 : Hid (EMap w5 b T') := hE5
      have HP5 : Hid (PowsAt w5 (some ⟨bk, o, none⟩) C (facOf q1)) := pows_kept HPv.out hg5 (fun b' e => by cases e; exact hmv)
      have hG5 : w.grownBy w5 (some b) := hGv.trans hg5
      clear hp hE5 hg5 hGv hmv HEv HPv t0 t1 c0 c1 HI
      go_wp2
      go_roundw
      case rel => exact ⟨k + 1, T', by go_num, by omega, HI5, HE5, HP5, hG5⟩
      case measure => simp [intOf]; omega
    · obtain rfl : k = L := by omega
      have hpost := HI.out.post h3 (by rw [HQ1.out, ← facOf_len, HL.out]; exact Nat.le_refl _)
      have HPo : Hid (EnterPost q S T) := hpost
      clear hpost HI
      go_wp2
      go_end0
      exact ⟨rfl, T, HPo.out, HE.out, hG⟩
/-- enter, of every prime up to 2^16. -/
theorem enter_any : ∀ q, Prm q → q ≤ 65536 → EnterAns q := by
  intro q
  induction q using Nat.strongRecOn with
  | ind q ih =>
    intro hp h6 w b S hE
    by_cases hS : S q
    · exact enter_met q h6 w b S hE hS
    · by_cases h2 : q = 2
      · subst h2; exact enter_two w b S hE hS
      · have := hp.1
        exact enter_walk q ⟨hp, by omega, h6⟩ (fun r pr hr => ih r hr pr (by omega)) w b S hE hS
end Go.Proofs.YtpjfapibjihbbaaGreatDoor

/-
  Plain mathematics of layers 13 and 14, laid ahead: numbers that leave the same rest; r sums put together by a root's powers; by quarters. No condition.
-/
import Derived.Test.YtpjfapibjihbbaaGreatDoorF34
import Derived.Test.YtpjfapibjihbbaaGreatDoorF1
import Derived.StillTail
import Derived.Lib.QuietBelow
import Derived.BigQuiet
import Derived.Deep.AppendLies
namespace Go.Proofs.YtpjfapibjihbbaaGreatDoor
set_option linter.unusedVariables false

/-! ### The same rest -/
def Cg (p a b : Nat) : Prop := a % p = b % p
theorem Cg.refl (p a : Nat) : Cg p a a := rfl
theorem Cg.symm {p a b : Nat} (h : Cg p a b) : Cg p b a := Eq.symm h
theorem Cg.trans {p a b c : Nat} (h : Cg p a b) (k : Cg p b c) : Cg p a c := Eq.trans h k
theorem Cg.add {p a b c d : Nat} (h : Cg p a b) (k : Cg p c d) : Cg p (a + c) (b + d) := by unfold Cg at *; rw [Nat.add_mod, h, k, ← Nat.add_mod]
theorem Cg.mul {p a b c d : Nat} (h : Cg p a b) (k : Cg p c d) : Cg p (a * c) (b * d) := by unfold Cg at *; rw [Nat.mul_mod, h, k, ← Nat.mul_mod]
theorem Cg.rest (p a : Nat) : Cg p (a % p) a := Nat.mod_mod _ _
theorem Cg.neg {p t s : Nat} (hp : 1 ≤ p) (h : Cg p t s) : Cg p (negN t p) ((p - 1) * s) := Cg.trans (neg_mul hp) (Cg.mul (Cg.refl _ _) h)
theorem Cg.twice {p : Nat} (hp : 2 ≤ p) (t : Nat) : Cg p ((p - 1) * ((p - 1) * t)) t := by
  unfold Cg
  have e : (p - 1) * (p - 1) = p * (p - 2) + 1 := by
    obtain ⟨q, rfl⟩ : ∃ q, p = q + 2 := ⟨p - 2, by omega⟩
    rw [show q + 2 - 1 = q + 1 by omega, Nat.add_sub_cancel, Nat.mul_succ, Nat.succ_mul, Nat.add_mul]
    omega
  rw [← Nat.mul_assoc, e, Nat.add_mul, Nat.one_mul, Nat.mul_assoc, Nat.mul_add_mod]
theorem Cg.eq {p a b : Nat} (h : Cg p a b) (ha : a < p) (hb : b < p) : a = b := by
  unfold Cg at h; rwa [Nat.mod_eq_of_lt ha, Nat.mod_eq_of_lt hb] at h
theorem Cg.pow {p a b : Nat} (h : Cg p a b) (n : Nat) : Cg p (a ^ n) (b ^ n) := by
  unfold Cg at *; rw [Nat.pow_mod, h, ← Nat.pow_mod]
theorem Cg.sum {p r : Nat} {f g : Nat → Nat} (h : ∀ u, u < r → Cg p (f u) (g u)) : Cg p (sN f r) (sN g r) := sN_cong h

/-! ### r sums put together -/
/-- At q M + i, of r M: by the powers of v to the M alone, if v's own are in what is put together. -/
theorem up_parts {v p r M q i : Nat} {x a : Nat → Nat} (ha : ∀ u, u < r → Cg p (a u) (v ^ (u * i) * x u)) : Cg p (sN (fun u => v ^ (u * (q * M + i)) * (x u % p)) r) (sN (fun u => (v ^ M) ^ (u * q) * a u) r) := by
  refine Cg.sum fun u hu => ?_
  have e : v ^ (u * (q * M + i)) = (v ^ M) ^ (u * q) * v ^ (u * i) := by
    rw [← Nat.pow_mul, ← Nat.pow_add, Nat.mul_add]
    congr 2
    rw [Nat.mul_comm q M, Nat.mul_left_comm]
  rw [e, Nat.mul_assoc]
  exact Cg.mul (Cg.refl _ _) ((Cg.mul (Cg.refl _ _) (Cg.rest _ _)).trans (ha u hu).symm)
/-- .. the other way: what stands at i M + t, taken together. -/
theorem down_parts (v r M u : Nat) (y : Nat → Nat) : sN (fun i => y i * v ^ (i * M * u)) r = sN (fun i => (v ^ M) ^ (i * u) * y i) r :=
  sN_ext fun i _ => by rw [Nat.mul_comm, ← Nat.pow_mul, Nat.mul_comm i M, Nat.mul_assoc]

/-! ### By quarters -/
theorem quarter_two {v p M : Nat} (hp : Prm p) (h3 : 3 ≤ p) (h1 : 1 ≤ M) (h : OrdN v p (4 * M)) : Cg p ((v ^ M) ^ 2) (p - 1) := by
  have := half_pow hp h3 (M := 2 * M) (by omega) (by rw [← Nat.mul_assoc]; exact h)
  unfold Cg
  rw [← Nat.pow_mul, Nat.mul_comm M 2, this, Nat.mod_eq_of_lt (by omega)]
theorem sN_four (f : Nat → Nat) : sN f 4 = f 0 + f 1 + f 2 + f 3 := by simp [sN]
/-- The four sums of four numbers, by a root J of order 4. -/
theorem quarters {p J : Nat} (h2 : 2 ≤ p) (hJ : Cg p (J ^ 2) (p - 1)) (a : Nat → Nat) :
    Cg p (sN (fun u => J ^ (u * 0) * a u) 4) (a 0 + a 1 + a 2 + a 3) ∧
    Cg p (sN (fun u => J ^ (u * 1) * a u) 4) (a 0 + J * a 1 + (p - 1) * a 2 + (p - 1) * (J * a 3)) ∧
    Cg p (sN (fun u => J ^ (u * 2) * a u) 4) (a 0 + (p - 1) * a 1 + a 2 + (p - 1) * a 3) ∧
    Cg p (sN (fun u => J ^ (u * 3) * a u) 4) (a 0 + (p - 1) * (J * a 1) + (p - 1) * a 2 + J * a 3) := by
  have hJ4 : Cg p (J ^ 4) 1 := by
    have e : J ^ 4 = J ^ 2 * J ^ 2 := by rw [← Nat.pow_add]
    rw [e]
    refine (Cg.mul hJ hJ).trans ?_
    have := Cg.twice h2 1
    rwa [Nat.mul_one] at this
  have e3 : Cg p (J ^ 3) ((p - 1) * J) := by
    rw [show J ^ 3 = J ^ 2 * J by rw [← Nat.pow_succ]]
    exact Cg.mul hJ (Cg.refl _ _)
  have e6 : Cg p (J ^ 6) (p - 1) := by
    rw [show J ^ 6 = J ^ 4 * J ^ 2 by rw [← Nat.pow_add]]
    have := Cg.mul hJ4 hJ
    rwa [Nat.one_mul] at this
  have e9 : Cg p (J ^ 9) J := by
    rw [show J ^ 9 = J ^ 4 * (J ^ 4 * J) by rw [← Nat.pow_succ, ← Nat.pow_add]]
    have := Cg.mul hJ4 (Cg.mul hJ4 (Cg.refl p J))
    rwa [Nat.one_mul, Nat.one_mul] at this
  have r : ∀ c, Cg p c c := Cg.refl p
  refine ⟨?_, ?_, ?_, ?_⟩
  · rw [sN_four]; simp [Cg]
  · rw [sN_four]
    simp only [Nat.mul_one, Nat.pow_zero, Nat.one_mul, Nat.pow_one]
    exact Cg.add (Cg.add (r _) (Cg.mul hJ (r _))) ((Cg.mul e3 (r _)).trans (by rw [Nat.mul_assoc]; exact r _))
  · rw [sN_four]
    simp only [Nat.zero_mul, Nat.pow_zero, Nat.one_mul, Nat.reduceMul]
    exact Cg.add (Cg.add (Cg.add (r _) (Cg.mul hJ (r _))) (by have := Cg.mul hJ4 (r (a 2)); rwa [Nat.one_mul] at this)) (Cg.mul e6 (r _))
  · rw [sN_four]
    simp only [Nat.zero_mul, Nat.pow_zero, Nat.one_mul, Nat.reduceMul]
    exact Cg.add (Cg.add (Cg.add (r _) ((Cg.mul e3 (r _)).trans (by rw [Nat.mul_assoc]; exact r _))) (Cg.mul e6 (r _))) (Cg.mul e9 (r _))
end Go.Proofs.YtpjfapibjihbbaaGreatDoor
/-
  Plain mathematics of layer 13: four sums put together by quarters, as the program reckons them; a row, some parts of which are done. No condition.
-/
namespace Go.Proofs.YtpjfapibjihbbaaGreatDoor
set_option linter.unusedVariables false

/-! ### Four put together -/
def qt (p w k y : Nat) : Nat := w ^ k % p * y % p
/-- The four sums, of the numbers at the four quarters' places; the first one's root is w to the k, a quarter of the way round is w to the c. -/
def qd (p w c k x0 x1 x2 x3 : Nat) : Nat → Nat
  | 0 => ((x0 + qt p w (2 * k) x2) % p + (qt p w k x1 + qt p w (3 * k) x3) % p) % p
  | 1 => ((x0 + negN (qt p w (2 * k) x2) p) % p + qt p w c ((qt p w k x1 + negN (qt p w (3 * k) x3) p) % p)) % p
  | 2 => ((x0 + qt p w (2 * k) x2) % p + negN ((qt p w k x1 + qt p w (3 * k) x3) % p) p) % p
  | _ => ((x0 + negN (qt p w (2 * k) x2) p) % p + negN (qt p w c ((qt p w k x1 + negN (qt p w (3 * k) x3) p) % p)) p) % p
theorem qd_lt {p : Nat} (hp : 0 < p) (w c k x0 x1 x2 x3 : Nat) : ∀ q, qd p w c k x0 x1 x2 x3 q < p
  | 0 => Nat.mod_lt _ hp
  | 1 => Nat.mod_lt _ hp
  | 2 => Nat.mod_lt _ hp
  | _ + 3 => Nat.mod_lt _ hp
theorem qd_0 (p w c k x0 x1 x2 x3 : Nat) : qd p w c k x0 x1 x2 x3 0 = ((x0 + qt p w (2 * k) x2) % p + (qt p w k x1 + qt p w (3 * k) x3) % p) % p := rfl
theorem qd_1 (p w c k x0 x1 x2 x3 : Nat) : qd p w c k x0 x1 x2 x3 1 = ((x0 + negN (qt p w (2 * k) x2) p) % p + qt p w c ((qt p w k x1 + negN (qt p w (3 * k) x3) p) % p)) % p := rfl
theorem qd_2 (p w c k x0 x1 x2 x3 : Nat) : qd p w c k x0 x1 x2 x3 2 = ((x0 + qt p w (2 * k) x2) % p + negN ((qt p w k x1 + qt p w (3 * k) x3) % p) p) % p := rfl
theorem qd_3 (p w c k x0 x1 x2 x3 : Nat) : qd p w c k x0 x1 x2 x3 3 = ((x0 + negN (qt p w (2 * k) x2) p) % p + negN (qt p w c ((qt p w k x1 + negN (qt p w (3 * k) x3) p) % p)) p) % p := rfl
theorem qt_cg (p w k y : Nat) : Cg p (qt p w k y) (w ^ k * y) := (Cg.rest _ _).trans (Cg.mul (Cg.rest _ _) (Cg.refl _ _))
theorem cg_ring {p a b : Nat} (h : Cg p a b) (c : Nat) (e : c = b) : Cg p a c := e ▸ h
/-- They are the sums of all. -/
theorem qd_right {p w P M i c k : Nat} (hp : Prm p) (h3 : 3 ≤ p) (hM : 1 ≤ M) (ho : OrdN (w ^ P) p (4 * M)) (hc : c = P * M) (hk : k = i * P) (hi : i < M) {y X : Nat → Nat} (hX : ∀ u, u < 4 → X u = tS ((w ^ P) ^ 4) M (fun j => y (4 * j + u)) i % p) {q : Nat} (hq : q < 4) :
    qd p w c k (X 0) (X 1) (X 2) (X 3) q = tS (w ^ P) (4 * M) y (q * M + i) % p := by
  have hp0 : 0 < p := by omega
  obtain ⟨v, hv⟩ : ∃ v, w ^ P = v := ⟨_, rfl⟩
  have ek : ∀ m, w ^ (m * k) = v ^ (m * i) := fun m => by rw [hk, ← hv, ← Nat.pow_mul]; congr 1; rw [← Nat.mul_assoc, Nat.mul_comm]
  have ec : w ^ c = v ^ M := by rw [hc, ← hv, ← Nat.pow_mul]
  rw [hv] at ho hX ⊢
  obtain ⟨a, ha⟩ : ∃ a : Nat → Nat, ∀ u, a u = v ^ (u * i) * X u := ⟨_, fun _ => rfl⟩
  have hJ := quarter_two hp h3 hM ho
  obtain ⟨J, hJe⟩ : ∃ J, v ^ M = J := ⟨_, rfl⟩
  rw [hJe] at hJ ec
  obtain ⟨Q0, Q1, Q2, Q3⟩ := quarters (by omega) hJ a
  have hall : tS v (4 * M) y (q * M + i) % p = sN (fun u => J ^ (u * q) * a u) 4 % p := by
    rw [tS_up (by omega) ho, ← hJe]
    have hm : (q * M + i) % M = i := by rw [Nat.mul_comm, Nat.mul_add_mod, Nat.mod_eq_of_lt hi]
    rw [hm]
    exact up_parts fun u hu => by
      rw [ha u, hX u hu]
      exact Cg.mul (Cg.refl _ _) (Cg.rest _ _)
  rw [hall]
  have t0 : a 0 = X 0 := by rw [ha, Nat.zero_mul, Nat.pow_zero, Nat.one_mul]
  have t1 : Cg p (qt p w k (X 1)) (a 1) := by
    have h := qt_cg p w k (X 1)
    have e := ek 1
    rw [Nat.one_mul] at e
    rwa [e, ← ha] at h
  have t2 : Cg p (qt p w (2 * k) (X 2)) (a 2) := by
    have h := qt_cg p w (2 * k) (X 2)
    rwa [ek, ← ha] at h
  have t3 : Cg p (qt p w (3 * k) (X 3)) (a 3) := by
    have h := qt_cg p w (3 * k) (X 3)
    rwa [ek, ← ha] at h
  rw [← t0]
  obtain ⟨u1, hu1⟩ : ∃ u, qt p w k (X 1) = u := ⟨_, rfl⟩
  obtain ⟨u2, hu2⟩ : ∃ u, qt p w (2 * k) (X 2) = u := ⟨_, rfl⟩
  obtain ⟨u3, hu3⟩ : ∃ u, qt p w (3 * k) (X 3) = u := ⟨_, rfl⟩
  rw [hu1] at t1
  rw [hu2] at t2
  rw [hu3] at t3
  have ev : Cg p ((a 0 + u2) % p) (a 0 + a 2) := (Cg.rest _ _).trans (Cg.add (Cg.refl _ _) t2)
  have od : Cg p ((u1 + u3) % p) (a 1 + a 3) := (Cg.rest _ _).trans (Cg.add t1 t3)
  have ap : Cg p ((a 0 + negN u2 p) % p) (a 0 + (p - 1) * a 2) := (Cg.rest _ _).trans (Cg.add (Cg.refl _ _) (Cg.neg (by omega) t2))
  have ac : Cg p (qt p w c ((u1 + negN u3 p) % p)) (J * (a 1 + (p - 1) * a 3)) := by
    refine (qt_cg _ _ _ _).trans ?_
    rw [ec]
    exact Cg.mul (Cg.refl _ _) ((Cg.rest _ _).trans (Cg.add t1 (Cg.neg (by omega) t3)))
  have hlt := qd_lt hp0 w c k (a 0) (X 1) (X 2) (X 3) q
  rw [show qd p w c k (a 0) (X 1) (X 2) (X 3) q = qd p w c k (a 0) (X 1) (X 2) (X 3) q % p from (Nat.mod_eq_of_lt hlt).symm]
  match q, hq with
  | 0, _ =>
    show Cg p _ _
    unfold qd
    rw [hu1, hu2, hu3]
    refine ((Cg.rest _ _).trans (Cg.add ev od)).trans (Cg.symm (cg_ring Q0 _ ?_)).symm.symm
    omega
  | 1, _ =>
    show Cg p _ _
    unfold qd
    rw [hu1, hu2, hu3]
    refine ((Cg.rest _ _).trans (Cg.add ap ac)).trans (Cg.trans ?_ Q1.symm)
    rw [Nat.mul_add, Nat.mul_left_comm J]
    unfold Cg; congr 1; omega
  | 2, _ =>
    show Cg p _ _
    unfold qd
    rw [hu1, hu2, hu3]
    refine ((Cg.rest _ _).trans (Cg.add ev (Cg.neg (by omega) od))).trans (Cg.trans ?_ Q2.symm)
    rw [Nat.mul_add]
    unfold Cg; congr 1; omega
  | 3, _ =>
    show Cg p _ _
    unfold qd
    rw [hu1, hu2, hu3]
    refine ((Cg.rest _ _).trans (Cg.add ap (Cg.neg (by omega) ac))).trans (Cg.trans ?_ Q3.symm)
    have h := Cg.twice (p := p) (by omega) (J * a 3)
    have e : (p - 1) * (J * (a 1 + (p - 1) * a 3)) = (p - 1) * (J * a 1) + (p - 1) * ((p - 1) * (J * a 3)) := by
      rw [Nat.mul_add J, Nat.mul_add, Nat.mul_left_comm J (p - 1)]
    rw [e]
    have := Cg.add (Cg.refl p (a 0 + (p - 1) * a 2 + (p - 1) * (J * a 1))) h
    refine Cg.trans ?_ (this.trans ?_)
    · unfold Cg; congr 1; omega
    · unfold Cg; congr 1; omega

/-! ### A row, some parts of which are done -/
/-- Of the n places from o on, the transform of the n numbers from s on, each st further on. -/
def layF (p w : Nat) (x : Nat → Nat) (st n s o : Nat) (A : Nat → Nat) (j : Nat) : Nat := if o ≤ j ∧ j < o + n then tS (w ^ st) n (fun u => x (s + u * st)) (j - o) % p else A j
/-- The first k of four parts done. -/
def subF (p w : Nat) (x : Nat → Nat) (st M s o : Nat) (A : Nat → Nat) (k j : Nat) : Nat := if o ≤ j ∧ j < o + k * M then tS (w ^ (4 * st)) M (fun u => x (s + (j - o) / M * st + u * (4 * st))) ((j - o) % M) % p else A j
theorem subF_zero (p w : Nat) (x : Nat → Nat) (st M s o : Nat) (A : Nat → Nat) (j : Nat) : subF p w x st M s o A 0 j = A j := by
  unfold subF; rw [if_neg (by omega)]
theorem subF_step (p w : Nat) (x : Nat → Nat) (st M s o : Nat) (A : Nat → Nat) (k j : Nat) (hM : 1 ≤ M) : layF p w x (4 * st) M (s + k * st) (o + k * M) (subF p w x st M s o A k) j = subF p w x st M s o A (k + 1) j := by
  have e : (k + 1) * M = k * M + M := Nat.succ_mul _ _
  unfold layF
  by_cases h : o + k * M ≤ j ∧ j < o + k * M + M
  · rw [if_pos h]
    unfold subF
    rw [if_pos (by omega)]
    obtain ⟨t, rfl⟩ : ∃ t, j = o + k * M + t := ⟨j - (o + k * M), by omega⟩
    have a1 : o + k * M + t - (o + k * M) = t := by omega
    have a2 : o + k * M + t - o = M * k + t := by rw [Nat.mul_comm M k]; omega
    have ht : t < M := by omega
    rw [a1, a2, Nat.mul_add_div (by omega), Nat.mul_add_mod, Nat.div_eq_of_lt ht, Nat.mod_eq_of_lt ht, Nat.add_zero]
  · rw [if_neg h]
    unfold subF
    by_cases h2 : o ≤ j ∧ j < o + k * M
    · rw [if_pos h2, if_pos (by omega)]
    · rw [if_neg h2, if_neg (by omega)]
theorem subF_at {p w : Nat} {x : Nat → Nat} {st M s o : Nat} {A : Nat → Nat} {u i : Nat} (hu : u < 4) (hi : i < M) : subF p w x st M s o A 4 (o + u * M + i) = tS ((w ^ st) ^ 4) M (fun j => x (s + (4 * j + u) * st)) i % p := by
  have hm : u * M + M ≤ 4 * M := by rw [← Nat.succ_mul]; exact Nat.mul_le_mul_right M hu
  unfold subF
  rw [if_pos (by omega)]
  have a2 : o + u * M + i - o = M * u + i := by rw [Nat.mul_comm M u]; omega
  rw [a2, Nat.mul_add_div (by omega), Nat.mul_add_mod, Nat.div_eq_of_lt hi, Nat.mod_eq_of_lt hi, Nat.add_zero, ← Nat.pow_mul, Nat.mul_comm st 4]
  congr 1
  refine tS_ext fun j _ => ?_
  congr 1
  rw [Nat.add_mul, Nat.mul_comm 4 j, Nat.mul_assoc]
  omega
/-- The four parts put together. -/
def jqF (p w c P M o : Nat) (A : Nat → Nat) (j : Nat) : Nat := if o ≤ j ∧ j < o + 4 * M then qd p w c ((j - o) % M * P) (A (o + (j - o) % M)) (A (o + M + (j - o) % M)) (A (o + 2 * M + (j - o) % M)) (A (o + 3 * M + (j - o) % M)) ((j - o) / M) else A j
theorem jqF_at {p w c P M o : Nat} {A : Nat → Nat} {u i : Nat} (hu : u < 4) (hi : i < M) : jqF p w c P M o A (o + u * M + i) = qd p w c (i * P) (A (o + i)) (A (o + M + i)) (A (o + 2 * M + i)) (A (o + 3 * M + i)) u := by
  have hm : u * M + M ≤ 4 * M := by rw [← Nat.succ_mul]; exact Nat.mul_le_mul_right M hu
  unfold jqF
  rw [if_pos (by omega)]
  have a2 : o + u * M + i - o = M * u + i := by rw [Nat.mul_comm M u]; omega
  rw [a2, Nat.mul_add_div (by omega), Nat.mul_add_mod, Nat.div_eq_of_lt hi, Nat.mod_eq_of_lt hi, Nat.add_zero]
theorem jqF_right {p w c P M s o : Nat} {x A : Nat → Nat} (hp : Prm p) (h3 : 3 ≤ p) (hM : 1 ≤ M) (ho : OrdN (w ^ P) p (4 * M)) (hc : c = P * M) (j : Nat) : jqF p w c P M o (subF p w x P M s o A 4) j = layF p w x P (4 * M) s o A j := by
  unfold layF
  by_cases h : o ≤ j ∧ j < o + 4 * M
  · rw [if_pos h]
    obtain ⟨t, rfl⟩ : ∃ t, j = o + t := ⟨j - o, by omega⟩
    have e := Nat.div_add_mod t M
    have hi := Nat.mod_lt t (show 0 < M by omega)
    have hq : t / M < 4 := Nat.div_lt_of_lt_mul (by rw [Nat.mul_comm]; omega)
    obtain ⟨q, hqe⟩ : ∃ q, t / M = q := ⟨_, rfl⟩
    obtain ⟨i, hie⟩ : ∃ i, t % M = i := ⟨_, rfl⟩
    rw [hqe, hie, Nat.mul_comm] at e
    rw [hie] at hi
    rw [hqe] at hq
    rw [Nat.add_sub_cancel_left, ← e, ← Nat.add_assoc, jqF_at hq hi]
    have hA : ∀ u, u < 4 → subF p w x P M s o A 4 (o + u * M + i) = tS ((w ^ P) ^ 4) M (fun j => x (s + (4 * j + u) * P)) i % p := fun u hu => subF_at hu hi
    have := qd_right (w := w) (P := P) (k := i * P) (y := fun j => x (s + j * P)) (X := fun u => subF p w x P M s o A 4 (o + u * M + i)) hp h3 hM ho hc rfl hi (fun u hu => hA u hu) hq
    rw [← this]
    simp only [Nat.zero_mul, Nat.one_mul, Nat.add_zero]
  · rw [if_neg h]
    unfold jqF subF
    rw [if_neg h, if_neg h]
/-- Of the four parts, the first i of each put together. -/
def qS (o M : Nat) (A N : Nat → Nat) (i j : Nat) : Nat := if o ≤ j ∧ j < o + 4 * M ∧ (j - o) % M < i then N j else A j
theorem qS_zero (o M : Nat) (A N : Nat → Nat) (j : Nat) : qS o M A N 0 j = A j := by unfold qS; rw [if_neg (by omega)]
theorem qS_all {o M : Nat} (hM : 1 ≤ M) {A N : Nat → Nat} (hN : ∀ j, ¬ (o ≤ j ∧ j < o + 4 * M) → N j = A j) (j : Nat) : qS o M A N M j = N j := by
  have := Nat.mod_lt (j - o) (show 0 < M by omega)
  unfold qS
  by_cases h : o ≤ j ∧ j < o + 4 * M
  · rw [if_pos ⟨h.1, h.2, this⟩]
  · rw [if_neg (fun k => h ⟨k.1, k.2.1⟩), hN j h]
theorem qS_at {o M i u : Nat} (hi : i < M) (A N : Nat → Nat) (j : Nat) (hj : j = o + u * M + i) : qS o M A N i j = A j := by
  subst hj
  have a2 : o + u * M + i - o = M * u + i := by rw [Nat.mul_comm M u]; omega
  unfold qS
  rw [a2, Nat.mul_add_mod, Nat.mod_eq_of_lt hi, if_neg (by omega)]
theorem qS_step {n o M i : Nat} (A N : Nat → Nat) (hi : i < M) :
    ((((lf n (qS o M A N i)).set (o + i) (N (o + i))).set (o + M + i) (N (o + M + i))).set (o + 2 * M + i) (N (o + 2 * M + i))).set (o + 3 * M + i) (N (o + 3 * M + i)) = lf n (qS o M A N (i + 1)) := by
  have st : ∀ (F : Nat → Nat) (k : Nat), (lf n F).set k (N k) = lf n fun j => if j = k then N j else F j := fun F k => lf_set fun j _ => by
    by_cases e : j = k
    · rw [if_pos e, if_pos e, e]
    · rw [if_neg e, if_neg e]
  rw [st, st, st, st]
  refine lf_ext fun j _ => ?_
  have key : (j = o + 3 * M + i ∨ j = o + 2 * M + i ∨ j = o + M + i ∨ j = o + i) ↔ (o ≤ j ∧ j < o + 4 * M ∧ (j - o) % M = i) := by
    constructor
    · have hh : ∀ u, u < 4 → j = o + u * M + i → (o ≤ j ∧ j < o + 4 * M ∧ (j - o) % M = i) := fun u hu e => by
        have hm : u * M + M ≤ 4 * M := by rw [← Nat.succ_mul]; exact Nat.mul_le_mul_right M hu
        subst e
        have a2 : o + u * M + i - o = M * u + i := by rw [Nat.mul_comm M u]; omega
        refine ⟨by omega, by omega, ?_⟩
        rw [a2, Nat.mul_add_mod, Nat.mod_eq_of_lt hi]
      rintro (e | e | e | e)
      · exact hh 3 (by omega) e
      · exact hh 2 (by omega) e
      · exact hh 1 (by omega) (by omega)
      · exact hh 0 (by omega) (by omega)
    · rintro ⟨h1, h2, h3⟩
      obtain ⟨t, rfl⟩ : ∃ t, j = o + t := ⟨j - o, by omega⟩
      rw [Nat.add_sub_cancel_left] at h3
      have e := Nat.div_add_mod t M
      have hq : t / M < 4 := Nat.div_lt_of_lt_mul (by rw [Nat.mul_comm]; omega)
      rw [h3] at e
      obtain ⟨q, hqe⟩ : ∃ q, t / M = q := ⟨_, rfl⟩
      rw [hqe] at e hq
      rcases (show q = 0 ∨ q = 1 ∨ q = 2 ∨ q = 3 by omega) with e2 | e2 | e2 | e2
      · rw [e2] at e; omega
      · rw [e2] at e; omega
      · rw [e2] at e; omega
      · rw [e2] at e; omega
  unfold qS
  by_cases h : o ≤ j ∧ j < o + 4 * M ∧ (j - o) % M = i
  · rw [if_pos (show o ≤ j ∧ j < o + 4 * M ∧ (j - o) % M < i + 1 by omega)]
    rcases key.2 h with e | e | e | e
    · rw [if_pos e]
    · rw [if_pos e]; split <;> rfl
    · rw [if_pos e]; split; · rfl
      split <;> rfl
    · rw [if_pos e]; split; · rfl
      split; · rfl
      split <;> rfl
  · have hn := fun e => h (key.1 e)
    rw [if_neg (fun e => hn (Or.inl e)), if_neg (fun e => hn (Or.inr (Or.inl e))), if_neg (fun e => hn (Or.inr (Or.inr (Or.inl e)))), if_neg (fun e => hn (Or.inr (Or.inr (Or.inr e))))]
    by_cases h2 : o ≤ j ∧ j < o + 4 * M ∧ (j - o) % M < i
    · rw [if_pos h2, if_pos (by omega)]
    · rw [if_neg h2, if_neg (by omega)]

/-! ### One number, and two -/
theorem layF_one {p w : Nat} {x A : Nat → Nat} {st s o : Nat} (hx : x s < p) (n : Nat) : (lf n A).set o (x s) = lf n (layF p w x st 1 s o A) :=
  lf_set fun j _ => by
    unfold layF tS
    by_cases e : j = o
    · subst e
      rw [if_pos (by omega), if_pos rfl, Nat.sub_self]
      simp [sN, Nat.mod_eq_of_lt hx]
    · rw [if_neg (by omega), if_neg e]
theorem layF_two {p w : Nat} {x A : Nat → Nat} {st s o : Nat} (hp : Prm p) (h3 : 3 ≤ p) (ho : OrdN (w ^ st) p 2) (n : Nat) :
    ((lf n A).set o ((x s + x (s + st)) % p)).set (o + 1) ((x s + negN (x (s + st)) p) % p) = lf n (layF p w x st 2 s o A) := by
  have hh := half_pow hp h3 (M := 1) (by omega) ho
  rw [Nat.pow_one] at hh
  rw [lf_set (g := fun j => if j = o then (x s + x (s + st)) % p else A j) fun j _ => rfl]
  refine lf_set fun j _ => ?_
  unfold layF tS
  by_cases e : j = o + 1
  · subst e
    rw [if_pos (by omega), if_pos rfl, Nat.add_sub_cancel_left, sN_two]
    simp only [Nat.mul_zero, Nat.pow_zero, Nat.mul_one, Nat.one_mul, Nat.pow_one, Nat.zero_mul, Nat.add_zero]
    have hh2 : Cg p (w ^ st) (p - 1) := by unfold Cg; rw [hh, Nat.mod_eq_of_lt (by omega)]
    exact (Cg.add (Cg.refl p (x s)) ((Cg.mul (Cg.refl p (x (s + st))) hh2).trans (by rw [Nat.mul_comm]; exact (Cg.neg (by omega) (Cg.refl _ _)).symm)))
  · rw [if_neg e]
    by_cases e2 : j = o
    · subst e2
      rw [if_pos (by omega), if_pos rfl, Nat.sub_self, sN_two]
      simp only [Nat.zero_mul, Nat.pow_zero, Nat.mul_one, Nat.one_mul, Nat.add_zero]
    · rw [if_neg (by omega), if_neg e2]
end Go.Proofs.YtpjfapibjihbbaaGreatDoor
/-
  A region that leaves its order open, whose first operations read and call, and whose last ones follow one upon another (a store): one walk serves every order.
-/
namespace Go.Proofs.YtpjfapibjihbbaaGreatDoor
open Go.RowKit Go.Sort

section
variable {P : Program} {ops : Array Oper} {md : Region.Mode} {C : World → Prop}

/-- Some operations of the head, in whatever order, then what is asked. -/
def headQ (P : Program) (md : Region.Mode) (ops : Array Oper) (C : World → Prop) (n : Nat) (L : Array Bool → Act → Prop) : Nat → Array Bool → Act → Prop
  | 0, s, a => L s a
  | f + 1, s, a => Region.ready md ops s ≠ [] ∧ ∀ i ∈ Region.ready md ops s, i < n ∧ qOp P ops C i (headQ P md ops C n L f (s.setIfInBounds i true)) a

theorem any_of_headQ {n g : Nat} {L : Array Bool → Act → Prop} {Q : Exit → Act → World → Prop} (hL : ∀ s a w, C w → L s a → wpAny P md ops Q g s a w) :
    ∀ (f : Nat) (s : Array Bool) (a : Act) (w : World), C w → headQ P md ops C n L f s a → wpAny P md ops Q (f + g) s a w
  | 0, s, a, w, hw, h => by rw [Nat.zero_add]; exact hL s a w hw h
  | f + 1, s, a, w, hw, h => by
    rw [show f + 1 + g = (f + g) + 1 by omega]
    exact ⟨fun h0 => absurd h0 h.1, fun i hi => wpOp_of_qOp hw (fun a' w' hw' h' => any_of_headQ hL f _ a' w' hw' h') (h.2 i hi).2⟩

/-- Nothing of the tail comes up while something of the head is left. -/
theorem in_head {n i j : Nat} {s : Array Bool} (hs : Region.sinkB md ops n = true) (hc : Region.chainB md ops n = true) (hn : n < ops.size) (inv : HeadInv md ops n s) (hi : i < n)
    (hr : i ∈ Region.ready md ops s) (hj : j ∈ Region.ready md ops s) : j < n := by
  rcases Nat.lt_or_ge j n with h | h
  · exact h
  · exact absurd hj (tail_waits hs hc hn inv _ i rfl hi (mem_ready.1 hr).1 j h)

theorem headQ_first {n i : Nat} {oi : Oper} {v : Value} {L : Array Bool → Act → Prop} (hi : ops[i]? = some oi) (hsel : ∀ (j : Nat) (o : Oper) cs b, ops[j]? = some o → o.op ≠ .select cs b)
    (hs : Region.sinkB md ops n = true) (hc : Region.chainB md ops n = true) (hn : n < ops.size) (hin : i < n) (hdone : ∀ s a, L s a → ∀ j ∈ Region.ready md ops s, n ≤ j) :
    ∀ (f : Nat) (s : Array Bool) (a : Act), HeadInv md ops n s →
      (∀ j oj, ops[j]? = some oj → j ≠ i → s.getD j true = false → (∀ e ∈ oj.after, Region.binds md e = true → e.on ≠ i) → oi.apart ops oj = true) →
      i ∈ Region.ready md ops s → YieldsIn P ops C oi v a → headQ P md ops C n L f (s.setIfInBounds i true) (a.put oi.dst v) → headQ P md ops C n L (f + 1) s a := by
  intro f
  induction f with
  | zero =>
    intro s a inv _ hr hy H
    refine ⟨fun h => (by rw [h] at hr; cases hr), fun j hj => ⟨in_head hs hc hn inv hin hr hj, ?_⟩⟩
    by_cases e : j = i
    · subst e; exact hy.qOp hi H
    · have h1 := hdone _ _ H j (ready_mono hj e)
      have h2 := in_head hs hc hn inv hin hr hj
      omega
  | succ f ih =>
    intro s a inv free hr hy H
    refine ⟨fun h => (by rw [h] at hr; cases hr), fun j hj => ⟨in_head hs hc hn inv hin hr hj, ?_⟩⟩
    by_cases e : j = i
    · subst e; exact hy.qOp hi H
    · obtain ⟨un, oj, hoj, hall⟩ := mem_ready.1 hj
      have no : ∀ x ∈ oj.after, Region.binds md x = true → x.on ≠ i := fun x hx hb he => by
        have := hall x hx hb
        rw [he, getD_both (mem_ready.1 hr).1] at this
        cases this
      refine qOp_mono (fun a' h3 => ih _ a' (inv.set hj (in_head hs hc hn inv hin hr hj)) (fun k ok hk hki hu hno => free k ok hk hki ?_ hno) (ready_mono hr (Ne.symm e)) h3.1 ?_)
        (qOp_put hoj (free j oj hoj e un no) (fun cs b => hsel i oi cs b hi) (fun cs b => hsel j oj cs b hoj) hy (H.2 j (ready_mono hj e)).2)
      · by_cases hjk : j = k
        · subst hjk; exact un
        · rw [getD_set_ne true hjk] at hu; exact hu
      · rw [Array.setIfInBounds_comm _ _ e]; exact h3.2

theorem headQ_lex {n g : Nat} {Lq : Act → Prop} (hsel : Region.noSelect ops = true) (hs : Region.sinkB md ops n = true) (hc : Region.chainB md ops n = true) (hn : n < ops.size) :
    ∀ (l : List Oper) (k : Nat) (s : Array Bool) (a : Act), (∀ j, j < l.length → l[j]? = ops[k + j]?) → k + l.length = n → HeadInv md ops n s →
    Region.lexHead md ops g l.length k s = true → wpQuiet P ops C Lq l a → headQ P md ops C n (fun s' a' => Region.seqB md ops g n s' = true ∧ Lq a') l.length s a
  | [], k, s, a, _, hk, _, hB, h => by
    have e : k = n := by simpa using hk
    subst e
    exact ⟨by simpa [Region.lexHead] using hB, h⟩
  | o :: l, k, s, a, hl, hk, inv, hB, h => by
    have h0 : ops[k]? = some o := by simpa using (hl 0 (by simp)).symm
    simp only [List.length_cons, Region.lexHead, Bool.and_eq_true] at hB
    simp only [List.length_cons] at hk
    have hr : k ∈ Region.ready md ops s := by simpa using hB.1.1
    have hq : qOp P ops C k (wpQuiet P ops C Lq l) a := by unfold qOp; simp only [h0]; exact h
    obtain ⟨v, hy, hK⟩ := yieldsIn_of_qOp h0 hq
    exact headQ_first h0 (Region.noSelect_spec hsel) hs hc hn (by omega) (fun s' a' hL => seqB_ready hL.1) l.length s a inv (Region.free_spec h0 hB.1.2) hr hy
      (headQ_lex hsel hs hc hn l (k + 1) _ _ (fun j hj => by have := hl (j + 1) (by simp; omega); simpa [Nat.add_assoc, Nat.add_comm 1 j] using this) (by omega) (inv.set hr (by omega)) hB.2 hK)
end

/-- THE LAW: the first n operations read and call (the callees may lay blocks); the others follow one upon another, in whatever world those leave. -/
theorem wp_region_tail {P : Program} {id : Nat} {Q : Exit → Act → World → Prop} {a : Act} {w : World} {l : List Oper} (n : Nat) (hm : P.follows .mixedOrders = true) (hB : Region.lexTailB .any l.toArray n = true)
    (h : wpQuiet P l.toArray (fun w' => ∃ p : Regrown, w' = grow (redrawn w p.d) p.os) (fun a' => ∀ w', (∃ p : Regrown, w' = grow (redrawn w p.d) p.os) → wpList P l.toArray Q (l.drop n) a' w') (l.take n) a) : (Code.region id l.toArray true).wp P Q a w := by
  simp only [Region.lexTailB, Bool.and_eq_true, decide_eq_true_eq] at hB
  obtain ⟨⟨⟨⟨hsel, hn⟩, hs⟩, hc⟩, hlex⟩ := hB
  have hn' : n < l.length := by simpa using hn
  have tl : (l.take n).length = n := by simp; omega
  have dl : (l.drop n).length = l.toArray.size - n := by simp
  have inv0 : HeadInv .any l.toArray n (Array.replicate l.toArray.size false) :=
    ⟨by simp, fun j oj _ hl => (by rw [getD_replicate_false] at hl; cases hl), fun t _ ht => getD_in (by simpa using ht) (getD_replicate_false _ _)⟩
  have H := headQ_lex (C := fun w' => ∃ p : Regrown, w' = grow (redrawn w p.d) p.os) (md := .any) (g := l.toArray.size - n) hsel hs hc hn (l.take n) 0 _ a (fun j hj => by
    have hj' : j < n := by rw [tl] at hj; exact hj
    simp [hj']) (by simpa using tl) inv0 (by rw [tl]; exact hlex) h
  have K := any_of_headQ (Q := Q) (g := l.toArray.size - n) (fun s a' w' hw' hL => by
    have := wpAny_of_seq (md := .any) (Q' := Q) (l.drop n) n s a' w' (fun j => by simp [List.getElem?_drop]) (by rw [dl]; exact hL.1) (hL.2 w' hw')
    rwa [dl] at this) _ _ _ { w with drawn := w.drawn + 1 } ⟨⟨w.drawn + 1, #[]⟩, by rw [grow_empty]; rfl⟩ H
  rw [tl, show n + (l.toArray.size - n) = l.toArray.size by omega] at K
  exact wp_region_any hm K

/-- A callee that only draws: the world behind it is a letter. -/
theorem Ans.useB {f : FuncId} {args : Array Value} {v : Value} (h : Ans f args v) {w : World} {R : Ending → World → Prop} (k : ∀ w', Below w.heap.size w w' → R (.returned v) w') : Calls Tryz.prog f args w R :=
  h.use _ fun n => k _ (below_drewN w n)
/-- .. behind a region's draw. -/
theorem below_undrew {w X : World} (h : Below w.drew.heap.size w.drew X) : Below w.heap.size w X := ⟨h.os, h.tape, h.output, h.size, h.block⟩
end Go.Proofs.YtpjfapibjihbbaaGreatDoor
/-
  A region that leaves its order open, whose first operations read and call what only draws, and whose last ones follow one upon another (stores): one walk serves every order.
-/
namespace Go.Proofs.YtpjfapibjihbbaaGreatDoor
open Go.RowKit Go.Sort

/-- THE LAW: the first n operations read and call (the callees only draw); the others follow one upon another, in whatever world those leave. -/
theorem wp_region_tail_lit {P : Program} {id : Nat} {Q : Exit → Act → World → Prop} {a : Act} {w : World} {l : List Oper} (n : Nat) (hm : P.follows .mixedOrders = true) (hB : Region.lexTailB .any l.toArray n = true)
    (h : wpQuiet P l.toArray (fun w' => ∃ x : Nat, w' = w.drewN x) (fun a' => ∀ w', (∃ x : Nat, w' = w.drewN x) → wpList P l.toArray Q (l.drop n) a' w') (l.take n) a) : (Code.region id l.toArray true).wp P Q a w := by
  simp only [Region.lexTailB, Bool.and_eq_true, decide_eq_true_eq] at hB
  obtain ⟨⟨⟨⟨hsel, hn⟩, hs⟩, hc⟩, hlex⟩ := hB
  have hn' : n < l.length := by simpa using hn
  have tl : (l.take n).length = n := by simp; omega
  have dl : (l.drop n).length = l.toArray.size - n := by simp
  have inv0 : HeadInv .any l.toArray n (Array.replicate l.toArray.size false) :=
    ⟨by simp, fun j oj _ hl => (by rw [getD_replicate_false] at hl; cases hl), fun t _ ht => getD_in (by simpa using ht) (getD_replicate_false _ _)⟩
  have H := headQ_lex (C := fun w' => ∃ x : Nat, w' = w.drewN x) (md := .any) (g := l.toArray.size - n) hsel hs hc hn (l.take n) 0 _ a (fun j hj => by
    have hj' : j < n := by rw [tl] at hj; exact hj
    simp [hj']) (by simpa using tl) inv0 (by rw [tl]; exact hlex) h
  have K := any_of_headQ (Q := Q) (g := l.toArray.size - n) (fun s a' w' hw' hL => by
    have := wpAny_of_seq (md := .any) (Q' := Q) (l.drop n) n s a' w' (fun j => by simp [List.getElem?_drop]) (by rw [dl]; exact hL.1) (hL.2 w' hw')
    rwa [dl] at this) _ _ _ { w with drawn := w.drawn + 1 } ⟨1, rfl⟩ H
  rw [tl, show n + (l.toArray.size - n) = l.toArray.size by omega] at K
  exact wp_region_any hm K

end Go.Proofs.YtpjfapibjihbbaaGreatDoor

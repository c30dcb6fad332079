/-
  Plain mathematics of Radix2Folds: the sums of a list's halves; a half put twice. No condition.
-/
import Derived.Test.YtmeefipdbeifeaaGreatDoorF34
namespace Go.Proofs.YtmeefipdbeifeaaGreatDoor
set_option linter.unusedVariables false

theorem twR_half {x : En} {M : Nat} (hM : 1 ≤ M) (hd : (x.p - 1) % (2 * M) = 0) : twR x (2 * M) false ^ 2 % x.p = twR x M false % x.p := by
  show rootN x.p x.g (2 * M) ^ 2 % x.p = rootN x.p x.g M % x.p
  obtain ⟨t, ht⟩ := Nat.dvd_of_mod_eq_zero hd
  unfold rootN
  have e1 : (x.p - 1) / (2 * M) = t := by rw [ht]; exact Nat.mul_div_cancel_left t (by omega)
  have e2 : (x.p - 1) / M = t * 2 := by rw [ht, Nat.mul_comm 2 M, Nat.mul_assoc, Nat.mul_div_cancel_left _ (by omega), Nat.mul_comm]
  rw [e1, e2, ← Nat.pow_mod, ← Nat.pow_mul, Nat.mod_mod]
theorem half_div {p M : Nat} (hd : (p - 1) % (2 * M) = 0) : (p - 1) % M = 0 := by
  obtain ⟨t, ht⟩ := Nat.dvd_of_mod_eq_zero hd
  exact Nat.mod_eq_zero_of_dvd ⟨2 * t, by rw [ht, Nat.mul_comm 2 M, Nat.mul_assoc]⟩
/-- The sums of a list's halves. -/
def hvS (p M : Nat) (xs : List Nat) : List Nat := lf M fun j => (atL xs j + atL xs (j + M)) % p
theorem hvS_len (p M : Nat) (xs : List Nat) : (hvS p M xs).length = M := lf_len _ _
theorem fold_sum {x : En} (hF : Fld x) {M : Nat} (hM : 1 ≤ M) {xs : List Nat} (hl : xs.length = 2 * M) (hd : (x.p - 1) % (2 * M) = 0) {k : Nat} (hk : k < M) : dV x false xs (2 * k) = dV x false (hvS x.p M xs) k := by
  obtain ⟨h3, hodd, hlt⟩ := hF.num
  have ho := twR_ord hF (n := 2 * M) (by omega) hd false
  unfold dV
  rw [if_neg (by decide), if_neg (by decide), hl, hvS_len, (down_two hF.prm (by omega) hM ho (atL xs) k).1, tS_base (twR_half hM hd)]
  refine tS_cong (fun j hj => ?_) k
  unfold hvS
  rw [lf_at _ hj, Nat.mod_mod, Nat.add_comm j M]
theorem twice_at {M : Nat} {ts : List Nat} (hl : ts.length = M) {j : Nat} (hj : j < M) : atL (ts ++ ts) j = atL ts j ∧ atL (ts ++ ts) (M + j) = atL ts j := by
  unfold atL
  rw [List.getD_eq_getElem?_getD, List.getD_eq_getElem?_getD, List.getD_eq_getElem?_getD, List.getElem?_append_left (by omega), List.getElem?_append_right (by omega), hl, Nat.add_sub_cancel_left]
  exact ⟨rfl, rfl⟩
theorem fold_twice {x : En} (hF : Fld x) {M : Nat} (hM : 1 ≤ M) {ts : List Nat} (hl : ts.length = M) (hd : (x.p - 1) % (2 * M) = 0) {k : Nat} (hk : k < M) : dV x false (ts ++ ts) (2 * k) = (dV x false ts k + dV x false ts k) % x.p ∧ dV x false (ts ++ ts) (2 * k + 1) = 0 := by
  obtain ⟨h3, hodd, hlt⟩ := hF.num
  have ho := twR_ord hF (n := 2 * M) (by omega) hd false
  have hll : (ts ++ ts).length = 2 * M := by rw [List.length_append, hl]; omega
  obtain ⟨d1, d2⟩ := down_two hF.prm (by omega) hM ho (atL (ts ++ ts)) k
  unfold dV
  rw [if_neg (by decide), if_neg (by decide), hll, hl]
  constructor
  · rw [d1, tS_base (twR_half hM hd), ← Nat.add_mod]
    have e : tS (twR x M false) M (atL ts) k + tS (twR x M false) M (atL ts) k = tS (twR x M false) M (fun j => 1 * atL ts j + atL ts j) k := by rw [tS_lin, Nat.one_mul]
    rw [e]
    refine tS_cong (fun j hj => ?_) k
    obtain ⟨h1, h2⟩ := twice_at hl hj
    rw [h1, h2, Nat.one_mul]
  · rw [if_neg (by decide), d2]
    have e : tS (twR x (2 * M) false ^ 2) M (fun _ => 0) k = 0 := by
      unfold tS
      exact (sN_ext (g := fun _ => 0) fun j _ => Nat.zero_mul _).trans (sN_zero M)
    rw [← Nat.zero_mod x.p, ← e]
    refine tS_cong (fun j hj => ?_) k
    obtain ⟨h1, h2⟩ := twice_at hl hj
    rw [h1, h2]
    have e2 : atL ts j + (x.p - 1) * atL ts j = x.p * atL ts j := by
      have : x.p * atL ts j = (x.p - 1 + 1) * atL ts j := by congr 1; omega
      rw [this, Nat.succ_mul]; omega
    rw [e2, Nat.mul_assoc, Nat.mul_mod_right, Nat.zero_mod]
end Go.Proofs.YtmeefipdbeifeaaGreatDoor

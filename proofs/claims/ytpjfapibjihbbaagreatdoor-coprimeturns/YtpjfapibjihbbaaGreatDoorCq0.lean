/-
  Plain mathematics of layer 15: by rows and by columns the transform, and the inverse one, of a list whose length has two coprime parts. No condition.
-/
import Derived.Test.YtpjfapibjihbbaaGreatDoorF43
import Derived.Test.YtpjfapibjihbbaaGreatDoorF44
namespace Go.Proofs.YtpjfapibjihbbaaGreatDoor
set_option linter.unusedVariables false

theorem cpart_div {p a b : Nat} (ha : 1 ≤ a) (hb : 1 ≤ b) (hd : p % (a * b) = 0) : p / (a * b) * a = p / b := by
  obtain ⟨q, rfl⟩ := Nat.dvd_of_mod_eq_zero hd
  rw [Nat.mul_div_cancel_left q (Nat.mul_pos (by omega) (by omega)), show a * b * q = b * (q * a) by ac_rfl, Nat.mul_div_cancel_left _ (by omega)]
theorem cpart_mod {p a b : Nat} (hd : p % (a * b) = 0) : p % b = 0 := Nat.mod_eq_zero_of_dvd (Nat.dvd_trans (Nat.dvd_mul_left b a) (Nat.dvd_of_mod_eq_zero hd))
theorem cpart_exp {a b : Nat} (ha : 1 ≤ a) (hb : 1 ≤ b) : (a * b - 1) * a % (a * b) = a * (b - 1) % (a * b) := by
  obtain ⟨a, rfl⟩ : ∃ a', a = a' + 1 := ⟨a - 1, by omega⟩
  obtain ⟨b, rfl⟩ : ∃ b', b = b' + 1 := ⟨b - 1, by omega⟩
  have e : ((a + 1) * (b + 1) - 1) * (a + 1) = (a + 1) * (b + 1 - 1) + (a + 1) * (b + 1) * a := by
    have h1 : (a + 1) * (b + 1) - 1 = (a + 1) * b + a := by rw [Nat.mul_add]; omega
    rw [h1, Nat.add_sub_cancel, Nat.mul_add (a + 1) b 1, Nat.mul_one, Nat.add_mul ((a + 1) * b) a (a + 1), Nat.mul_add ((a + 1) * b) a 1, Nat.mul_one, Nat.add_mul ((a + 1) * b) (a + 1) a, Nat.mul_comm (a + 1) a]
    omega
  rw [e, Nat.add_mul_mod_self_left]
/-- The root of the rows' order, of the columns'. -/
theorem twR_part {x : En} (hF : Fld x) {a b : Nat} (ha : 1 ≤ a) (hb : 1 ≤ b) (hd : (x.p - 1) % (a * b) = 0) (i : Bool) : twR x (a * b) i ^ a % x.p = twR x b i % x.p := by
  have hr : rootN x.p x.g (a * b) ^ a % x.p = rootN x.p x.g b := by
    unfold rootN
    rw [← Nat.pow_mod, ← Nat.pow_mul, cpart_div ha hb hd]
  have ho := twR_ord hF (Nat.mul_pos (show 0 < a by omega) (show 0 < b by omega)) hd false
  cases i
  · show rootN x.p x.g (a * b) ^ a % x.p = rootN x.p x.g b % x.p
    rw [hr]; unfold rootN; rw [Nat.mod_mod]
  · show (rootN x.p x.g (a * b) ^ (a * b - 1) % x.p) ^ a % x.p = rootN x.p x.g b ^ (b - 1) % x.p % x.p
    have ho' : OrdN (rootN x.p x.g (a * b)) x.p (a * b) := ho
    rw [← Nat.pow_mod, ← Nat.pow_mul, Nat.mod_mod, ← hr, ← Nat.pow_mod, ← Nat.pow_mul, ho'.mod, cpart_exp ha hb, ← ho'.mod]
theorem invN_part (x : En) (a b : Nat) : invN x b * invN x a % x.p = invN x (a * b) % x.p := by
  unfold invN
  rw [← Nat.mul_mod, ← Nat.mul_pow, Nat.mul_comm b a, Nat.mod_mod]
theorem tS_mulr (w n c : Nat) (X : Nat → Nat) (k : Nat) : tS w n (fun j => X j * c) k = tS w n X k * c := by
  unfold tS
  rw [← sN_mulr]
  exact sN_ext fun j _ => by rw [Nat.mul_right_comm]
/-- A list by its places. -/
def mkL (n : Nat) (f : Nat → Nat) : List Nat := (List.range n).map f
theorem mkL_len (n : Nat) (f : Nat → Nat) : (mkL n f).length = n := by simp [mkL]
theorem mkL_get {n j : Nat} (f : Nat → Nat) (h : j < n) : (mkL n f)[j]? = some (f j) := by unfold mkL; rw [List.getElem?_map, List.getElem?_range h]; rfl
theorem mkL_at {n j : Nat} (f : Nat → Nat) (h : j < n) : atL (mkL n f) j = f j := atL_of (mkL_get f h)
theorem mkL_ext {n : Nat} {f g : Nat → Nat} (h : ∀ j, j < n → f j = g j) : mkL n f = mkL n g := List.map_congr_left fun j hj => h j (List.mem_range.1 hj)
theorem mkL_all {xs : List Nat} {n : Nat} (hl : xs.length = n) : mkL n (atL xs) = xs := list_ext (by rw [mkL_len, hl]) fun k hk => by rw [mkL_len] at hk; exact mkL_at _ hk
/-- Row i of the table, of the list. -/
def rowX (a b : Nat) (xs : List Nat) (i : Nat) : List Nat := mkL b fun j => atL xs (inS a b (i * b + j))
/-- Column j of the rows' transforms. -/
def colX (x : En) (v : Bool) (a b : Nat) (xs : List Nat) (j : Nat) : List Nat := mkL a fun i => dV x v (rowX a b xs i) j
/-- Rows, then columns: the transform. -/
theorem dV_parts {x : En} (hF : Fld x) {a b : Nat} {xs : List Nat} (ha : 1 ≤ a) (hb : 1 ≤ b) (hc : Nat.Coprime a b) (hl : xs.length = a * b) (hd : (x.p - 1) % (a * b) = 0) (v : Bool) (k : Nat) :
    dV x v (colX x v a b xs (k % b)) (k % a) = dV x v xs k := by
  have hb1 := twR_part hF ha hb hd v
  have ha1 : twR x (a * b) v ^ b % x.p = twR x a v % x.p := by
    have := twR_part hF hb ha (by rw [Nat.mul_comm]; exact hd) v
    rwa [Nat.mul_comm b a] at this
  have ho := twR_ord hF (Nat.mul_pos (show 0 < a by omega) (show 0 < b by omega)) hd v
  have hg := good_thomas ha hb hc ho (atL xs) k
  have hi := invN_part x a b
  have hrl : ∀ i, (rowX a b xs i).length = b := fun i => mkL_len _ _
  have hcl : ∀ j, (colX x v a b xs j).length = a := fun j => mkL_len _ _
  -- a row's transform, without the scale
  have hrow : ∀ i, i < a → tS (twR x b v) b (atL (rowX a b xs i)) (k % b) % x.p = tS (twR x (a * b) v ^ a) b (fun j => atL xs ((b * i + a * j) % (a * b))) (k % b) % x.p := fun i _ => by
    rw [tS_base hb1, tS_ext fun j hj => ?_]
    show atL (mkL b fun j => atL xs (inS a b (i * b + j))) j = _
    rw [mkL_at _ hj, inS_at hj]
  cases v
  · show (if false = true then _ else _) = (if false = true then _ else _)
    rw [if_neg (by decide), if_neg (by decide), hcl, hl, ← hg, ← tS_base ha1]
    refine tS_cong (fun i hi => ?_) _
    show atL (mkL a fun i => dV x false (rowX a b xs i) (k % b)) i % x.p = _
    rw [mkL_at _ hi, ← hrow i hi]
    show (if false = true then _ else _) % x.p = _
    rw [if_neg (by decide), hrl, Nat.mod_mod]
  · show (if true = true then _ else _) = (if true = true then _ else _)
    rw [if_pos rfl, if_pos rfl, hcl, hl]
    have e : tS (twR x a true) a (atL (colX x true a b xs (k % b))) (k % a) % x.p = tS (twR x (a * b) true) (a * b) (atL xs) k * invN x b % x.p := by
      rw [← Nat.mod_mul_mod, ← hg, Nat.mod_mul_mod, ← tS_mulr, ← tS_base ha1]
      refine tS_cong (fun i hi => ?_) _
      show atL (mkL a fun i => dV x true (rowX a b xs i) (k % b)) i % x.p = _
      rw [mkL_at _ hi, ← Nat.mod_mul_mod, ← hrow i hi]
      show (if true = true then _ else _) % x.p = _
      rw [if_pos rfl, hrl, Nat.mod_mod]
    rw [e, Nat.mod_mul_mod, Nat.mul_assoc, Nat.mul_mod, hi, ← Nat.mul_mod, Nat.mod_mul_mod]
end Go.Proofs.YtpjfapibjihbbaaGreatDoor

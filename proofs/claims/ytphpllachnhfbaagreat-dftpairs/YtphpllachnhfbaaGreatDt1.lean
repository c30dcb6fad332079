/-
  Plain mathematics of layer 11: the transform of a list, and the inverse one; there and back, and the other laws. No condition.
-/
import Derived.Test.YtphpllachnhfbaaGreatDt0
import Derived.Test.YtphpllachnhfbaaGreatTw1
namespace Go.Proofs.YtphpllachnhfbaaGreat
set_option linter.unusedVariables false

/-- A list's numbers, by their places. -/
def atL (xs : List Nat) (j : Nat) : Nat := xs.getD j 0
/-- What makes 1 with a length, modulo p. -/
def invN (x : En) (n : Nat) : Nat := n ^ (x.p - 2) % x.p
def dV (x : En) (i : Bool) (xs : List Nat) (k : Nat) : Nat :=
  if i then (tS (twR x xs.length true) xs.length (atL xs) k % x.p) * invN x xs.length % x.p else tS (twR x xs.length false) xs.length (atL xs) k % x.p
/-- The transform, or the inverse one. -/
def dT (x : En) (i : Bool) (xs : List Nat) : List Nat := (List.range xs.length).map (dV x i xs)
theorem dT_len (x : En) (i : Bool) (xs : List Nat) : (dT x i xs).length = xs.length := by simp [dT]
theorem dT_get {x : En} {i : Bool} {xs : List Nat} {k : Nat} (h : k < xs.length) : (dT x i xs)[k]? = some (dV x i xs k) := by
  unfold dT; rw [List.getElem?_map, List.getElem?_range h]; rfl
theorem dT_at {x : En} {i : Bool} {xs : List Nat} {k : Nat} (h : k < xs.length) : atL (dT x i xs) k = dV x i xs k := by
  unfold atL; rw [List.getD_eq_getElem?_getD, dT_get h]; rfl
theorem dV_lt {x : En} (hF : Fld x) (i : Bool) (xs : List Nat) (k : Nat) : dV x i xs k < x.p := by
  have h3 := hF.num.1
  unfold dV
  cases i
  · exact Nat.mod_lt _ (by omega)
  · exact Nat.mod_lt _ (by omega)
theorem dT_lt {x : En} (hF : Fld x) (i : Bool) (xs : List Nat) : ∀ y ∈ dT x i xs, y < x.p := fun y hy => by
  obtain ⟨k, _, rfl⟩ := List.mem_map.1 hy
  exact dV_lt hF i xs k
theorem list_ext {xs ys : List Nat} (hl : xs.length = ys.length) (h : ∀ k, k < xs.length → atL xs k = atL ys k) : xs = ys := by
  apply List.ext_getElem?
  intro k
  by_cases hk : k < xs.length
  · have := h k hk
    unfold atL at this
    rw [List.getD_eq_getElem?_getD, List.getD_eq_getElem?_getD, List.getElem?_eq_getElem hk, List.getElem?_eq_getElem (by omega)] at this
    rw [List.getElem?_eq_getElem hk, List.getElem?_eq_getElem (by omega)]
    simpa using this
  · rw [List.getElem?_eq_none (by omega), List.getElem?_eq_none (by omega)]
theorem atL_mem {xs : List Nat} {k : Nat} (h : k < xs.length) : atL xs k ∈ xs := by
  unfold atL
  rw [List.getD_eq_getElem?_getD, List.getElem?_eq_getElem h]
  exact List.getElem_mem h
theorem atL_of {xs : List Nat} {k y : Nat} (h : xs[k]? = some y) : atL xs k = y := getD_of h

/-! ### There and back -/
theorem inv_exp {w p n v : Nat} (hp : Prm p) (h : OrdN w p n) (hn : 1 ≤ n) (hv : IsInv w p v) (m : Nat) : v ^ m % p = w ^ ((n - 1) * m) % p := by
  rw [inv_root hp h hn hv, ← Nat.pow_mod, ← Nat.pow_mul]
theorem len_inv {x : En} (hF : Fld x) {n : Nat} (h1 : 1 ≤ n) (hd : (x.p - 1) % n = 0) : n % x.p ≠ 0 ∧ n < x.p ∧ n * invN x n % x.p = 1 := by
  have h3 := hF.num.1
  have hle := Nat.le_of_dvd (by omega) (Nat.dvd_of_mod_eq_zero hd)
  have hne : n % x.p ≠ 0 := by rw [Nat.mod_eq_of_lt (by omega)]; omega
  refine ⟨hne, by omega, ?_⟩
  unfold invN
  rw [Nat.mul_mod_mod, ← Nat.pow_succ', Nat.succ_eq_add_one, show x.p - 2 + 1 = x.p - 1 by omega]
  exact fermat hF.prm (not_dvd_of hne)
/-- The sums of the sums, with what makes 1: n times the list. -/
theorem back_sum {p n w v : Nat} (hp : Prm p) (hn : 1 ≤ n) (h : OrdN w p n) (hv : IsInv w p v) (X : Nat → Nat) {k : Nat} (hk : k < n) : tS v n (fun i => tS w n X i % p) k % p = n * X k % p := by
  have e : tS v n (fun i => tS w n X i % p) k % p = sN (fun i => tS w n X i * w ^ (i * ((n - 1) * k))) n % p := sN_cong fun i _ => by
    rw [Nat.mod_mul_mod, Nat.mul_mod, inv_exp hp h hn hv, ← Nat.mul_mod]
    congr 3
    rw [Nat.mul_left_comm i, Nat.mul_comm i k, Nat.mul_left_comm]
  rw [e, tS_twice hp hn h, opp_back hk]
theorem twR_rev {x : En} (hF : Fld x) {n : Nat} (h1 : 1 ≤ n) (hd : (x.p - 1) % n = 0) : IsInv (twR x n true) x.p (twR x n false) := by
  have hv := twR_inv hF h1 hd
  have ho := twR_ord hF h1 hd true
  have := hv.yes ((twR_ord hF h1 hd false).ne h1)
  exact ⟨twR_lt hF n false, fun _ => by rw [Nat.mul_comm]; exact this, fun e => absurd e (ho.ne h1)⟩
theorem dT_back {x : En} (hF : Fld x) {xs : List Nat} (h1 : 1 ≤ xs.length) (hd : (x.p - 1) % xs.length = 0) (hs : ∀ y ∈ xs, y < x.p) : dT x true (dT x false xs) = xs := by
  refine list_ext (by rw [dT_len, dT_len]) fun k hk => ?_
  rw [dT_len, dT_len] at hk
  rw [dT_at (by rw [dT_len]; exact hk)]
  unfold dV
  rw [if_pos rfl, dT_len]
  have e : tS (twR x xs.length true) xs.length (atL (dT x false xs)) k = tS (twR x xs.length true) xs.length (fun i => tS (twR x xs.length false) xs.length (atL xs) i % x.p) k := sN_ext fun i hi => by
    show atL (dT x false xs) i * _ = _
    rw [dT_at hi]; rfl
  obtain ⟨_, _, hi⟩ := len_inv hF h1 hd
  rw [e, back_sum hF.prm h1 (twR_ord hF h1 hd false) (twR_inv hF h1 hd) _ hk, Nat.mod_mul_mod, Nat.mul_right_comm, Nat.mul_mod, hi, Nat.one_mul, Nat.mod_mod]
  exact Nat.mod_eq_of_lt (hs _ (atL_mem hk))
theorem dT_forth {x : En} (hF : Fld x) {xs : List Nat} (h1 : 1 ≤ xs.length) (hd : (x.p - 1) % xs.length = 0) (hs : ∀ y ∈ xs, y < x.p) : dT x false (dT x true xs) = xs := by
  refine list_ext (by rw [dT_len, dT_len]) fun k hk => ?_
  rw [dT_len, dT_len] at hk
  rw [dT_at (by rw [dT_len]; exact hk)]
  unfold dV
  rw [if_neg (by decide), dT_len]
  obtain ⟨_, _, hi⟩ := len_inv hF h1 hd
  obtain ⟨v, hv⟩ : ∃ v, twR x xs.length true = v := ⟨_, rfl⟩
  obtain ⟨w, hw⟩ : ∃ w, twR x xs.length false = w := ⟨_, rfl⟩
  have hb := back_sum hF.prm h1 (twR_ord hF h1 hd true) (twR_rev hF h1 hd) (atL xs) hk
  have e : tS (twR x xs.length false) xs.length (atL (dT x true xs)) k % x.p = tS (twR x xs.length false) xs.length (fun i => tS (twR x xs.length true) xs.length (atL xs) i % x.p) k * invN x xs.length % x.p := by
    unfold tS
    rw [← sN_mulr]
    refine sN_cong fun i hi => ?_
    rw [dT_at hi]
    unfold dV
    rw [if_pos rfl, Nat.mod_mul_mod, Nat.mul_right_comm]
    rfl
  rw [e, Nat.mul_mod, hb, ← Nat.mul_mod, Nat.mul_right_comm, Nat.mul_mod, hi, Nat.one_mul, Nat.mod_mod]
  exact Nat.mod_eq_of_lt (hs _ (atL_mem hk))

/-! ### The other laws -/
theorem tS_lin (w n c : Nat) (X Y : Nat → Nat) (i : Nat) : tS w n (fun j => c * X j + Y j) i = c * tS w n X i + tS w n Y i := by
  unfold tS
  rw [← sN_mul, ← sN_add]
  exact sN_ext fun j _ => by rw [Nat.add_mul, Nat.mul_assoc]
theorem dV_lin {x : En} (i : Bool) {xs ys zs : List Nat} {c : Nat} (hy : ys.length = xs.length) (hz : zs.length = xs.length) (h : ∀ j, j < xs.length → atL zs j % x.p = (c * atL xs j + atL ys j) % x.p) (k : Nat) : dV x i zs k = (c * dV x i xs k + dV x i ys k) % x.p := by
  unfold dV
  rw [hy, hz]
  cases i
  · rw [if_neg (by decide), if_neg (by decide), if_neg (by decide), tS_cong (p := x.p) (y := fun j => c * atL xs j + atL ys j) h, tS_lin, Nat.add_mod, Nat.mul_mod, ← Nat.mul_mod, Nat.add_mod (c * _)]
    simp [Nat.mul_mod]
  · rw [if_pos rfl, if_pos rfl, if_pos rfl, tS_cong (p := x.p) (y := fun j => c * atL xs j + atL ys j) h, tS_lin, Nat.mod_mul_mod, Nat.add_mul, Nat.mod_mul_mod, Nat.mod_mul_mod, Nat.add_mod, Nat.add_mod (c * _), Nat.mul_assoc]
    simp [Nat.mul_mod]
theorem dV_moved {x : En} (hF : Fld x) {xs ms : List Nat} {k : Nat} (hk : k < xs.length) (hd : (x.p - 1) % xs.length = 0) (hm : ms.length = xs.length) (h : ∀ j, j < xs.length → atL ms ((j + k) % xs.length) = atL xs j) (i : Nat) : dV x false ms i = dV x false xs i * (twR x xs.length false ^ (i * k) % x.p) % x.p := by
  have ho := twR_ord hF (n := xs.length) (by omega) hd false
  unfold dV
  rw [hm, if_neg (by decide), if_neg (by decide)]
  obtain ⟨w, hw⟩ : ∃ w, twR x xs.length false = w := ⟨_, rfl⟩
  rw [hw] at ho ⊢
  unfold tS
  rw [← sN_round (fun j => atL ms j * w ^ (i * j)) hk, Nat.mod_mul_mod, Nat.mul_mod_mod, ← sN_mulr]
  refine sN_cong fun j hj => ?_
  have hw2 : w ^ (i * ((j + k) % xs.length)) % x.p = w ^ (i * (j + k)) % x.p := by rw [ho.mod, ho.mod (i * (j + k)), Nat.mul_mod_mod]
  rw [h j hj, Nat.mul_mod, hw2, ← Nat.mul_mod, Nat.mul_assoc, ← Nat.pow_add, ← Nat.mul_add]
theorem dV_twice {x : En} (hF : Fld x) {xs : List Nat} (h1 : 1 ≤ xs.length) (hd : (x.p - 1) % xs.length = 0) {j : Nat} (hj : j < xs.length) : dV x false (dT x false xs) ((xs.length - j) % xs.length) = atL xs j * xs.length % x.p := by
  have ho := twR_ord hF h1 hd false
  unfold dV
  rw [if_neg (by decide), dT_len]
  have e : tS (twR x xs.length false) xs.length (atL (dT x false xs)) ((xs.length - j) % xs.length) % x.p = sN (fun i => tS (twR x xs.length false) xs.length (atL xs) i * twR x xs.length false ^ (i * ((xs.length - j) % xs.length))) xs.length % x.p := sN_cong fun i hi => by
    rw [dT_at hi]
    unfold dV
    rw [if_neg (by decide), Nat.mod_mul_mod, Nat.mul_comm i]
  rw [e, tS_twice hF.prm h1 ho, Nat.mul_comm]
  congr 3
  have := opp_opp hj
  unfold opp at this ⊢
  rw [Nat.mod_eq_of_lt hj] at this
  exact this
theorem dV_first {x : En} {xs : List Nat} : dV x false xs 0 = sN (atL xs) xs.length % x.p := by
  unfold dV tS
  rw [if_neg (by decide)]
  congr 1
  exact sN_ext fun j _ => by rw [Nat.zero_mul, Nat.pow_zero, Nat.mul_one]
theorem dV_pairs {x : En} (hF : Fld x) {xs ys : List Nat} (h1 : 1 ≤ xs.length) (hd : (x.p - 1) % xs.length = 0) (hy : ys.length = xs.length) :
    sN (fun i => dV x false xs i * dV x false ys ((xs.length - i) % xs.length)) xs.length % x.p = sN (fun i => atL xs i * atL ys i) xs.length * xs.length % x.p := by
  have ho := twR_ord hF h1 hd false
  obtain ⟨n, hn⟩ : ∃ n, xs.length = n := ⟨_, rfl⟩
  obtain ⟨w, hw⟩ : ∃ w, twR x n false = w := ⟨_, rfl⟩
  rw [hn, hw] at ho
  rw [hn] at h1 hy ⊢
  have e1 : sN (fun i => dV x false xs i * dV x false ys ((n - i) % n)) n % x.p = sN (fun j => atL ys j * sN (fun i => tS w n (atL xs) i * w ^ (i * ((n - 1) * j))) n) n % x.p := by
    have a : sN (fun i => dV x false xs i * dV x false ys ((n - i) % n)) n % x.p = sN (fun i => sN (fun j => atL ys j * (tS w n (atL xs) i * w ^ (i * ((n - 1) * j)))) n) n % x.p := sN_cong fun i hi => by
      unfold dV
      rw [if_neg (by decide), if_neg (by decide), hn, hy, hw, ← Nat.mul_mod]
      have b : tS w n (atL ys) ((n - i) % n) % x.p = sN (fun j => atL ys j * w ^ (i * ((n - 1) * j))) n % x.p := sN_cong fun j _ => by
        have := pow_opp ho h1 i j
        unfold opp at this
        rw [Nat.mod_eq_of_lt hi] at this
        rw [Nat.mul_mod, this, ← Nat.mul_mod]
      rw [Nat.mul_mod, b, ← Nat.mul_mod, ← sN_mul]
      congr 1
      exact sN_ext fun j _ => by rw [Nat.mul_left_comm]
    rw [a, sN_swap]
    congr 1
    exact sN_ext fun j _ => sN_mul _ _ _
  rw [e1, ← sN_mulr]
  refine sN_cong fun j hj => ?_
  rw [Nat.mul_mod, tS_twice hF.prm h1 ho, opp_back hj, ← Nat.mul_mod, Nat.mul_left_comm, Nat.mul_comm, Nat.mul_comm (atL ys j)]
end Go.Proofs.YtphpllachnhfbaaGreat

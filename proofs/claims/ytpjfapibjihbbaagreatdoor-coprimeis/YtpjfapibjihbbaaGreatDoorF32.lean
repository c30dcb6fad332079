/-
  Plain mathematics of layer 11: sums, the sum of a root's powers, the transform's sum taken twice. No condition.
-/
import Derived.Test.YtpjfapibjihbbaaGreatDoorF31
import Derived.Test.YtpjfapibjihbbaaGreatDoorF30
namespace Go.Proofs.YtpjfapibjihbbaaGreatDoor
set_option linter.unusedVariables false

/-- The sum of the first n. -/
def sN (f : Nat → Nat) : Nat → Nat
  | 0 => 0
  | n + 1 => sN f n + f n
theorem sN_ext {f g : Nat → Nat} : ∀ {n : Nat}, (∀ j, j < n → f j = g j) → sN f n = sN g n
  | 0, _ => rfl
  | n + 1, h => by rw [sN, sN, sN_ext (fun j hj => h j (by omega)), h n (by omega)]
theorem sN_cong {p : Nat} {f g : Nat → Nat} : ∀ {n : Nat}, (∀ j, j < n → f j % p = g j % p) → sN f n % p = sN g n % p
  | 0, _ => rfl
  | n + 1, h => by rw [sN, sN, Nat.add_mod, sN_cong (fun j hj => h j (by omega)), h n (by omega), ← Nat.add_mod]
theorem sN_mod (p : Nat) (f : Nat → Nat) (n : Nat) : sN (fun j => f j % p) n % p = sN f n % p := sN_cong fun j _ => Nat.mod_mod _ _
theorem sN_add (f g : Nat → Nat) : ∀ n, sN (fun j => f j + g j) n = sN f n + sN g n
  | 0 => rfl
  | n + 1 => by rw [sN, sN, sN, sN_add f g n]; omega
theorem sN_mul (c : Nat) (f : Nat → Nat) : ∀ n, sN (fun j => c * f j) n = c * sN f n
  | 0 => rfl
  | n + 1 => by rw [sN, sN, sN_mul c f n, Nat.mul_add]
theorem sN_mulr (c : Nat) (f : Nat → Nat) : ∀ n, sN (fun j => f j * c) n = sN f n * c
  | 0 => by rw [sN, sN, Nat.zero_mul]
  | n + 1 => by rw [sN, sN, sN_mulr c f n, Nat.add_mul]
theorem sN_zero : ∀ n, sN (fun _ => 0) n = 0
  | 0 => rfl
  | n + 1 => by rw [sN, sN_zero n]
theorem sN_swap (F : Nat → Nat → Nat) (m : Nat) : ∀ n, sN (fun i => sN (fun j => F i j) m) n = sN (fun j => sN (fun i => F i j) n) m
  | 0 => by
    have : (fun j => sN (fun i => F i j) 0) = fun _ => 0 := rfl
    rw [this, sN_zero]; rfl
  | n + 1 => by
    rw [sN, sN_swap F m n, ← sN_add]; rfl
theorem sN_one (f : Nat → Nat) (k : Nat) : ∀ n, k < n → (∀ j, j < n → j ≠ k → f j = 0) → sN f n = f k
  | 0, h, _ => absurd h (by omega)
  | n + 1, h, hz => by
    by_cases e : k = n
    · subst e
      have : sN f k = 0 := by rw [sN_ext (g := fun _ => 0) (fun j hj => hz j (by omega) (by omega)), sN_zero]
      rw [sN, this, Nat.zero_add]
    · rw [sN, sN_one f k n (by omega) (fun j hj hne => hz j (by omega) hne), hz n (by omega) (by omega), Nat.add_zero]
theorem sN_split (f : Nat → Nat) (a : Nat) : ∀ b, sN f (a + b) = sN f a + sN (fun j => f (a + j)) b
  | 0 => rfl
  | b + 1 => by rw [← Nat.add_assoc, sN, sN_split f a b, sN, Nat.add_assoc]
/-- Round and round. -/
theorem sN_round (f : Nat → Nat) {n k : Nat} (hk : k < n) : sN (fun j => f ((j + k) % n)) n = sN f n := by
  have h1 : sN (fun j => f ((j + k) % n)) n = sN (fun j => f (k + j)) (n - k) + sN f k := by
    have h := sN_split (fun j => f ((j + k) % n)) (n - k) k
    rw [show n - k + k = n by omega] at h
    rw [h]
    congr 1
    · exact sN_ext fun j hj => by rw [Nat.mod_eq_of_lt (by omega), Nat.add_comm]
    · exact sN_ext fun j hj => by
        rw [show n - k + j + k = n + j by omega, Nat.add_mod_left, Nat.mod_eq_of_lt (by omega)]
  have h2 : sN f n = sN f k + sN (fun j => f (k + j)) (n - k) := by
    have h := sN_split f k (n - k)
    rw [show k + (n - k) = n by omega] at h
    exact h
  omega

/-! ### Powers of a root -/
theorem sN_geo (s p : Nat) (hs : s % p ≠ 1) (hp : Prm p) {n : Nat} (h1 : s ^ n % p = 1) : sN (fun i => s ^ i) n % p = 0 := by
  have h2 := hp.1
  have e : s * sN (fun i => s ^ i) n + 1 = sN (fun i => s ^ i) n + s ^ n := by
    clear h1
    induction n with
    | zero => simp [sN]
    | succ n ih => rw [sN, Nat.mul_add, ← Nat.pow_succ', Nat.add_right_comm, ih]
  obtain ⟨S, hS⟩ : ∃ S, sN (fun i => s ^ i) n = S := ⟨_, rfl⟩
  rw [hS] at e ⊢
  have e2 : (s * S + 1) % p = (S + 1) % p := by rw [e, Nat.add_mod, h1, Nat.add_mod S 1, Nat.mod_eq_of_lt (show 1 < p by omega)]
  have e3 : (s * S) % p = S % p := by
    have hz := congrArg (fun z => (z + (p - 1)) % p) e2
    simp only [Nat.mod_add_mod] at hz
    rw [show s * S + 1 + (p - 1) = s * S + p by omega, show S + 1 + (p - 1) = S + p by omega, Nat.add_mod_right, Nat.add_mod_right] at hz
    exact hz
  -- (s + (p - 1)) S is a multiple of p
  have e4 : (s + (p - 1)) * S % p = 0 := by
    rw [Nat.add_mul, Nat.add_mod, e3, ← Nat.add_mod, show S + (p - 1) * S = p * S by
      rw [show p * S = (1 + (p - 1)) * S by rw [show 1 + (p - 1) = p by omega], Nat.add_mul, Nat.one_mul]]
    exact Nat.mul_mod_right _ _
  rcases hp.prod _ _ e4 with h | h
  · exfalso
    apply hs
    have h3 := congrArg (fun z => (z + 1) % p) h
    simp only [Nat.mod_add_mod, Nat.zero_add] at h3
    rw [show s + (p - 1) + 1 = s + p by omega, Nat.add_mod_right, Nat.mod_eq_of_lt (show 1 < p by omega)] at h3
    exact h3
  · exact h
/-- The sum of n powers of a number of order n, of exponents 0, m, 2 m and so on. -/
theorem orth {w p n : Nat} (hp : Prm p) (h : OrdN w p n) (m : Nat) : sN (fun i => w ^ (i * m)) n % p = (if m % n = 0 then n else 0) % p := by
  have h2 := hp.1
  have e : sN (fun i => w ^ (i * m)) n = sN (fun i => (w ^ m) ^ i) n := sN_ext fun i _ => by rw [Nat.mul_comm, Nat.pow_mul]
  rw [e]
  by_cases hm : m % n = 0
  · rw [if_pos hm]
    have hs : w ^ m % p = 1 := (h m).2 hm
    have : sN (fun i => (w ^ m) ^ i) n % p = sN (fun _ => 1) n % p := sN_cong fun i _ => by rw [Nat.pow_mod, hs, Nat.one_pow]
    rw [this]
    congr 1
    clear this e hm h
    induction n with
    | zero => rfl
    | succ n ih => rw [sN, ih]
  · rw [if_neg hm]
    have hs : w ^ m % p ≠ 1 := fun e => hm ((h m).1 e)
    rw [sN_geo (w ^ m) p hs hp (by rw [← Nat.pow_mul]; exact (h _).2 (Nat.mul_mod_left _ _)), Nat.zero_mod]

/-! ### Transforms -/
/-- The sum that defines the i-th number, not cut. -/
def tS (w n : Nat) (x : Nat → Nat) (i : Nat) : Nat := sN (fun j => x j * w ^ (i * j)) n
theorem tS_cong {p w n : Nat} {x y : Nat → Nat} (h : ∀ j, j < n → x j % p = y j % p) (i : Nat) : tS w n x i % p = tS w n y i % p :=
  sN_cong fun j hj => by rw [Nat.mul_mod, h j hj, ← Nat.mul_mod]
/-- What stands opposite. -/
def opp (n c : Nat) : Nat := (n - c % n) % n
theorem opp_iff {n c j : Nat} (hn : 1 ≤ n) (hj : j < n) : (j + c) % n = 0 ↔ j = opp n c := by
  unfold opp
  have hc := Nat.mod_lt c (show 0 < n by omega)
  rw [Nat.add_mod, Nat.mod_eq_of_lt hj]
  obtain ⟨d, hd⟩ : ∃ d, c % n = d := ⟨_, rfl⟩
  rw [hd] at hc ⊢
  by_cases h0 : d = 0
  · subst h0
    rw [Nat.sub_zero, Nat.mod_self, Nat.add_zero, Nat.mod_eq_of_lt hj]
  · rw [Nat.mod_eq_of_lt (show n - d < n by omega)]
    constructor
    · intro h
      by_cases hl : j + d < n
      · rw [Nat.mod_eq_of_lt hl] at h; omega
      · rw [Nat.mod_eq_sub_mod (by omega), Nat.mod_eq_of_lt (by omega)] at h; omega
    · rintro rfl
      rw [show n - d + d = n by omega, Nat.mod_self]
theorem opp_lt {n : Nat} (hn : 1 ≤ n) (c : Nat) : opp n c < n := Nat.mod_lt _ (by omega)
/-- The transform's numbers, times the powers of exponents 0, c, 2 c .., summed: n times the number that stands opposite. -/
theorem tS_twice {w p n : Nat} (hp : Prm p) (hn : 1 ≤ n) (h : OrdN w p n) (x : Nat → Nat) (c : Nat) : sN (fun i => tS w n x i * w ^ (i * c)) n % p = n * x (opp n c) % p := by
  have e1 : sN (fun i => tS w n x i * w ^ (i * c)) n = sN (fun j => x j * sN (fun i => w ^ (i * (j + c))) n) n := by
    have a : sN (fun i => tS w n x i * w ^ (i * c)) n = sN (fun i => sN (fun j => x j * w ^ (i * (j + c))) n) n := sN_ext fun i _ => by
      unfold tS
      rw [← sN_mulr]
      exact sN_ext fun j _ => by rw [Nat.mul_assoc, ← Nat.pow_add, Nat.mul_add]
    rw [a, sN_swap]
    exact sN_ext fun j _ => sN_mul _ _ _
  rw [e1]
  have e2 : sN (fun j => x j * sN (fun i => w ^ (i * (j + c))) n) n % p = sN (fun j => if j = opp n c then n * x j else 0) n % p := sN_cong fun j hj => by
    rw [Nat.mul_mod, orth hp h]
    by_cases e : j = opp n c
    · rw [if_pos ((opp_iff hn hj).2 e), if_pos e, ← Nat.mul_mod, Nat.mul_comm]
    · rw [if_neg (fun k => e ((opp_iff hn hj).1 k)), if_neg e, Nat.zero_mod, Nat.mul_zero, Nat.zero_mod]
  rw [e2, sN_one _ (opp n c) n (opp_lt hn c) (fun j _ hne => if_neg hne), if_pos rfl]
theorem opp_back {n k : Nat} (hk : k < n) : opp n ((n - 1) * k) = k := by
  refine ((opp_iff (by omega) hk).1 ?_).symm
  rw [show k + (n - 1) * k = n * k by
    rw [show n * k = (1 + (n - 1)) * k by rw [show 1 + (n - 1) = n by omega], Nat.add_mul, Nat.one_mul]]
  exact Nat.mul_mod_right _ _
theorem opp_opp {n k : Nat} (hk : k < n) : opp n (opp n k) = k := by
  refine ((opp_iff (by omega) hk).1 ?_).symm
  have := (opp_iff (c := k) (by omega) (opp_lt (n := n) (by omega) k)).2 rfl
  rw [Nat.add_comm]; exact this
/-- w to the exponents that stand opposite are v's. -/
theorem pow_opp {w p n : Nat} (h : OrdN w p n) (hn : 1 ≤ n) (i j : Nat) : w ^ (opp n i * j) % p = w ^ (i * ((n - 1) * j)) % p := by
  rw [h.mod, h.mod (i * ((n - 1) * j))]
  congr 2
  have e : (opp n i + i) % n = 0 := (opp_iff hn (opp_lt hn i)).2 rfl
  have e1 : (opp n i * j + i * j) % n = 0 := by rw [← Nat.add_mul, Nat.mul_mod, e, Nat.zero_mul, Nat.zero_mod]
  have e2 : (i * ((n - 1) * j) + i * j) % n = 0 := by
    rw [← Nat.mul_add, show (n - 1) * j + j = n * j by rw [show n * j = ((n - 1) + 1) * j by rw [show n - 1 + 1 = n by omega], Nat.add_mul, Nat.one_mul], Nat.mul_left_comm]
    exact Nat.mul_mod_right _ _
  obtain ⟨a, ha⟩ : ∃ a, opp n i * j = a := ⟨_, rfl⟩
  obtain ⟨b, hb⟩ : ∃ b, i * ((n - 1) * j) = b := ⟨_, rfl⟩
  obtain ⟨c, hc⟩ : ∃ c, i * j = c := ⟨_, rfl⟩
  rw [ha, hc] at e1
  rw [hb, hc] at e2
  rw [ha, hb]
  -- both are -c
  have k : ∀ z, (z + c) % n = 0 → z % n = opp n c := fun z hz => by
    have hz' : (z % n + c) % n = 0 := by rw [Nat.mod_add_mod]; exact hz
    exact (opp_iff hn (Nat.mod_lt _ (by omega))).1 hz'
  rw [k a e1, k b e2]
end Go.Proofs.YtpjfapibjihbbaaGreatDoor
/-
  Plain mathematics of layer 11: the transform of a list, and the inverse one; there and back, and the other laws. No condition.
-/
namespace Go.Proofs.YtpjfapibjihbbaaGreatDoor
set_option linter.unusedVariables false

/-- A list's numbers, by their places. -/
def atL (xs : List Nat) (j : Nat) : Nat := xs.getD j 0
/-- What makes 1 with a length, modulo p. -/
def invN (x : En) (n : Nat) : Nat := n ^ (x.p - 2) % x.p
def dV (x : En) (i : Bool) (xs : List Nat) (k : Nat) : Nat :=
  if i then (tS (twR x xs.length true) xs.length (atL xs) k % x.p) * invN x xs.length % x.p else tS (twR x xs.length false) xs.length (atL xs) k % x.p
/-- The transform, or the inverse one. -/
def dT (x : En) (i : Bool) (xs : List Nat) : List Nat := (List.range xs.length).map (dV x i xs)
theorem dT_len (x : En) (i : Bool) (xs : List Nat) : (dT x i xs).length = xs.length := by simp [dT]
theorem dT_get {x : En} {i : Bool} {xs : List Nat} {k : Nat} (h : k < xs.length) : (dT x i xs)[k]? = some (dV x i xs k) := by
  unfold dT; rw [List.getElem?_map, List.getElem?_range h]; rfl
theorem dT_at {x : En} {i : Bool} {xs : List Nat} {k : Nat} (h : k < xs.length) : atL (dT x i xs) k = dV x i xs k := by
  unfold atL; rw [List.getD_eq_getElem?_getD, dT_get h]; rfl
theorem dV_lt {x : En} (hF : Fld x) (i : Bool) (xs : List Nat) (k : Nat) : dV x i xs k < x.p := by
  have h3 := hF.num.1
  unfold dV
  cases i
  · exact Nat.mod_lt _ (by omega)
  · exact Nat.mod_lt _ (by omega)
theorem dT_lt {x : En} (hF : Fld x) (i : Bool) (xs : List Nat) : ∀ y ∈ dT x i xs, y < x.p := fun y hy => by
  obtain ⟨k, _, rfl⟩ := List.mem_map.1 hy
  exact dV_lt hF i xs k
theorem list_ext {xs ys : List Nat} (hl : xs.length = ys.length) (h : ∀ k, k < xs.length → atL xs k = atL ys k) : xs = ys := by
  apply List.ext_getElem?
  intro k
  by_cases hk : k < xs.length
  · have := h k hk
    unfold atL at this
    rw [List.getD_eq_getElem?_getD, List.getD_eq_getElem?_getD, List.getElem?_eq_getElem hk, List.getElem?_eq_getElem (by omega)] at this
    rw [List.getElem?_eq_getElem hk, List.getElem?_eq_getElem (by omega)]
    simpa using this
  · rw [List.getElem?_eq_none (by omega), List.getElem?_eq_none (by omega)]
theorem atL_mem {xs : List Nat} {k : Nat} (h : k < xs.length) : atL xs k ∈ xs := by
  unfold atL
  rw [List.getD_eq_getElem?_getD, List.getElem?_eq_getElem h]
  exact List.getElem_mem h
theorem atL_of {xs : List Nat} {k y : Nat} (h : xs[k]? = some y) : atL xs k = y := getD_of h

/-! ### There and back -/
theorem inv_exp {w p n v : Nat} (hp : Prm p) (h : OrdN w p n) (hn : 1 ≤ n) (hv : IsInv w p v) (m : Nat) : v ^ m % p = w ^ ((n - 1) * m) % p := by
  rw [inv_root hp h hn hv, ← Nat.pow_mod, ← Nat.pow_mul]
theorem len_inv {x : En} (hF : Fld x) {n : Nat} (h1 : 1 ≤ n) (hd : (x.p - 1) % n = 0) : n % x.p ≠ 0 ∧ n < x.p ∧ n * invN x n % x.p = 1 := by
  have h3 := hF.num.1
  have hle := Nat.le_of_dvd (by omega) (Nat.dvd_of_mod_eq_zero hd)
  have hne : n % x.p ≠ 0 := by rw [Nat.mod_eq_of_lt (by omega)]; omega
  refine ⟨hne, by omega, ?_⟩
  unfold invN
  rw [Nat.mul_mod_mod, ← Nat.pow_succ', Nat.succ_eq_add_one, show x.p - 2 + 1 = x.p - 1 by omega]
  exact fermat hF.prm (not_dvd_of hne)
/-- The sums of the sums, with what makes 1: n times the list. -/
theorem back_sum {p n w v : Nat} (hp : Prm p) (hn : 1 ≤ n) (h : OrdN w p n) (hv : IsInv w p v) (X : Nat → Nat) {k : Nat} (hk : k < n) : tS v n (fun i => tS w n X i % p) k % p = n * X k % p := by
  have e : tS v n (fun i => tS w n X i % p) k % p = sN (fun i => tS w n X i * w ^ (i * ((n - 1) * k))) n % p := sN_cong fun i _ => by
    rw [Nat.mod_mul_mod, Nat.mul_mod, inv_exp hp h hn hv, ← Nat.mul_mod]
    congr 3
    rw [Nat.mul_left_comm i, Nat.mul_comm i k, Nat.mul_left_comm]
  rw [e, tS_twice hp hn h, opp_back hk]
theorem twR_rev {x : En} (hF : Fld x) {n : Nat} (h1 : 1 ≤ n) (hd : (x.p - 1) % n = 0) : IsInv (twR x n true) x.p (twR x n false) := by
  have hv := twR_inv hF h1 hd
  have ho := twR_ord hF h1 hd true
  have := hv.yes ((twR_ord hF h1 hd false).ne h1)
  exact ⟨twR_lt hF n false, fun _ => by rw [Nat.mul_comm]; exact this, fun e => absurd e (ho.ne h1)⟩
theorem dT_back {x : En} (hF : Fld x) {xs : List Nat} (h1 : 1 ≤ xs.length) (hd : (x.p - 1) % xs.length = 0) (hs : ∀ y ∈ xs, y < x.p) : dT x true (dT x false xs) = xs := by
  refine list_ext (by rw [dT_len, dT_len]) fun k hk => ?_
  rw [dT_len, dT_len] at hk
  rw [dT_at (by rw [dT_len]; exact hk)]
  unfold dV
  rw [if_pos rfl, dT_len]
  have e : tS (twR x xs.length true) xs.length (atL (dT x false xs)) k = tS (twR x xs.length true) xs.length (fun i => tS (twR x xs.length false) xs.length (atL xs) i % x.p) k := sN_ext fun i hi => by
    show atL (dT x false xs) i * _ = _
    rw [dT_at hi]; rfl
  obtain ⟨_, _, hi⟩ := len_inv hF h1 hd
  rw [e, back_sum hF.prm h1 (twR_ord hF h1 hd false) (twR_inv hF h1 hd) _ hk, Nat.mod_mul_mod, Nat.mul_right_comm, Nat.mul_mod, hi, Nat.one_mul, Nat.mod_mod]
  exact Nat.mod_eq_of_lt (hs _ (atL_mem hk))
theorem dT_forth {x : En} (hF : Fld x) {xs : List Nat} (h1 : 1 ≤ xs.length) (hd : (x.p - 1) % xs.length = 0) (hs : ∀ y ∈ xs, y < x.p) : dT x false (dT x true xs) = xs := by
  refine list_ext (by rw [dT_len, dT_len]) fun k hk => ?_
  rw [dT_len, dT_len] at hk
  rw [dT_at (by rw [dT_len]; exact hk)]
  unfold dV
  rw [if_neg (by decide), dT_len]
  obtain ⟨_, _, hi⟩ := len_inv hF h1 hd
  obtain ⟨v, hv⟩ : ∃ v, twR x xs.length true = v := ⟨_, rfl⟩
  obtain ⟨w, hw⟩ : ∃ w, twR x xs.length false = w := ⟨_, rfl⟩
  have hb := back_sum hF.prm h1 (twR_ord hF h1 hd true) (twR_rev hF h1 hd) (atL xs) hk
  have e : tS (twR x xs.length false) xs.length (atL (dT x true xs)) k % x.p = tS (twR x xs.length false) xs.length (fun i => tS (twR x xs.length true) xs.length (atL xs) i % x.p) k * invN x xs.length % x.p := by
    unfold tS
    rw [← sN_mulr]
    refine sN_cong fun i hi => ?_
    rw [dT_at hi]
    unfold dV
    rw [if_pos rfl, Nat.mod_mul_mod, Nat.mul_right_comm]
    rfl
  rw [e, Nat.mul_mod, hb, ← Nat.mul_mod, Nat.mul_right_comm, Nat.mul_mod, hi, Nat.one_mul, Nat.mod_mod]
  exact Nat.mod_eq_of_lt (hs _ (atL_mem hk))

/-! ### The other laws -/
theorem tS_lin (w n c : Nat) (X Y : Nat → Nat) (i : Nat) : tS w n (fun j => c * X j + Y j) i = c * tS w n X i + tS w n Y i := by
  unfold tS
  rw [← sN_mul, ← sN_add]
  exact sN_ext fun j _ => by rw [Nat.add_mul, Nat.mul_assoc]
theorem dV_lin {x : En} (i : Bool) {xs ys zs : List Nat} {c : Nat} (hy : ys.length = xs.length) (hz : zs.length = xs.length) (h : ∀ j, j < xs.length → atL zs j % x.p = (c * atL xs j + atL ys j) % x.p) (k : Nat) : dV x i zs k = (c * dV x i xs k + dV x i ys k) % x.p := by
  unfold dV
  rw [hy, hz]
  cases i
  · rw [if_neg (by decide), if_neg (by decide), if_neg (by decide), tS_cong (p := x.p) (y := fun j => c * atL xs j + atL ys j) h, tS_lin, Nat.add_mod, Nat.mul_mod, ← Nat.mul_mod, Nat.add_mod (c * _)]
    simp [Nat.mul_mod]
  · rw [if_pos rfl, if_pos rfl, if_pos rfl, tS_cong (p := x.p) (y := fun j => c * atL xs j + atL ys j) h, tS_lin, Nat.mod_mul_mod, Nat.add_mul, Nat.mod_mul_mod, Nat.mod_mul_mod, Nat.add_mod, Nat.add_mod (c * _), Nat.mul_assoc]
    simp [Nat.mul_mod]
theorem dV_moved {x : En} (hF : Fld x) {xs ms : List Nat} {k : Nat} (hk : k < xs.length) (hd : (x.p - 1) % xs.length = 0) (hm : ms.length = xs.length) (h : ∀ j, j < xs.length → atL ms ((j + k) % xs.length) = atL xs j) (i : Nat) : dV x false ms i = dV x false xs i * (twR x xs.length false ^ (i * k) % x.p) % x.p := by
  have ho := twR_ord hF (n := xs.length) (by omega) hd false
  unfold dV
  rw [hm, if_neg (by decide), if_neg (by decide)]
  obtain ⟨w, hw⟩ : ∃ w, twR x xs.length false = w := ⟨_, rfl⟩
  rw [hw] at ho ⊢
  unfold tS
  rw [← sN_round (fun j => atL ms j * w ^ (i * j)) hk, Nat.mod_mul_mod, Nat.mul_mod_mod, ← sN_mulr]
  refine sN_cong fun j hj => ?_
  have hw2 : w ^ (i * ((j + k) % xs.length)) % x.p = w ^ (i * (j + k)) % x.p := by rw [ho.mod, ho.mod (i * (j + k)), Nat.mul_mod_mod]
  rw [h j hj, Nat.mul_mod, hw2, ← Nat.mul_mod, Nat.mul_assoc, ← Nat.pow_add, ← Nat.mul_add]
theorem dV_twice {x : En} (hF : Fld x) {xs : List Nat} (h1 : 1 ≤ xs.length) (hd : (x.p - 1) % xs.length = 0) {j : Nat} (hj : j < xs.length) : dV x false (dT x false xs) ((xs.length - j) % xs.length) = atL xs j * xs.length % x.p := by
  have ho := twR_ord hF h1 hd false
  unfold dV
  rw [if_neg (by decide), dT_len]
  have e : tS (twR x xs.length false) xs.length (atL (dT x false xs)) ((xs.length - j) % xs.length) % x.p = sN (fun i => tS (twR x xs.length false) xs.length (atL xs) i * twR x xs.length false ^ (i * ((xs.length - j) % xs.length))) xs.length % x.p := sN_cong fun i hi => by
    rw [dT_at hi]
    unfold dV
    rw [if_neg (by decide), Nat.mod_mul_mod, Nat.mul_comm i]
  rw [e, tS_twice hF.prm h1 ho, Nat.mul_comm]
  congr 3
  have := opp_opp hj
  unfold opp at this ⊢
  rw [Nat.mod_eq_of_lt hj] at this
  exact this
theorem dV_first {x : En} {xs : List Nat} : dV x false xs 0 = sN (atL xs) xs.length % x.p := by
  unfold dV tS
  rw [if_neg (by decide)]
  congr 1
  exact sN_ext fun j _ => by rw [Nat.zero_mul, Nat.pow_zero, Nat.mul_one]
theorem dV_pairs {x : En} (hF : Fld x) {xs ys : List Nat} (h1 : 1 ≤ xs.length) (hd : (x.p - 1) % xs.length = 0) (hy : ys.length = xs.length) :
    sN (fun i => dV x false xs i * dV x false ys ((xs.length - i) % xs.length)) xs.length % x.p = sN (fun i => atL xs i * atL ys i) xs.length * xs.length % x.p := by
  have ho := twR_ord hF h1 hd false
  obtain ⟨n, hn⟩ : ∃ n, xs.length = n := ⟨_, rfl⟩
  obtain ⟨w, hw⟩ : ∃ w, twR x n false = w := ⟨_, rfl⟩
  rw [hn, hw] at ho
  rw [hn] at h1 hy ⊢
  have e1 : sN (fun i => dV x false xs i * dV x false ys ((n - i) % n)) n % x.p = sN (fun j => atL ys j * sN (fun i => tS w n (atL xs) i * w ^ (i * ((n - 1) * j))) n) n % x.p := by
    have a : sN (fun i => dV x false xs i * dV x false ys ((n - i) % n)) n % x.p = sN (fun i => sN (fun j => atL ys j * (tS w n (atL xs) i * w ^ (i * ((n - 1) * j)))) n) n % x.p := sN_cong fun i hi => by
      unfold dV
      rw [if_neg (by decide), if_neg (by decide), hn, hy, hw, ← Nat.mul_mod]
      have b : tS w n (atL ys) ((n - i) % n) % x.p = sN (fun j => atL ys j * w ^ (i * ((n - 1) * j))) n % x.p := sN_cong fun j _ => by
        have := pow_opp ho h1 i j
        unfold opp at this
        rw [Nat.mod_eq_of_lt hi] at this
        rw [Nat.mul_mod, this, ← Nat.mul_mod]
      rw [Nat.mul_mod, b, ← Nat.mul_mod, ← sN_mul]
      congr 1
      exact sN_ext fun j _ => by rw [Nat.mul_left_comm]
    rw [a, sN_swap]
    congr 1
    exact sN_ext fun j _ => sN_mul _ _ _
  rw [e1, ← sN_mulr]
  refine sN_cong fun j hj => ?_
  rw [Nat.mul_mod, tS_twice hF.prm h1 ho, opp_back hj, ← Nat.mul_mod, Nat.mul_left_comm, Nat.mul_comm, Nat.mul_comm (atL ys j)]
end Go.Proofs.YtpjfapibjihbbaaGreatDoor
/-
  Plain mathematics of layers 12 to 15: a transform's sum parted by a factor of its length, at either end. No condition.
-/
namespace Go.Proofs.YtpjfapibjihbbaaGreatDoor
set_option linter.unusedVariables false

/-- A sum of r M, by the rests of r. -/
theorem sN_rests (f : Nat → Nat) (r : Nat) : ∀ M, sN f (r * M) = sN (fun u => sN (fun t => f (r * t + u)) M) r
  | 0 => by
    have : (fun u => sN (fun t => f (r * t + u)) 0) = fun _ => 0 := rfl
    rw [this, sN_zero]; rfl
  | M + 1 => by
    rw [Nat.mul_succ, sN_split, sN_rests f r M, ← sN_add]
    exact sN_ext fun u _ => rfl
/-- A sum of r M, row by row. -/
theorem sN_rows (f : Nat → Nat) (M : Nat) : ∀ r, sN f (r * M) = sN (fun u => sN (fun j => f (u * M + j)) M) r
  | 0 => by rw [Nat.zero_mul]; rfl
  | r + 1 => by rw [Nat.succ_mul, sN_split, sN_rows f M r, sN]
theorem OrdN.pow {v p r M : Nat} (h : OrdN v p (r * M)) (hr : 1 ≤ r) : OrdN (v ^ r) p M := fun k => by
  rw [← Nat.pow_mul, h]
  constructor
  · intro e
    have := Nat.dvd_of_mod_eq_zero e
    exact Nat.mod_eq_zero_of_dvd (Nat.dvd_of_mul_dvd_mul_left (by omega) this)
  · intro e
    obtain ⟨q, rfl⟩ := Nat.dvd_of_mod_eq_zero e
    rw [← Nat.mul_assoc]
    exact Nat.mul_mod_right _ _
theorem OrdN.one {v p n : Nat} (h : OrdN v p n) : v ^ n % p = 1 := (h n).2 (Nat.mod_self n)
theorem OrdN.oneM {v p n : Nat} (hp : 2 ≤ p) (h : OrdN v p n) (k : Nat) : v ^ (n * k) % p = 1 := (h _).2 (Nat.mul_mod_right _ _)
/-- The sum, by the rests of its places: r sums, each M long. -/
theorem tS_split (v r M : Nat) (y : Nat → Nat) (k : Nat) : tS v (r * M) y k = sN (fun u => v ^ (u * k) * tS (v ^ r) M (fun j => y (r * j + u)) k) r := by
  unfold tS
  rw [sN_rests]
  refine sN_ext fun u _ => ?_
  rw [← sN_mul]
  refine sN_ext fun t _ => ?_
  rw [Nat.mul_left_comm, ← Nat.pow_mul, ← Nat.pow_add]
  congr 2
  rw [Nat.mul_add, Nat.add_comm, Nat.mul_comm k u, Nat.mul_left_comm k r t, Nat.mul_comm k t, Nat.mul_comm t k]
theorem tS_exp {v p n : Nat} {y : Nat → Nat} {k l : Nat} (h : OrdN v p n) (e : k % n = l % n) : tS v n y k % p = tS v n y l % p :=
  sN_cong fun j _ => by
    have : v ^ (k * j) % p = v ^ (l * j) % p := by rw [h.mod, h.mod (l * j), Nat.mul_mod, e, ← Nat.mul_mod]
    rw [Nat.mul_mod, this, ← Nat.mul_mod]
theorem tS_mod {v p n : Nat} {y : Nat → Nat} {k : Nat} (h : OrdN v p n) : tS v n y (k % n) % p = tS v n y k % p := tS_exp h (Nat.mod_mod _ _)
/-- At a place of r M: by the r sums at the place's rest of M. -/
theorem tS_up {v p r M : Nat} (hr : 1 ≤ r) (h : OrdN v p (r * M)) (y : Nat → Nat) (k : Nat) : tS v (r * M) y k % p = sN (fun u => v ^ (u * k) * (tS (v ^ r) M (fun j => y (r * j + u)) (k % M) % p)) r % p := by
  rw [tS_split]
  refine sN_cong fun u _ => ?_
  rw [Nat.mul_mod_mod, Nat.mul_mod, ← tS_mod (h.pow hr), Nat.mul_mod_mod, Nat.mod_mul_mod]
theorem tS_ext {v n k : Nat} {x y : Nat → Nat} (h : ∀ j, j < n → x j = y j) : tS v n x k = tS v n y k := sN_ext fun j hj => by rw [h j hj]
theorem tS_base {v w p n : Nat} {y : Nat → Nat} (h : v % p = w % p) (k : Nat) : tS v n y k % p = tS w n y k % p :=
  sN_cong fun j _ => by rw [Nat.mul_mod, Nat.pow_mod, h, ← Nat.pow_mod, ← Nat.mul_mod]
/-- The places that leave c by r: a sum of M, of what comes together. -/
theorem tS_down {v p r M : Nat} (hp : 2 ≤ p) (hr : 1 ≤ r) (h : OrdN v p (r * M)) (y : Nat → Nat) (k c : Nat) :
    tS v (r * M) y (r * k + c) % p = tS (v ^ r) M (fun j => sN (fun u => y (u * M + j) * v ^ (u * M * c)) r * v ^ (j * c)) k % p := by
  have e : tS (v ^ r) M (fun j => sN (fun u => y (u * M + j) * v ^ (u * M * c)) r * v ^ (j * c)) k = sN (fun u => sN (fun j => y (u * M + j) * v ^ (u * M * c) * (v ^ (j * c) * v ^ (r * (k * j)))) M) r := by
    unfold tS
    rw [sN_swap]
    refine sN_ext fun j _ => ?_
    rw [Nat.mul_assoc, ← Nat.pow_mul, ← sN_mulr]
  rw [e]
  unfold tS
  rw [sN_rows]
  refine sN_cong fun u _ => ?_
  refine sN_cong fun j _ => ?_
  have e2 : (r * k + c) * (u * M + j) = (u * M * c + (j * c + r * (k * j))) + r * M * (u * k) := by
    rw [Nat.add_mul, Nat.mul_add, Nat.mul_add]
    have a1 : r * k * (u * M) = r * M * (u * k) := by rw [Nat.mul_assoc, Nat.mul_assoc, Nat.mul_left_comm k u M, Nat.mul_comm k M, Nat.mul_left_comm M u k]
    have a2 : r * k * j = r * (k * j) := Nat.mul_assoc _ _ _
    have a3 : c * (u * M) = u * M * c := Nat.mul_comm _ _
    have a4 : c * j = j * c := Nat.mul_comm _ _
    omega
  rw [e2, Nat.pow_add, Nat.pow_add, ← Nat.mul_assoc (y (u * M + j)), Nat.mul_mod, h.oneM hp, Nat.mul_one, Nat.mod_mod, Nat.pow_add, Nat.mul_assoc (y (u * M + j))]
/-- Half a root's order further on: the opposite. -/
theorem half_pow {v p M : Nat} (hp : Prm p) (h3 : 3 ≤ p) (h1 : 1 ≤ M) (h : OrdN v p (2 * M)) : v ^ M % p = p - 1 := by
  have h2 : (v ^ M % p) * (v ^ M % p) % p = 1 := by
    rw [← Nat.mul_mod, ← Nat.pow_add, ← Nat.two_mul]; exact h.one
  have hne : v ^ M % p ≠ 1 := fun e => by
    have := (h M).1 e
    rw [Nat.mod_eq_of_lt (by omega)] at this
    omega
  obtain ⟨s, hs⟩ : ∃ s, v ^ M % p = s := ⟨_, rfl⟩
  have hsl : s < p := hs ▸ Nat.mod_lt _ (by omega)
  rw [hs] at h2 hne ⊢
  -- (s + 1) (s + p - 1) is a multiple of p
  have e : (s + 1) * (s + (p - 1)) % p = 0 := by
    have : (s + 1) * (s + (p - 1)) = s * s + (p - 1) + p * s := by
      rw [Nat.add_mul, Nat.mul_add, Nat.one_mul]
      have : p * s = s * (p - 1) + s := by rw [Nat.mul_comm, ← Nat.mul_succ]; congr 1; omega
      omega
    rw [this, Nat.add_mul_mod_self_left, Nat.add_mod, h2, Nat.mod_eq_of_lt (show p - 1 < p by omega), show 1 + (p - 1) = p by omega, Nat.mod_self]
  rcases hp.prod _ _ e with h4 | h4
  · have := Nat.le_of_dvd (by omega) (Nat.dvd_of_mod_eq_zero h4)
    omega
  · exfalso
    by_cases h0 : s = 0
    · subst h0; rw [Nat.zero_mul, Nat.zero_mod] at h2; cases h2
    · rw [show s + (p - 1) = (s - 1) + p by omega, Nat.add_mod_right, Nat.mod_eq_of_lt (by omega)] at h4
      omega

/-! ### By halves -/
theorem sN_two (f : Nat → Nat) : sN f 2 = f 0 + f 1 := by simp [sN]
/-- Two halves put together: at k, and at k + M. -/
theorem up_two {v p M : Nat} (hp : Prm p) (h3 : 3 ≤ p) (h1 : 1 ≤ M) (h : OrdN v p (2 * M)) (y : Nat → Nat) {k : Nat} (hk : k < M) {a b t : Nat} (ha : a % p = tS (v ^ 2) M (fun j => y (2 * j)) k % p) (hb : b % p = tS (v ^ 2) M (fun j => y (2 * j + 1)) k % p) (ht : t % p = v ^ k % p * b % p) :
    tS v (2 * M) y k % p = (a + t) % p ∧ tS v (2 * M) y (k + M) % p = (a + (p - 1) * t) % p := by
  have e0 := tS_up (by omega) h y k
  have e1 := tS_up (by omega) h y (k + M)
  rw [Nat.add_mod_right] at e1
  rw [Nat.mod_eq_of_lt hk, sN_two, Nat.zero_mul, Nat.pow_zero, Nat.one_mul, Nat.one_mul] at e0
  rw [Nat.mod_eq_of_lt hk, sN_two, Nat.zero_mul, Nat.pow_zero, Nat.one_mul, Nat.one_mul] at e1
  simp only [Nat.add_zero] at e0 e1
  rw [← ha, ← hb] at e0 e1
  have hh := half_pow hp h3 h1 h
  constructor
  · rw [e0, Nat.mod_add_mod, Nat.add_mod, Nat.mul_mod_mod, ← Nat.mod_mul_mod (v ^ k), ← ht, ← Nat.add_mod]
  · rw [e1, Nat.mod_add_mod, Nat.add_mod, Nat.mul_mod_mod, Nat.pow_add, Nat.mul_comm (v ^ k), Nat.mul_assoc, Nat.mul_mod, hh, Nat.mul_mod (v ^ k), Nat.mul_mod_mod (v ^ k % p), ← ht, Nat.mul_mod_mod, ← Nat.add_mod]
/-- A list's halves, taken together: the second ones from the first, and from the second. -/
theorem down_two {v p M : Nat} (hp : Prm p) (h3 : 3 ≤ p) (h1 : 1 ≤ M) (h : OrdN v p (2 * M)) (y : Nat → Nat) (k : Nat) :
    tS v (2 * M) y (2 * k) % p = tS (v ^ 2) M (fun j => y j + y (M + j)) k % p ∧ tS v (2 * M) y (2 * k + 1) % p = tS (v ^ 2) M (fun j => (y j + (p - 1) * y (M + j)) * v ^ j) k % p := by
  have hh := half_pow hp h3 h1 h
  constructor
  · have := tS_down (show 2 ≤ p by omega) (by omega) h y k 0
    rw [Nat.add_zero] at this
    rw [this]
    congr 1
    refine tS_ext fun j _ => ?_
    rw [sN_two, Nat.mul_zero, Nat.mul_zero, Nat.mul_zero, Nat.pow_zero, Nat.mul_one, Nat.mul_one, Nat.mul_one, Nat.zero_mul, Nat.one_mul, Nat.zero_add]
  · rw [tS_down (show 2 ≤ p by omega) (by omega) h y k 1]
    refine tS_cong (fun j _ => ?_) k
    rw [sN_two, Nat.zero_mul, Nat.zero_mul, Nat.pow_zero, Nat.mul_one, Nat.mul_one, Nat.one_mul, Nat.mul_one, Nat.zero_add]
    rw [Nat.mul_mod, Nat.add_mod, Nat.mul_mod (y (M + j)), hh, Nat.mul_comm (y (M + j) % p), Nat.mul_mod_mod (p - 1), ← Nat.add_mod, ← Nat.mul_mod]
end Go.Proofs.YtpjfapibjihbbaaGreatDoor
/-
  Plain mathematics of layers 12 to 14: a list in the order of its digits turned about, put together block by block, by the last radix first. No condition.
-/
namespace Go.Proofs.YtpjfapibjihbbaaGreatDoor
set_option linter.unusedVariables false

/-- Blocks by the first j radices: each has the transform of the numbers at the places that leave its own. -/
def Bk (w p : Nat) (rs : List Nat) (x A : Nat → Nat) (j : Nat) : Prop := ∀ c k, c < pr (rs.take j) → k < pr (rs.drop j) →
  A (tn (rs.take j) c * pr (rs.drop j) + k) % p = tS (w ^ pr (rs.take j)) (pr (rs.drop j)) (fun t => x (pr (rs.take j) * t + c)) k % p
theorem Bk.start {w p : Nat} {rs : List Nat} {x A : Nat → Nat} (h : ∀ c, c < pr rs → A (tn rs c) % p = x c % p) : Bk w p rs x A rs.length := fun c k hc hk => by
  rw [List.take_length] at hc ⊢
  rw [List.drop_length] at hk ⊢
  have hk0 : k = 0 := by simp [pr] at hk; exact hk
  subst hk0
  rw [show pr [] = 1 from rfl, Nat.mul_one, Nat.add_zero, h c hc]
  unfold tS
  simp [sN]
theorem Bk.fin {w p : Nat} {rs : List Nat} {x A : Nat → Nat} (h : Bk w p rs x A 0) {k : Nat} (hk : k < pr rs) : A k % p = tS w (pr rs) x k % p := by
  have := h 0 k (by simp [pr]) (by simpa using hk)
  simp only [List.take_zero, List.drop_zero, show pr [] = 1 from rfl, Nat.pow_one, Nat.one_mul, Nat.add_zero, show tn [] 0 = 0 from rfl, Nat.zero_mul, Nat.zero_add] at this
  exact this
/-- One radix: blocks of M are put together to blocks of r M. -/
theorem Bk.step {w p : Nat} {rs : List Nat} {x A B : Nat → Nat} {j r : Nat} (hr : rs[j]? = some r) (h1 : ∀ r ∈ rs, 1 ≤ r) (ho : OrdN w p (pr rs)) (h : Bk w p rs x A (j + 1))
    (hB : ∀ b k, b < pr (rs.take j) → k < pr (rs.drop j) → B (b * pr (rs.drop j) + k) % p = sN (fun u => (w ^ pr (rs.take j)) ^ (u * k) * (A (b * pr (rs.drop j) + u * pr (rs.drop (j + 1)) + k % pr (rs.drop (j + 1))) % p)) r % p) : Bk w p rs x B j := fun c k hc hk => by
  have ht := h1 r (List.mem_of_getElem? hr)
  have hr1 : ∀ y ∈ rs.take j, 1 ≤ y := fun y hy => h1 y (List.mem_of_mem_take hy)
  have hb := tn_lt (rs.take j) c hr1
  have e1 := (tn_drop hr 0).2
  have e2 := (tn_take hr 0).2
  have hn : pr rs = pr (rs.take j) * pr (rs.drop j) := by rw [← pr_append, List.take_append_drop]
  obtain ⟨P, hP⟩ : ∃ P, pr (rs.take j) = P := ⟨_, rfl⟩
  obtain ⟨M, hM⟩ : ∃ M, pr (rs.drop (j + 1)) = M := ⟨_, rfl⟩
  have hP1 : 1 ≤ P := by rw [← hP]; omega
  rw [hB _ _ hb hk]
  unfold Bk at h
  rw [hM] at e1
  rw [hP] at e2
  simp only [hM, hP, e1, e2] at h hc hk hn hb ⊢
  have hov : OrdN (w ^ P) p (r * M) := by rw [hn] at ho; exact ho.pow hP1
  rw [tS_up ht hov]
  refine sN_cong fun u hu => ?_
  have hM1 : 0 < M := by
    rcases Nat.eq_zero_or_pos M with e | e
    · subst e; simp at hk
    · exact e
  have h2 := h (P * u + c) (k % M) (by
    calc P * u + c < P * u + P := by omega
      _ = P * (u + 1) := by rw [Nat.mul_succ]
      _ ≤ P * r := Nat.mul_le_mul_left _ hu) (Nat.mod_lt _ hM1)
  have e3 := (tn_take hr (P * u + c)).1
  have e4 : tn (rs.take j) (P * u + c) = tn (rs.take j) c := by
    have := tn_mod (rs.take j) u c hr1
    rw [hP, Nat.mul_comm] at this
    exact this
  rw [hP, e4, show (P * u + c) / P = u by rw [Nat.mul_add_div (by omega), Nat.div_eq_of_lt hc, Nat.add_zero], Nat.mod_eq_of_lt hu] at e3
  rw [e3] at h2
  have e5 : (tn (rs.take j) c * r + u) * M + k % M = tn (rs.take j) c * (r * M) + u * M + k % M := by
    rw [Nat.add_mul, Nat.mul_assoc]
  rw [e5] at h2
  rw [h2, ← Nat.pow_mul w P r]
  congr 3
  refine tS_ext fun t _ => ?_
  show x (P * r * t + (P * u + c)) = x (P * (r * t + u) + c)
  rw [Nat.mul_add, Nat.mul_assoc, Nat.add_assoc]

/-! ### The other way -/
/-- Blocks by the first j radices: the transform of each is what stands at the places that leave its own. -/
def Dk (w p : Nat) (rs : List Nat) (X A : Nat → Nat) (j : Nat) : Prop := ∀ c k, c < pr (rs.take j) → k < pr (rs.drop j) →
  tS (w ^ pr (rs.take j)) (pr (rs.drop j)) (fun t => A (tn (rs.take j) c * pr (rs.drop j) + t)) k % p = X (pr (rs.take j) * k + c) % p
theorem Dk.start {w p : Nat} {rs : List Nat} {X A : Nat → Nat} (h : ∀ k, k < pr rs → tS w (pr rs) A k % p = X k % p) : Dk w p rs X A 0 := fun c k hc hk => by
  simp only [List.take_zero, show pr [] = 1 from rfl] at hc
  have hc0 : c = 0 := by omega
  subst hc0
  simp only [List.take_zero, List.drop_zero, show pr [] = 1 from rfl, Nat.pow_one, Nat.one_mul, Nat.add_zero, show tn [] 0 = 0 from rfl, Nat.zero_mul, Nat.zero_add]
  exact h k (by simpa using hk)
theorem Dk.fin {w p : Nat} {rs : List Nat} {X A : Nat → Nat} (h : Dk w p rs X A rs.length) {c : Nat} (hc : c < pr rs) : A (tn rs c) % p = X c % p := by
  have := h c 0 (by rw [List.take_length]; exact hc) (by rw [List.drop_length]; simp [pr])
  rw [List.take_length, List.drop_length, show pr [] = 1 from rfl] at this
  simpa [tS, sN] using this
theorem Dk.step {w p : Nat} (hp : 2 ≤ p) {rs : List Nat} {X A B : Nat → Nat} {j r : Nat} (hr : rs[j]? = some r) (h1 : ∀ r ∈ rs, 1 ≤ r) (ho : OrdN w p (pr rs)) (h : Dk w p rs X A j)
    (hB : ∀ b u t, b < pr (rs.take j) → u < r → t < pr (rs.drop (j + 1)) → B (b * pr (rs.drop j) + u * pr (rs.drop (j + 1)) + t) % p = sN (fun i => A (b * pr (rs.drop j) + (i * pr (rs.drop (j + 1)) + t)) * (w ^ pr (rs.take j)) ^ (i * pr (rs.drop (j + 1)) * u)) r * (w ^ pr (rs.take j)) ^ (t * u) % p) : Dk w p rs X B (j + 1) := fun c k hc hk => by
  have ht := h1 r (List.mem_of_getElem? hr)
  have hr1 : ∀ y ∈ rs.take j, 1 ≤ y := fun y hy => h1 y (List.mem_of_mem_take hy)
  have e1 := (tn_drop hr 0).2
  have e2 := (tn_take hr 0).2
  have hn : pr rs = pr (rs.take j) * pr (rs.drop j) := by rw [← pr_append, List.take_append_drop]
  have e3 := (tn_take hr c).1
  have hP1 : 1 ≤ pr (rs.take j) := pr_pos hr1
  obtain ⟨P, hP⟩ : ∃ P, pr (rs.take j) = P := ⟨_, rfl⟩
  obtain ⟨M, hM⟩ : ∃ M, pr (rs.drop (j + 1)) = M := ⟨_, rfl⟩
  rw [hP] at hP1 e2 e3
  rw [hM] at e1
  have hb := tn_lt (rs.take j) (c % P) hr1
  have hcP := Nat.mod_lt c (show 0 < P by omega)
  have hu := Nat.mod_lt (c / P) (show 0 < r by omega)
  have hcd : c / P < r := Nat.div_lt_of_lt_mul (by rw [← e2]; exact hc)
  have e4 : tn (rs.take j) c = tn (rs.take j) (c % P) := by
    have := tn_mod (rs.take j) (c / P) (c % P) hr1
    rw [hP, Nat.mul_comm, Nat.div_add_mod] at this
    exact this
  unfold Dk at h
  simp only [hM, hP, e1, e2] at h hk hn hb hB ⊢
  have hov : OrdN (w ^ P) p (r * M) := by rw [hn] at ho; exact ho.pow hP1
  rw [e3, e4, Nat.mod_eq_of_lt hcd]
  have h2 := h (c % P) (r * k + c / P) hcP (by
    calc r * k + c / P < r * k + r := by omega
      _ = r * (k + 1) := by rw [Nat.mul_succ]
      _ ≤ r * M := Nat.mul_le_mul_left _ hk)
  rw [tS_down hp ht hov] at h2
  rw [show P * r * k + c = P * (r * k + c / P) + c % P by rw [Nat.mul_add, Nat.mul_assoc, Nat.add_assoc, Nat.div_add_mod], ← h2, Nat.pow_mul]
  refine tS_cong (fun t ht2 => ?_) k
  have h3 := hB _ (c / P) t hb hcd ht2
  have e5 : (tn (rs.take j) (c % P) * r + c / P) * M + t = tn (rs.take j) (c % P) * (r * M) + c / P * M + t := by rw [Nat.add_mul, Nat.mul_assoc]
  show B ((tn (rs.take j) (c % P) * r + c / P) * M + t) % p = _
  rw [e5, h3]
end Go.Proofs.YtpjfapibjihbbaaGreatDoor

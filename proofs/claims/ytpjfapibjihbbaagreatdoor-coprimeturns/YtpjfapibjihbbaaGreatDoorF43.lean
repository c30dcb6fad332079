/-
  Plain mathematics of layers 15 to 17 and 21: a sum gone over in another order; products round and round, and their transforms. No condition.
-/
import Derived.Test.YtpjfapibjihbbaaGreatDoorF32
namespace Go.Proofs.YtpjfapibjihbbaaGreatDoor
set_option linter.unusedVariables false

/-! ### In another order -/
theorem sN_le {f g : Nat → Nat} : ∀ {n : Nat}, (∀ j, j < n → f j ≤ g j) → sN f n ≤ sN g n
  | 0, _ => Nat.le_refl _
  | n + 1, h => by rw [sN, sN]; exact Nat.add_le_add (sN_le fun j hj => h j (by omega)) (h n (by omega))
theorem sN_const (c : Nat) : ∀ n, sN (fun _ => c) n = n * c
  | 0 => by rw [Nat.zero_mul]; rfl
  | n + 1 => by rw [sN, sN_const c n, Nat.succ_mul]
/-- n numbers of at most 1 that come to n are all 1. -/
theorem sN_full {c : Nat → Nat} : ∀ {n : Nat}, (∀ j, j < n → c j ≤ 1) → sN c n = n → ∀ j, j < n → c j = 1
  | 0, _, _, j, hj => absurd hj (by omega)
  | n + 1, h, e, j, hj => by
    have e' : sN c n + c n = n + 1 := e
    have h1 : sN c n ≤ n := by
      have := sN_le (f := c) (g := fun _ => 1) (n := n) fun j hj => h j (by omega)
      rw [sN_const, Nat.mul_one] at this
      exact this
    have h2 := h n (by omega)
    by_cases hjn : j = n
    · subst hjn; omega
    · exact sN_full (n := n) (fun j hj => h j (by omega)) (by omega) j (by omega)
/-- How often k is met. -/
def met (s : Nat → Nat) (n k : Nat) : Nat := sN (fun j => if s j = k then 1 else 0) n
theorem met_zero {s : Nat → Nat} {k : Nat} : ∀ {n : Nat}, (∀ j, j < n → s j ≠ k) → met s n k = 0 := fun {n} h => by
  unfold met
  rw [sN_ext (g := fun _ => 0) (fun j hj => if_neg (h j hj)), sN_zero]
theorem met_le {s : Nat → Nat} {n : Nat} (h : ∀ i j, i < n → j < n → s i = s j → i = j) (k : Nat) : met s n k ≤ 1 := by
  by_cases hk : ∃ j, j < n ∧ s j = k
  · obtain ⟨j, hj, e⟩ := hk
    unfold met
    rw [sN_one _ j n hj (fun i hi hne => if_neg fun e2 => hne (h i j hi hj (e2.trans e.symm))), if_pos e]
    exact Nat.le_refl _
  · rw [met_zero fun j hj e => hk ⟨j, hj, e⟩]; omega
theorem met_one {s : Nat → Nat} {n : Nat} (hs : ∀ j, j < n → s j < n) (h : ∀ i j, i < n → j < n → s i = s j → i = j) {k : Nat} (hk : k < n) : met s n k = 1 := by
  have e : sN (met s n) n = n := by
    show sN (fun k => sN (fun j => if s j = k then 1 else 0) n) n = n
    rw [sN_swap]
    rw [sN_ext (g := fun _ => 1) fun j hj => by rw [sN_one _ (s j) n (hs j hj) (fun i hi hne => if_neg fun e => hne e.symm), if_pos rfl]]
    rw [sN_const, Nat.mul_one]
  exact sN_full (fun j _ => met_le h j) e k hk
theorem met_ex {s : Nat → Nat} {n : Nat} (hs : ∀ j, j < n → s j < n) (h : ∀ i j, i < n → j < n → s i = s j → i = j) {k : Nat} (hk : k < n) : ∃ j, j < n ∧ s j = k := by
  by_cases hex : ∃ j, j < n ∧ s j = k
  · exact hex
  · have := met_one hs h hk
    rw [met_zero fun j hj e => hex ⟨j, hj, e⟩] at this
    cases this
/-- Gone over in another order, a sum is the same. -/
theorem sN_inj {s : Nat → Nat} {n : Nat} (hs : ∀ j, j < n → s j < n) (h : ∀ i j, i < n → j < n → s i = s j → i = j) (f : Nat → Nat) : sN (fun j => f (s j)) n = sN f n := by
  have e1 : sN (fun j => f (s j)) n = sN (fun j => sN (fun k => f k * (if s j = k then 1 else 0)) n) n := sN_ext fun j hj => by
    rw [sN_one _ (s j) n (hs j hj) (fun i hi hne => by rw [if_neg fun e => hne e.symm, Nat.mul_zero]), if_pos rfl, Nat.mul_one]
  rw [e1, sN_swap]
  refine sN_ext fun k hk => ?_
  rw [sN_mul]
  show f k * met s n k = f k
  rw [met_one hs h hk, Nat.mul_one]

/-! ### Round and round -/
/-- The k-th number of a product round and round, not cut. -/
def cyc (n : Nat) (x y : Nat → Nat) (k : Nat) : Nat := sN (fun j => x j * y ((k + (n - j)) % n)) n
theorem sN_prod (f g : Nat → Nat) (m : Nat) : ∀ n, sN f n * sN g m = sN (fun i => sN (fun j => f i * g j) m) n
  | 0 => by rw [sN, Nat.zero_mul]; rfl
  | n + 1 => by rw [sN, Nat.add_mul, sN_prod f g m n, sN, sN_mul]
/-- The transform of a product round and round is the product of the transforms. -/
theorem cyc_tS {v p n : Nat} (hn : 1 ≤ n) (h : OrdN v p n) (x y : Nat → Nat) (i : Nat) : tS v n (cyc n x y) i % p = tS v n x i * tS v n y i % p := by
  have e1 : tS v n (cyc n x y) i = sN (fun j => sN (fun k => x j * y ((k + (n - j)) % n) * v ^ (i * k)) n) n := by
    unfold tS cyc
    rw [← sN_swap]
    exact sN_ext fun k _ => (sN_mulr _ _ _).symm
  have e2 : tS v n x i * tS v n y i = sN (fun j => sN (fun m => x j * v ^ (i * j) * (y m * v ^ (i * m))) n) n := sN_prod _ _ _ _
  rw [e1, e2]
  refine sN_cong fun j hj => ?_
  rw [← sN_round (fun k => x j * y ((k + (n - j)) % n) * v ^ (i * k)) hj]
  refine sN_cong fun m hm => ?_
  have a1 : ((m + j) % n + (n - j)) % n = m := by
    rw [Nat.mod_add_mod, show m + j + (n - j) = m + n by omega, Nat.add_mod_right, Nat.mod_eq_of_lt hm]
  have a2 : v ^ (i * ((m + j) % n)) % p = v ^ (i * (m + j)) % p := by rw [h.mod, h.mod (i * (m + j)), Nat.mul_mod_mod]
  show x j * y (((m + j) % n + (n - j)) % n) * v ^ (i * ((m + j) % n)) % p = _
  rw [a1, Nat.mul_mod, a2, ← Nat.mul_mod, Nat.mul_add, Nat.pow_add, Nat.mul_mul_mul_comm (x j) (v ^ (i * j)), Nat.mul_comm (v ^ (i * j))]
theorem cyc_cong {p n : Nat} {x y x' y' : Nat → Nat} (hx : ∀ j, j < n → x j % p = x' j % p) (hy : ∀ j, j < n → y j % p = y' j % p) (k : Nat) : cyc n x y k % p = cyc n x' y' k % p :=
  sN_cong fun j hj => by rw [Nat.mul_mod, hx j hj, hy _ (Nat.mod_lt _ (by omega)), ← Nat.mul_mod]
/-- Of lists: the inverse transform of what comes of two transforms, place by place, is the product round and round. -/
theorem dT_cyc {x : En} (hF : Fld x) {n : Nat} {us vs cs : List Nat} (h1 : 1 ≤ n) (hd : (x.p - 1) % n = 0) (ha : us.length = n) (hb : vs.length = n) (hc : cs.length = n)
    (h : ∀ i, i < n → atL cs i % x.p = dV x false us i * dV x false vs i % x.p) : dT x true cs = (List.range n).map fun k => cyc n (atL us) (atL vs) k % x.p := by
  have h3 := hF.num.1
  have ho := twR_ord hF h1 hd false
  obtain ⟨es, hes⟩ : ∃ es, (List.range n).map (fun k => cyc n (atL us) (atL vs) k % x.p) = es := ⟨_, rfl⟩
  have hel : es.length = n := by rw [← hes]; simp
  have hee : ∀ k, k < n → atL es k = cyc n (atL us) (atL vs) k % x.p := fun k hk => atL_of (by rw [← hes, List.getElem?_map, List.getElem?_range hk]; rfl)
  have hsm : ∀ y ∈ es, y < x.p := fun y hy => by
    rw [← hes] at hy
    obtain ⟨k, _, rfl⟩ := List.mem_map.1 hy
    exact Nat.mod_lt _ (by omega)
  have hb2 := dT_back hF (xs := es) (by omega) (by rw [hel]; exact hd) hsm
  rw [hes, ← hb2]
  have hcl : (dT x false es).length = n := by rw [dT_len, hel]
  refine list_ext (by rw [dT_len, dT_len, hc, hcl]) fun k hk => ?_
  rw [dT_len, hc] at hk
  rw [dT_at (by rw [hc]; exact hk), dT_at (by rw [hcl]; exact hk)]
  have e : ∀ j, j < n → atL cs j % x.p = atL (dT x false es) j % x.p := fun j hj => by
    rw [h j hj, dT_at (by rw [hel]; exact hj)]
    unfold dV
    rw [if_neg (by decide), if_neg (by decide), if_neg (by decide), ha, hb, hel, ← Nat.mul_mod, ← cyc_tS h1 ho, Nat.mod_mod]
    exact (tS_cong (fun j hj => by rw [hee j hj, Nat.mod_mod]) j).symm
  unfold dV
  rw [if_pos rfl, if_pos rfl, hc, hcl, tS_cong e]
end Go.Proofs.YtpjfapibjihbbaaGreatDoor
/-
  Plain mathematics of layers 15 to 17: a transform by coprime parts, of a prime length, and by pairs; products straight on, and round. No condition.
-/
namespace Go.Proofs.YtpjfapibjihbbaaGreatDoor
set_option linter.unusedVariables false

/-! ### By coprime parts -/
theorem mul_cancel {a b i j : Nat} (hc : Nat.Coprime a b) (hi : i < a) (hj : j < a) (h : b * i % a = b * j % a) : i = j := by
  have key : ∀ i j, i ≤ j → j < a → b * i % a = b * j % a → i = j := fun i j hij hj h => by
    have hd : a ∣ b * (j - i) := by
      rw [Nat.mul_sub]
      exact Nat.dvd_of_mod_eq_zero (Nat.sub_mod_eq_zero_of_mod_eq h.symm)
    have h2 := hc.dvd_of_dvd_mul_left hd
    rcases Nat.eq_zero_or_pos (j - i) with e | e
    · omega
    · have := Nat.le_of_dvd e h2; omega
  rcases Nat.le_total i j with h1 | h1
  · exact key i j h1 hj h
  · exact (key j i h1 hi h.symm).symm
/-- Where the number at row i, column j comes from. -/
def inS (a b m : Nat) : Nat := (b * (m / b) + a * (m % b)) % (a * b)
theorem inS_at {a b i j : Nat} (hj : j < b) : inS a b (i * b + j) = (b * i + a * j) % (a * b) := by
  unfold inS
  rw [show (i * b + j) / b = i by rw [Nat.add_comm, Nat.add_mul_div_right _ _ (by omega), Nat.div_eq_of_lt hj, Nat.zero_add], show (i * b + j) % b = j by rw [Nat.add_comm, Nat.add_mul_mod_self_right, Nat.mod_eq_of_lt hj]]
theorem inS_lt {a b : Nat} (ha : 1 ≤ a) (hb : 1 ≤ b) (m : Nat) : inS a b m < a * b := Nat.mod_lt _ (Nat.mul_pos ha hb)
theorem inS_inj {a b : Nat} (ha : 1 ≤ a) (hb : 1 ≤ b) (hc : Nat.Coprime a b) {m m' : Nat} (hm : m < a * b) (hm' : m' < a * b) (h : inS a b m = inS a b m') : m = m' := by
  have hi : m / b < a := Nat.div_lt_of_lt_mul (by rw [Nat.mul_comm]; exact hm)
  have hi' : m' / b < a := Nat.div_lt_of_lt_mul (by rw [Nat.mul_comm]; exact hm')
  have hj := Nat.mod_lt m (show 0 < b by omega)
  have hj' := Nat.mod_lt m' (show 0 < b by omega)
  unfold inS at h
  have ea := congrArg (· % a) h
  have eb := congrArg (· % b) h
  simp only [Nat.mod_mul_right_mod, Nat.mod_mul_left_mod] at ea eb
  rw [Nat.add_mul_mod_self_left, Nat.add_mul_mod_self_left] at ea
  rw [Nat.add_comm, Nat.add_mul_mod_self_left, Nat.add_comm (b * (m' / b)), Nat.add_mul_mod_self_left] at eb
  have e1 := mul_cancel hc hi hi' ea
  have e2 := mul_cancel hc.symm hj hj' eb
  rw [← Nat.div_add_mod m b, ← Nat.div_add_mod m' b, e1, e2]
/-- Rows, then columns: at row k mod a, column k mod b the transform's k-th. -/
theorem good_thomas {w p a b : Nat} (ha : 1 ≤ a) (hb : 1 ≤ b) (hc : Nat.Coprime a b) (h : OrdN w p (a * b)) (x : Nat → Nat) (k : Nat) :
    tS (w ^ b) a (fun i => tS (w ^ a) b (fun j => x ((b * i + a * j) % (a * b))) (k % b)) (k % a) % p = tS w (a * b) x k % p := by
  have hwa : OrdN (w ^ a) p b := h.pow ha
  have hwb : OrdN (w ^ b) p a := by rw [Nat.mul_comm] at h; exact h.pow hb
  have e1 : tS w (a * b) x k % p = sN (fun m => x (inS a b m) * w ^ (k * inS a b m)) (a * b) % p := by
    unfold tS
    rw [sN_inj (s := inS a b) (fun j _ => inS_lt ha hb j) (fun i j hi hj e => inS_inj ha hb hc hi hj e) (fun m => x m * w ^ (k * m))]
  rw [e1, sN_rows]
  unfold tS
  refine sN_cong fun i hi => ?_
  rw [← sN_mulr]
  refine sN_cong fun j hj => ?_
  rw [inS_at hj]
  have e2 : (w ^ a) ^ (k % b * j) % p = w ^ (k * (a * j)) % p := by
    rw [hwa.mod, Nat.mod_mul_mod, ← hwa.mod, ← Nat.pow_mul, Nat.mul_left_comm]
  have e3 : (w ^ b) ^ (k % a * i) % p = w ^ (k * (b * i)) % p := by
    rw [hwb.mod, Nat.mod_mul_mod, ← hwb.mod, ← Nat.pow_mul, Nat.mul_left_comm]
  have e4 : w ^ (k * ((b * i + a * j) % (a * b))) % p = w ^ (k * (b * i + a * j)) % p := by rw [h.mod, h.mod (k * (b * i + a * j)), Nat.mul_mod_mod]
  have e5 : (w ^ a) ^ (k % b * j) * (w ^ b) ^ (k % a * i) % p = w ^ (k * ((b * i + a * j) % (a * b))) % p := by
    rw [Nat.mul_mod, e2, e3, ← Nat.mul_mod, ← Nat.pow_add, ← Nat.mul_add, Nat.add_comm (a * j), e4]
  show x ((b * i + a * j) % (a * b)) * (w ^ a) ^ (k % b * j) * (w ^ b) ^ (k % a * i) % p = _
  rw [Nat.mul_assoc, Nat.mul_mod, e5, ← Nat.mul_mod]

/-! ### Straight on -/
/-- The k-th number of a product straight on, not cut. -/
def lin (x y : Nat → Nat) (k : Nat) : Nat := sN (fun j => x j * y (k - j)) (k + 1)
theorem sN_cut {f : Nat → Nat} {m n : Nat} (hm : m ≤ n) (h : ∀ j, m ≤ j → j < n → f j = 0) : sN f n = sN f m := by
  obtain ⟨d, rfl⟩ : ∃ d, n = m + d := ⟨n - m, by omega⟩
  rw [sN_split, sN_ext (g := fun _ => 0) (fun j hj => h (m + j) (by omega) (by omega)), sN_zero, Nat.add_zero]
/-- Long enough, round and round is straight on. -/
theorem cyc_lin {x y : Nat → Nat} {s t n k : Nat} (hx : ∀ j, s ≤ j → x j = 0) (hy : ∀ j, t ≤ j → y j = 0) (hst : s + t ≤ n + k + 1) (hk : k < n) : cyc n x y k = lin x y k := by
  unfold cyc lin
  rw [sN_cut (m := k + 1) (by omega) (fun j h1 h2 => ?_)]
  · refine sN_ext fun j hj => ?_
    rw [show k + (n - j) = (k - j) + n by omega, Nat.add_mod_right, Nat.mod_eq_of_lt (by omega)]
  · rw [Nat.mod_eq_of_lt (by omega)]
    by_cases h3 : s ≤ j
    · rw [hx j h3, Nat.zero_mul]
    · rw [hy _ (by omega), Nat.mul_zero]
/-- Folded, straight on is round and round. -/
theorem lin_fold {x y : Nat → Nat} {n k : Nat} (hx : ∀ j, n ≤ j → x j = 0) (hy : ∀ j, n ≤ j → y j = 0) (hk : k < n) : cyc n x y k = lin x y k + lin x y (k + n) := by
  have e1 : lin x y (k + n) = sN (fun j => x j * (if k < j then y (k + n - j) else 0)) n := by
    unfold lin
    rw [sN_cut (m := n) (by omega) (fun j h1 h2 => by rw [hx j h1, Nat.zero_mul])]
    refine sN_ext fun j hj => ?_
    by_cases h : k < j
    · rw [if_pos h]
    · rw [if_neg h, hy _ (by omega)]
  have e2 : lin x y k = sN (fun j => x j * (if k < j then 0 else y (k - j))) n := by
    rw [sN_cut (f := fun j => x j * (if k < j then 0 else y (k - j))) (m := k + 1) (n := n) (by omega) (fun j h1 h2 => by rw [if_pos (by omega), Nat.mul_zero])]
    exact sN_ext fun j hj => by rw [if_neg (by omega)]
  rw [e1, e2, ← sN_add]
  unfold cyc
  refine sN_ext fun j hj => ?_
  by_cases h : k < j
  · rw [if_pos h, if_pos h, Nat.mul_zero, Nat.zero_add, Nat.mod_eq_of_lt (by omega), show k + (n - j) = k + n - j by omega]
  · rw [if_neg h, if_neg h, Nat.mul_zero, Nat.add_zero, show k + (n - j) = (k - j) + n by omega, Nat.add_mod_right, Nat.mod_eq_of_lt (by omega)]
end Go.Proofs.YtpjfapibjihbbaaGreatDoor

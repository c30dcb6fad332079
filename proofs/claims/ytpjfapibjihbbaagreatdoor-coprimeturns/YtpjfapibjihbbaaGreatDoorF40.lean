/-
  Plain mathematics of layer 14, laid ahead: the radices of a number (2, 3, 5 and 7, rising), which there are once at most; the transform of a list whose numbers stand only at each r-th place. No condition.
-/
import Derived.Test.YtpjfapibjihbbaaGreatDoorF32
import Derived.Test.YtpjfapibjihbbaaGreatDoorF34
import Derived.Test.YtpjfapibjihbbaaGreatDoorF29
import Derived.Test.YtpjfapibjihbbaaGreatDoorF18
namespace Go.Proofs.YtpjfapibjihbbaaGreatDoor
set_option linter.unusedVariables false

/-! ### Radices -/
def Sml (r : Nat) : Prop := r = 2 ∨ r = 3 ∨ r = 5 ∨ r = 7
theorem Sml.prm {r : Nat} (h : Sml r) : Prm r := by
  rcases h with e | e | e | e <;> subst e <;> exact prm_of _ (by omega) (by decide)
theorem Sml.two {r : Nat} (h : Sml r) : 2 ≤ r := by rcases h with e | e | e | e <;> omega
theorem Sml.lt {r : Nat} (h : Sml r) : r < 8 := by rcases h with e | e | e | e <;> omega
/-- What divides, from 2 on to 7, and is the least such, is one of these. -/
theorem sml_least {n r : Nat} (h2 : 2 ≤ r) (h8 : r < 8) (hd : n % r = 0) (hl : ∀ q, 2 ≤ q → q < r → n % q ≠ 0) : Sml r := by
  unfold Sml
  have h4 : r ≠ 4 := fun e => by
    subst e
    exact hl 2 (by omega) (by omega) (by omega)
  have h6 : r ≠ 6 := fun e => by
    subst e
    exact hl 2 (by omega) (by omega) (by omega)
  omega
/-- The radices of a number. -/
structure IsRad (n : Nat) (l : List Nat) : Prop where
  mem : ∀ r ∈ l, Sml r
  up : l.Pairwise (· ≤ ·)
  prod : pr l = n
theorem pr_cons (a : Nat) (l : List Nat) : pr (a :: l) = a * pr l := rfl
theorem pr_one {l : List Nat} (hm : ∀ r ∈ l, Sml r) (h : pr l = 1) : l = [] := by
  cases l with
  | nil => rfl
  | cons a t =>
    exfalso
    have h2 := (hm a (List.mem_cons_self ..)).two
    rw [pr_cons] at h
    have := Nat.eq_one_of_mul_eq_one_right h
    omega
/-- A prime that divides the product is one of them. -/
theorem pr_has {p : Nat} (hp : Sml p) : ∀ {l : List Nat}, (∀ r ∈ l, Sml r) → pr l % p = 0 → p ∈ l
  | [], _, h => by
    exfalso
    have h2 := hp.two
    rw [show pr [] = 1 from rfl, Nat.mod_eq_of_lt (by omega)] at h
    cases h
  | a :: t, hm, h => by
    rw [pr_cons] at h
    rcases hp.prm.prod _ _ h with h1 | h1
    · have ha := hm a (List.mem_cons_self ..)
      have := ha.prm.2 p (Nat.dvd_of_mod_eq_zero h1)
      have h2 := hp.two
      rcases this with e | e
      · omega
      · rw [e]; exact List.mem_cons_self ..
    · exact List.mem_cons_of_mem _ (pr_has hp (fun r hr => hm r (List.mem_cons_of_mem _ hr)) h1)
theorem IsRad.eq : ∀ {l l' : List Nat} {n : Nat}, IsRad n l → IsRad n l' → l = l'
  | [], l', n, h, h' => by
    have : n = 1 := h.prod.symm
    exact (pr_one h'.mem (h'.prod.trans this)).symm
  | a :: t, [], n, h, h' => by
    have : n = 1 := h'.prod.symm
    exact pr_one h.mem (h.prod.trans this)
  | a :: t, b :: u, n, h, h' => by
    have ha := h.mem a (List.mem_cons_self ..)
    have hb := h'.mem b (List.mem_cons_self ..)
    have h1 : a ∈ b :: u := pr_has ha h'.mem (by rw [h'.prod, ← h.prod, pr_cons]; exact Nat.mul_mod_right _ _)
    have h2 : b ∈ a :: t := pr_has hb h.mem (by rw [h.prod, ← h'.prod, pr_cons]; exact Nat.mul_mod_right _ _)
    have e1 : b ≤ a := by
      rcases List.mem_cons.1 h1 with e | e
      · omega
      · exact (List.pairwise_cons.1 h'.up).1 a e
    have e2 : a ≤ b := by
      rcases List.mem_cons.1 h2 with e | e
      · omega
      · exact (List.pairwise_cons.1 h.up).1 b e
    obtain rfl : a = b := by omega
    have h3 : pr t = pr u := by
      have := h.prod.trans h'.prod.symm
      rw [pr_cons, pr_cons] at this
      exact Nat.eq_of_mul_eq_mul_left (by have := ha.two; omega) this
    congr 1
    exact IsRad.eq ⟨fun r hr => h.mem r (List.mem_cons_of_mem _ hr), (List.pairwise_cons.1 h.up).2, h3⟩ ⟨fun r hr => h'.mem r (List.mem_cons_of_mem _ hr), (List.pairwise_cons.1 h'.up).2, rfl⟩
/-- What none of the four divides, and divides a product of these, is 1. -/
theorem pr_free {m : Nat} (hm : ∀ q, Sml q → m % q ≠ 0) : ∀ {l : List Nat}, (∀ r ∈ l, Sml r) → m ∣ pr l → m = 1
  | [], _, h => Nat.dvd_one.1 h
  | a :: t, hl, h => by
    have ha := hl a (List.mem_cons_self ..)
    have hc : Nat.Coprime a m := ha.prm.coprime fun e => hm a ha (Nat.mod_eq_zero_of_dvd e)
    rw [pr_cons] at h
    exact pr_free hm (fun r hr => hl r (List.mem_cons_of_mem _ hr)) (hc.symm.dvd_of_dvd_mul_left h)
/-- Some radices found, what is left of the number has no smaller ones. -/
structure RadSt (n : Nat) (l : List Nat) (m : Nat) : Prop where
  mem : ∀ r ∈ l, Sml r
  up : l.Pairwise (· ≤ ·)
  prod : pr l * m = n
  low : ∀ r ∈ l, ∀ q, 2 ≤ q → q < r → m % q ≠ 0
theorem RadSt.start (n : Nat) : RadSt n [] n := ⟨fun _ h => by simp at h, List.Pairwise.nil, by rw [show pr [] = 1 from rfl, Nat.one_mul], fun _ h => by simp at h⟩
theorem RadSt.step {n : Nat} {l : List Nat} {m r m' : Nat} (h : RadSt n l m) (h2 : 2 ≤ r) (h8 : r < 8) (hd : m % r = 0) (hl : ∀ q, 2 ≤ q → q < r → m % q ≠ 0) (hm : m / r = m') : RadSt n (l ++ [r]) m' := by
  have e : m = r * m' := by rw [← hm, Nat.mul_comm]; exact (Nat.div_mul_cancel (Nat.dvd_of_mod_eq_zero hd)).symm
  have hk : ∀ q, m % q ≠ 0 → m' % q ≠ 0 := fun q hq hz => hq (by rw [e]; exact Nat.mod_eq_zero_of_dvd (Nat.dvd_mul_left_of_dvd (Nat.dvd_of_mod_eq_zero hz) r))
  refine ⟨fun q hq => ?_, ?_, ?_, fun q hq s s2 hs => ?_⟩
  · rcases List.mem_append.1 hq with h' | h'
    · exact h.mem q h'
    · obtain rfl : q = r := by simpa using h'
      exact sml_least h2 h8 hd hl
  · refine List.pairwise_append.2 ⟨h.up, by simp, fun x hx y hy => ?_⟩
    obtain rfl : y = r := by simpa using hy
    rcases Nat.lt_or_ge y x with hlt | hge
    · exact absurd hd (h.low x hx y h2 hlt)
    · exact hge
  · rw [pr_append, pr_cons, show pr [] = 1 from rfl, Nat.mul_one, Nat.mul_assoc, ← e]; exact h.prod
  · rcases List.mem_append.1 hq with h' | h'
    · exact hk s (h.low q h' s s2 hs)
    · obtain rfl : q = r := by simpa using h'
      exact hk s (hl s s2 hs)
theorem RadSt.fin {n : Nat} {l : List Nat} (h : RadSt n l 1) : IsRad n l := ⟨h.mem, h.up, by have := h.prod; rwa [Nat.mul_one] at this⟩
/-- Nothing divides what is left: there are none. -/
theorem RadSt.none {n : Nat} {l : List Nat} {m : Nat} (h : RadSt n l m) (h1 : m ≠ 1) (hm : ∀ q, 2 ≤ q → q < 8 → m % q ≠ 0) : ∀ l', ¬ IsRad n l' := fun l' hr =>
  h1 (pr_free (l := l') (fun q hq => hm q hq.two hq.lt) hr.mem (by rw [hr.prod, ← h.prod]; exact Nat.dvd_mul_left m (pr l)))
/-- There are ten of them at most, of a number up to 1024. -/
theorem pr_two_le : ∀ {l : List Nat}, (∀ r ∈ l, Sml r) → 2 ^ l.length ≤ pr l
  | [], _ => by simp [pr]
  | a :: t, h => by
    have ha := (h a (List.mem_cons_self ..)).two
    have := pr_two_le (l := t) fun r hr => h r (List.mem_cons_of_mem _ hr)
    rw [List.length_cons, Nat.pow_succ', pr_cons]
    exact Nat.mul_le_mul ha this
theorem IsRad.ten {n : Nat} {l : List Nat} (h : IsRad n l) (hn : n ≤ 1024) : l.length ≤ 10 := by
  have h1 := pr_two_le h.mem
  rw [h.prod] at h1
  exact (Nat.pow_le_pow_iff_right (a := 2) (by omega)).1 (Nat.le_trans h1 (show n ≤ 2 ^ 10 by omega))
theorem IsRad.pos {n : Nat} {l : List Nat} (h : IsRad n l) : 1 ≤ n := by
  rw [← h.prod]
  exact pr_pos fun d hd => by have := (h.mem d hd).two; omega

/-! ### A list whose numbers stand only at each r-th place -/
def spr (r : Nat) (xs : List Nat) : List Nat := lf (r * xs.length) fun j => if j % r = 0 then atL xs (j / r) else 0
theorem spr_len (r : Nat) (xs : List Nat) : (spr r xs).length = r * xs.length := lf_len _ _
theorem tS_spr {w r n : Nat} (hr : 1 ≤ r) (y : Nat → Nat) (k : Nat) : tS w (r * n) (fun j => if j % r = 0 then y (j / r) else 0) k = tS (w ^ r) n y k := by
  rw [tS_split]
  rw [sN_one _ 0 r (by omega) fun u hu hne => by
    have : tS (w ^ r) n (fun j => if (r * j + u) % r = 0 then y ((r * j + u) / r) else 0) k = 0 := by
      unfold tS
      rw [sN_ext (g := fun _ => 0) fun j _ => by
        show (if (r * j + u) % r = 0 then y ((r * j + u) / r) else 0) * (w ^ r) ^ (k * j) = 0
        rw [Nat.mul_add_mod, Nat.mod_eq_of_lt hu, if_neg hne, Nat.zero_mul], sN_zero]
    rw [this, Nat.mul_zero]]
  rw [Nat.zero_mul, Nat.pow_zero, Nat.one_mul]
  refine tS_ext fun j _ => ?_
  rw [Nat.add_zero, Nat.mul_mod_right, if_pos rfl, Nat.mul_div_cancel_left _ (by omega)]
theorem dT_spr {x : En} (hF : Fld x) {xs : List Nat} {r i : Nat} (hr : 1 ≤ r) (h1 : 1 ≤ xs.length) (hd : (x.p - 1) % (r * xs.length) = 0) (hi : i < r * xs.length) : (dT x false (spr r xs))[i]? = some (atL (dT x false xs) (i % xs.length)) := by
  obtain ⟨e1, e2⟩ := tree_pow (p := x.p) (g := x.g) r xs.length hr h1 hd
  rw [dT_get (by rw [spr_len]; exact hi), dT_at (Nat.mod_lt _ (by omega))]
  congr 1
  unfold dV
  rw [if_neg (by decide), if_neg (by decide), spr_len]
  have et : tS (twR x (r * xs.length) false) (r * xs.length) (atL (spr r xs)) i = tS (twR x (r * xs.length) false) (r * xs.length) (fun j => if j % r = 0 then atL xs (j / r) else 0) i := tS_ext fun j hj => lf_at _ hj
  rw [et, tS_spr hr]
  have ew : (twR x (r * xs.length) false ^ r) % x.p = twR x xs.length false % x.p := by
    unfold twR
    rw [if_neg (by decide), if_neg (by decide)]
    unfold rootN
    rw [e1, Nat.mod_mod]
  rw [tS_base ew, tS_mod (twR_ord hF h1 e2 false)]
end Go.Proofs.YtpjfapibjihbbaaGreatDoor
/-
  Plain mathematics of layer 14: blocks put together by a radix, some places of one done, some blocks done; the transform by any radices. No condition.
-/
namespace Go.Proofs.YtpjfapibjihbbaaGreatDoor
set_option linter.unusedVariables false

/-! ### One sum -/
/-- The sum of the first k, the u-th one times the power of u times b. -/
def smT (p v b : Nat) (y : Nat → Nat) (k : Nat) : Nat := sN (fun u => v ^ (u * b) * y u) k % p
theorem smT_zero (p v b : Nat) (y : Nat → Nat) (hp : 1 ≤ p) : smT p v b y 0 = 0 := by
  show 0 % p = 0
  exact Nat.zero_mod p
theorem smT_lt {p : Nat} (hp : 1 ≤ p) (v b : Nat) (y : Nat → Nat) (k : Nat) : smT p v b y k < p := Nat.mod_lt _ (by omega)
theorem pow_rest {v p n : Nat} (hp : 2 ≤ p) (ho : OrdN v p n) (e : Nat) : v ^ (e % n) % p = v ^ e % p := by
  have h : v ^ e = v ^ (n * (e / n)) * v ^ (e % n) := by rw [← Nat.pow_add, Nat.div_add_mod]
  rw [h, Nat.mul_mod, ho.oneM hp, Nat.one_mul, Nat.mod_mod]
theorem smT_step {p v n : Nat} (hp : 2 ≤ p) (ho : OrdN v p n) (b : Nat) (y : Nat → Nat) (k : Nat) : (smT p v b y k + v ^ (k * b % n) % p * y k % p) % p = smT p v b y (k + 1) := by
  show (sN _ k % p + _) % p = (sN _ k + v ^ (k * b) * y k) % p
  rw [pow_rest hp ho, Nat.mod_mul_mod, ← Nat.add_mod]
theorem exp_step (k b n : Nat) : (k * b % n + b) % n = (k + 1) * b % n := by rw [Nat.mod_add_mod, Nat.succ_mul]

/-! ### One block put together -/
/-- What stands at place k of a block of r parts of M each, from o on. -/
def mxV (p v P o r M : Nat) (A : Nat → Nat) (k : Nat) : Nat := smT p v (k * P) (fun u => A (o + (u * M + k % M))) r
def mxJ (p v P o r M : Nat) (A : Nat → Nat) (j : Nat) : Nat := if o ≤ j ∧ j < o + r * M then mxV p v P o r M A (j - o) else A j
/-- The first i places of each part done, of the next one's t parts. -/
def mxS (p v P o r M : Nat) (A : Nat → Nat) (i t j : Nat) : Nat := if o ≤ j ∧ j < o + r * M ∧ ((j - o) % M < i ∨ ((j - o) % M = i ∧ (j - o) / M < t)) then mxV p v P o r M A (j - o) else A j
theorem mxV_lt {p : Nat} (hp : 1 ≤ p) (v P o r M : Nat) (A : Nat → Nat) (k : Nat) : mxV p v P o r M A k < p := smT_lt hp _ _ _ _
theorem mxS_lt {p n : Nat} (hp : 1 ≤ p) (v P o r M : Nat) {A : Nat → Nat} (hA : ∀ j, j < n → A j < p) (i t : Nat) : ∀ j, j < n → mxS p v P o r M A i t j < p := fun j hj => by
  unfold mxS
  split
  · exact mxV_lt hp ..
  · exact hA j hj
theorem mxJ_lt {p n : Nat} (hp : 1 ≤ p) (v P o r M : Nat) {A : Nat → Nat} (hA : ∀ j, j < n → A j < p) : ∀ j, j < n → mxJ p v P o r M A j < p := fun j hj => by
  unfold mxJ
  split
  · exact mxV_lt hp ..
  · exact hA j hj
theorem mxS_zero (p v P o r M : Nat) (A : Nat → Nat) (j : Nat) : mxS p v P o r M A 0 0 j = A j := by
  unfold mxS
  rw [if_neg]
  rintro ⟨_, _, h | ⟨_, h⟩⟩
  · exact absurd h (Nat.not_lt_zero _)
  · exact absurd h (Nat.not_lt_zero _)
theorem part_div {M i : Nat} (hi : i < M) (u : Nat) : (u * M + i) / M = u ∧ (u * M + i) % M = i := by
  rw [Nat.mul_comm u M]
  exact ⟨by rw [Nat.mul_add_div (by omega), Nat.div_eq_of_lt hi, Nat.add_zero], by rw [Nat.mul_add_mod, Nat.mod_eq_of_lt hi]⟩
theorem part_lt {M i u r : Nat} (hi : i < M) (hu : u < r) : u * M + i < r * M := by
  have := Nat.mul_le_mul_right M (show u + 1 ≤ r from hu)
  rw [Nat.succ_mul] at this
  omega
theorem mxS_at {p v P o r M i u : Nat} {A : Nat → Nat} (hi : i < M) : mxS p v P o r M A i 0 (o + (u * M + i)) = A (o + (u * M + i)) := by
  unfold mxS
  rw [if_neg]
  rw [Nat.add_sub_cancel_left, (part_div hi u).2]
  rintro ⟨_, _, h | ⟨_, h⟩⟩
  · exact absurd h (Nat.lt_irrefl _)
  · exact absurd h (Nat.not_lt_zero _)
theorem mxS_set {p v P o r M i t N : Nat} (A : Nat → Nat) (hi : i < M) (ht : t < r) : (lf N (mxS p v P o r M A i t)).set (o + (t * M + i)) (mxV p v P o r M A (t * M + i)) = lf N (mxS p v P o r M A i (t + 1)) := by
  refine lf_set fun j _ => ?_
  obtain ⟨d1, d2⟩ := part_div hi t
  have d3 := part_lt hi ht
  by_cases e : j = o + (t * M + i)
  · rw [if_pos e]
    unfold mxS
    rw [e, Nat.add_sub_cancel_left, d1, d2, if_pos ⟨by omega, by omega, .inr ⟨rfl, by omega⟩⟩]
  · rw [if_neg e]
    unfold mxS
    have hd := Nat.div_add_mod (j - o) M
    by_cases h : o ≤ j ∧ j < o + r * M ∧ ((j - o) % M < i ∨ ((j - o) % M = i ∧ (j - o) / M < t))
    · rw [if_pos h, if_pos ⟨h.1, h.2.1, h.2.2.imp id fun h => ⟨h.1, by omega⟩⟩]
    · rw [if_neg h, if_neg]
      rintro ⟨h1, h2, h3 | ⟨h3, h4⟩⟩
      · exact h ⟨h1, h2, .inl h3⟩
      · by_cases h5 : (j - o) / M < t
        · exact h ⟨h1, h2, .inr ⟨h3, h5⟩⟩
        · have h6 : (j - o) / M = t := by omega
          rw [h6, h3, Nat.mul_comm] at hd
          omega
theorem mxS_next {p v P o r M i : Nat} (hM : 1 ≤ M) (A : Nat → Nat) (j : Nat) : mxS p v P o r M A i r j = mxS p v P o r M A (i + 1) 0 j := by
  unfold mxS
  by_cases h : o ≤ j ∧ j < o + r * M ∧ ((j - o) % M < i + 1 ∨ ((j - o) % M = i + 1 ∧ (j - o) / M < 0))
  · rw [if_pos h]
    refine if_pos ⟨h.1, h.2.1, ?_⟩
    have h1 : (j - o) / M < r := Nat.div_lt_of_lt_mul (by have := h.2.1; rw [Nat.mul_comm]; omega)
    rcases h.2.2 with h2 | h2
    · by_cases e : (j - o) % M = i
      · exact .inr ⟨e, h1⟩
      · exact .inl (by omega)
    · exact absurd h2.2 (Nat.not_lt_zero _)
  · rw [if_neg h, if_neg]
    rintro ⟨h1, h2, h3 | ⟨h3, h4⟩⟩
    · exact h ⟨h1, h2, .inl (by omega)⟩
    · exact h ⟨h1, h2, .inl (by omega)⟩
theorem mxS_all {p v P o r M : Nat} (hM : 1 ≤ M) (A : Nat → Nat) (j : Nat) : mxS p v P o r M A M 0 j = mxJ p v P o r M A j := by
  unfold mxS mxJ
  have := Nat.mod_lt (j - o) (show 0 < M by omega)
  by_cases h : o ≤ j ∧ j < o + r * M
  · rw [if_pos h, if_pos ⟨h.1, h.2, .inl this⟩]
  · rw [if_neg h, if_neg fun h' => h ⟨h'.1, h'.2.1⟩]

/-! ### All blocks -/
/-- The blocks ahead of s done. -/
def mxG (p v P r M : Nat) (A : Nat → Nat) (s j : Nat) : Nat := if j < s then mxV p v P (j / (r * M) * (r * M)) r M A (j % (r * M)) else A j
theorem mxG_zero (p v P r M : Nat) (A : Nat → Nat) (j : Nat) : mxG p v P r M A 0 j = A j := if_neg (Nat.not_lt_zero _)
theorem mxG_lt {p n : Nat} (hp : 1 ≤ p) (v P r M : Nat) {A : Nat → Nat} (hA : ∀ j, j < n → A j < p) (s : Nat) : ∀ j, j < n → mxG p v P r M A s j < p := fun j hj => by
  unfold mxG
  split
  · exact mxV_lt hp ..
  · exact hA j hj
theorem mxG_step {p v P r M b m : Nat} (hm : r * M = m) (h1 : 1 ≤ m) (A : Nat → Nat) (j : Nat) : mxJ p v P (b * m) r M (mxG p v P r M A (b * m)) j = mxG p v P r M A ((b + 1) * m) j := by
  unfold mxJ
  rw [hm]
  by_cases h : b * m ≤ j ∧ j < b * m + m
  · obtain ⟨k, rfl⟩ : ∃ k, j = b * m + k := ⟨j - b * m, by omega⟩
    have hk : k < m := by omega
    rw [if_pos h]
    unfold mxG
    rw [hm, if_pos (by rw [Nat.succ_mul]; omega), (part_div hk b).1, (part_div hk b).2, Nat.add_sub_cancel_left]
    unfold mxV smT
    congr 1
    refine sN_ext fun u _ => ?_
    show v ^ _ * (if _ < b * m then _ else _) = _
    rw [if_neg (by omega)]
  · rw [if_neg h]
    unfold mxG
    rw [Nat.succ_mul]
    by_cases h2 : j < b * m
    · rw [if_pos h2, if_pos (by omega)]
    · rw [if_neg h2, if_neg (by omega)]
theorem mxG_bk {w p : Nat} {rs : List Nat} {x A : Nat → Nat} {j r M P : Nat} (hr : rs[j]? = some r) (h1 : ∀ r ∈ rs, 1 ≤ r) (ho : OrdN w p (pr rs)) (hM : pr (rs.drop (j + 1)) = M) (hP : pr (rs.take j) = P) (h : Bk w p rs x A (j + 1)) : Bk w p rs x (mxG p w P r M A (pr rs)) j := by
  refine h.step hr h1 ho fun b k hb hk => ?_
  have e1 := (tn_drop hr 0).2
  have hn : pr rs = pr (rs.take j) * pr (rs.drop j) := by rw [← pr_append, List.take_append_drop]
  rw [hP] at hn hb ⊢
  rw [hM] at e1 ⊢
  rw [e1] at hn hk ⊢
  have hlt : b * (r * M) + k < pr rs := by rw [hn]; exact part_lt hk hb
  unfold mxG
  rw [if_pos hlt, (part_div hk b).1, (part_div hk b).2]
  unfold mxV smT
  rw [Nat.mod_mod]
  refine sN_cong fun u _ => ?_
  show w ^ (u * (k * P)) * A (b * (r * M) + (u * M + k % M)) % p = (w ^ P) ^ (u * k) * (A (b * (r * M) + u * M + k % M) % p) % p
  rw [← Nat.pow_mul, Nat.mul_mod_mod, ← Nat.add_assoc, show u * (k * P) = P * (u * k) by rw [← Nat.mul_assoc, Nat.mul_comm]]

/-! ### As the walks have it -/
theorem rest0 {m f : Nat} (h : m % f = 0) : Int.tmod (m : Int) (f : Int) = 0 := by rw [← Int.ofNat_tmod, h]; rfl
theorem rest1 {m f r : Nat} (h : m % f = r) : Int.tmod (m : Int) (f : Int) = (r : Int) := by rw [← h]; rfl
theorem quot1 {m f r : Nat} (h : m / f = r) : Int.tdiv (m : Int) (f : Int) = (r : Int) := by rw [← h]; rfl
end Go.Proofs.YtpjfapibjihbbaaGreatDoor

/-
  Plain mathematics of layer 11: sums, the sum of a root's powers, the transform's sum taken twice. No condition.
-/
import Derived.Test.YtphpllachnhfbaaGreatTw0
namespace Go.Proofs.YtphpllachnhfbaaGreat
set_option linter.unusedVariables false

/-- The sum of the first n. -/
def sN (f : Nat → Nat) : Nat → Nat
  | 0 => 0
  | n + 1 => sN f n + f n
theorem sN_ext {f g : Nat → Nat} : ∀ {n : Nat}, (∀ j, j < n → f j = g j) → sN f n = sN g n
  | 0, _ => rfl
  | n + 1, h => by rw [sN, sN, sN_ext (fun j hj => h j (by omega)), h n (by omega)]
theorem sN_cong {p : Nat} {f g : Nat → Nat} : ∀ {n : Nat}, (∀ j, j < n → f j % p = g j % p) → sN f n % p = sN g n % p
  | 0, _ => rfl
  | n + 1, h => by rw [sN, sN, Nat.add_mod, sN_cong (fun j hj => h j (by omega)), h n (by omega), ← Nat.add_mod]
theorem sN_mod (p : Nat) (f : Nat → Nat) (n : Nat) : sN (fun j => f j % p) n % p = sN f n % p := sN_cong fun j _ => Nat.mod_mod _ _
theorem sN_add (f g : Nat → Nat) : ∀ n, sN (fun j => f j + g j) n = sN f n + sN g n
  | 0 => rfl
  | n + 1 => by rw [sN, sN, sN, sN_add f g n]; omega
theorem sN_mul (c : Nat) (f : Nat → Nat) : ∀ n, sN (fun j => c * f j) n = c * sN f n
  | 0 => rfl
  | n + 1 => by rw [sN, sN, sN_mul c f n, Nat.mul_add]
theorem sN_mulr (c : Nat) (f : Nat → Nat) : ∀ n, sN (fun j => f j * c) n = sN f n * c
  | 0 => by rw [sN, sN, Nat.zero_mul]
  | n + 1 => by rw [sN, sN, sN_mulr c f n, Nat.add_mul]
theorem sN_zero : ∀ n, sN (fun _ => 0) n = 0
  | 0 => rfl
  | n + 1 => by rw [sN, sN_zero n]
theorem sN_swap (F : Nat → Nat → Nat) (m : Nat) : ∀ n, sN (fun i => sN (fun j => F i j) m) n = sN (fun j => sN (fun i => F i j) n) m
  | 0 => by
    have : (fun j => sN (fun i => F i j) 0) = fun _ => 0 := rfl
    rw [this, sN_zero]; rfl
  | n + 1 => by
    rw [sN, sN_swap F m n, ← sN_add]; rfl
theorem sN_one (f : Nat → Nat) (k : Nat) : ∀ n, k < n → (∀ j, j < n → j ≠ k → f j = 0) → sN f n = f k
  | 0, h, _ => absurd h (by omega)
  | n + 1, h, hz => by
    by_cases e : k = n
    · subst e
      have : sN f k = 0 := by rw [sN_ext (g := fun _ => 0) (fun j hj => hz j (by omega) (by omega)), sN_zero]
      rw [sN, this, Nat.zero_add]
    · rw [sN, sN_one f k n (by omega) (fun j hj hne => hz j (by omega) hne), hz n (by omega) (by omega), Nat.add_zero]
theorem sN_split (f : Nat → Nat) (a : Nat) : ∀ b, sN f (a + b) = sN f a + sN (fun j => f (a + j)) b
  | 0 => rfl
  | b + 1 => by rw [← Nat.add_assoc, sN, sN_split f a b, sN, Nat.add_assoc]
/-- Round and round. -/
theorem sN_round (f : Nat → Nat) {n k : Nat} (hk : k < n) : sN (fun j => f ((j + k) % n)) n = sN f n := by
  have h1 : sN (fun j => f ((j + k) % n)) n = sN (fun j => f (k + j)) (n - k) + sN f k := by
    have h := sN_split (fun j => f ((j + k) % n)) (n - k) k
    rw [show n - k + k = n by omega] at h
    rw [h]
    congr 1
    · exact sN_ext fun j hj => by rw [Nat.mod_eq_of_lt (by omega), Nat.add_comm]
    · exact sN_ext fun j hj => by
        rw [show n - k + j + k = n + j by omega, Nat.add_mod_left, Nat.mod_eq_of_lt (by omega)]
  have h2 : sN f n = sN f k + sN (fun j => f (k + j)) (n - k) := by
    have h := sN_split f k (n - k)
    rw [show k + (n - k) = n by omega] at h
    exact h
  omega

/-! ### Powers of a root -/
theorem sN_geo (s p : Nat) (hs : s % p ≠ 1) (hp : Prm p) {n : Nat} (h1 : s ^ n % p = 1) : sN (fun i => s ^ i) n % p = 0 := by
  have h2 := hp.1
  have e : s * sN (fun i => s ^ i) n + 1 = sN (fun i => s ^ i) n + s ^ n := by
    clear h1
    induction n with
    | zero => simp [sN]
    | succ n ih => rw [sN, Nat.mul_add, ← Nat.pow_succ', Nat.add_right_comm, ih]
  obtain ⟨S, hS⟩ : ∃ S, sN (fun i => s ^ i) n = S := ⟨_, rfl⟩
  rw [hS] at e ⊢
  have e2 : (s * S + 1) % p = (S + 1) % p := by rw [e, Nat.add_mod, h1, Nat.add_mod S 1, Nat.mod_eq_of_lt (show 1 < p by omega)]
  have e3 : (s * S) % p = S % p := by
    have hz := congrArg (fun z => (z + (p - 1)) % p) e2
    simp only [Nat.mod_add_mod] at hz
    rw [show s * S + 1 + (p - 1) = s * S + p by omega, show S + 1 + (p - 1) = S + p by omega, Nat.add_mod_right, Nat.add_mod_right] at hz
    exact hz
  -- (s + (p - 1)) S is a multiple of p
  have e4 : (s + (p - 1)) * S % p = 0 := by
    rw [Nat.add_mul, Nat.add_mod, e3, ← Nat.add_mod, show S + (p - 1) * S = p * S by
      rw [show p * S = (1 + (p - 1)) * S by rw [show 1 + (p - 1) = p by omega], Nat.add_mul, Nat.one_mul]]
    exact Nat.mul_mod_right _ _
  rcases hp.prod _ _ e4 with h | h
  · exfalso
    apply hs
    have h3 := congrArg (fun z => (z + 1) % p) h
    simp only [Nat.mod_add_mod, Nat.zero_add] at h3
    rw [show s + (p - 1) + 1 = s + p by omega, Nat.add_mod_right, Nat.mod_eq_of_lt (show 1 < p by omega)] at h3
    exact h3
  · exact h
/-- The sum of n powers of a number of order n, of exponents 0, m, 2 m and so on. -/
theorem orth {w p n : Nat} (hp : Prm p) (h : OrdN w p n) (m : Nat) : sN (fun i => w ^ (i * m)) n % p = (if m % n = 0 then n else 0) % p := by
  have h2 := hp.1
  have e : sN (fun i => w ^ (i * m)) n = sN (fun i => (w ^ m) ^ i) n := sN_ext fun i _ => by rw [Nat.mul_comm, Nat.pow_mul]
  rw [e]
  by_cases hm : m % n = 0
  · rw [if_pos hm]
    have hs : w ^ m % p = 1 := (h m).2 hm
    have : sN (fun i => (w ^ m) ^ i) n % p = sN (fun _ => 1) n % p := sN_cong fun i _ => by rw [Nat.pow_mod, hs, Nat.one_pow]
    rw [this]
    congr 1
    clear this e hm h
    induction n with
    | zero => rfl
    | succ n ih => rw [sN, ih]
  · rw [if_neg hm]
    have hs : w ^ m % p ≠ 1 := fun e => hm ((h m).1 e)
    rw [sN_geo (w ^ m) p hs hp (by rw [← Nat.pow_mul]; exact (h _).2 (Nat.mul_mod_left _ _)), Nat.zero_mod]

/-! ### Transforms -/
/-- The sum that defines the i-th number, not cut. -/
def tS (w n : Nat) (x : Nat → Nat) (i : Nat) : Nat := sN (fun j => x j * w ^ (i * j)) n
theorem tS_cong {p w n : Nat} {x y : Nat → Nat} (h : ∀ j, j < n → x j % p = y j % p) (i : Nat) : tS w n x i % p = tS w n y i % p :=
  sN_cong fun j hj => by rw [Nat.mul_mod, h j hj, ← Nat.mul_mod]
/-- What stands opposite. -/
def opp (n c : Nat) : Nat := (n - c % n) % n
theorem opp_iff {n c j : Nat} (hn : 1 ≤ n) (hj : j < n) : (j + c) % n = 0 ↔ j = opp n c := by
  unfold opp
  have hc := Nat.mod_lt c (show 0 < n by omega)
  rw [Nat.add_mod, Nat.mod_eq_of_lt hj]
  obtain ⟨d, hd⟩ : ∃ d, c % n = d := ⟨_, rfl⟩
  rw [hd] at hc ⊢
  by_cases h0 : d = 0
  · subst h0
    rw [Nat.sub_zero, Nat.mod_self, Nat.add_zero, Nat.mod_eq_of_lt hj]
  · rw [Nat.mod_eq_of_lt (show n - d < n by omega)]
    constructor
    · intro h
      by_cases hl : j + d < n
      · rw [Nat.mod_eq_of_lt hl] at h; omega
      · rw [Nat.mod_eq_sub_mod (by omega), Nat.mod_eq_of_lt (by omega)] at h; omega
    · rintro rfl
      rw [show n - d + d = n by omega, Nat.mod_self]
theorem opp_lt {n : Nat} (hn : 1 ≤ n) (c : Nat) : opp n c < n := Nat.mod_lt _ (by omega)
/-- The transform's numbers, times the powers of exponents 0, c, 2 c .., summed: n times the number that stands opposite. -/
theorem tS_twice {w p n : Nat} (hp : Prm p) (hn : 1 ≤ n) (h : OrdN w p n) (x : Nat → Nat) (c : Nat) : sN (fun i => tS w n x i * w ^ (i * c)) n % p = n * x (opp n c) % p := by
  have e1 : sN (fun i => tS w n x i * w ^ (i * c)) n = sN (fun j => x j * sN (fun i => w ^ (i * (j + c))) n) n := by
    have a : sN (fun i => tS w n x i * w ^ (i * c)) n = sN (fun i => sN (fun j => x j * w ^ (i * (j + c))) n) n := sN_ext fun i _ => by
      unfold tS
      rw [← sN_mulr]
      exact sN_ext fun j _ => by rw [Nat.mul_assoc, ← Nat.pow_add, Nat.mul_add]
    rw [a, sN_swap]
    exact sN_ext fun j _ => sN_mul _ _ _
  rw [e1]
  have e2 : sN (fun j => x j * sN (fun i => w ^ (i * (j + c))) n) n % p = sN (fun j => if j = opp n c then n * x j else 0) n % p := sN_cong fun j hj => by
    rw [Nat.mul_mod, orth hp h]
    by_cases e : j = opp n c
    · rw [if_pos ((opp_iff hn hj).2 e), if_pos e, ← Nat.mul_mod, Nat.mul_comm]
    · rw [if_neg (fun k => e ((opp_iff hn hj).1 k)), if_neg e, Nat.zero_mod, Nat.mul_zero, Nat.zero_mod]
  rw [e2, sN_one _ (opp n c) n (opp_lt hn c) (fun j _ hne => if_neg hne), if_pos rfl]
theorem opp_back {n k : Nat} (hk : k < n) : opp n ((n - 1) * k) = k := by
  refine ((opp_iff (by omega) hk).1 ?_).symm
  rw [show k + (n - 1) * k = n * k by
    rw [show n * k = (1 + (n - 1)) * k by rw [show 1 + (n - 1) = n by omega], Nat.add_mul, Nat.one_mul]]
  exact Nat.mul_mod_right _ _
theorem opp_opp {n k : Nat} (hk : k < n) : opp n (opp n k) = k := by
  refine ((opp_iff (by omega) hk).1 ?_).symm
  have := (opp_iff (c := k) (by omega) (opp_lt (n := n) (by omega) k)).2 rfl
  rw [Nat.add_comm]; exact this
/-- w to the exponents that stand opposite are v's. -/
theorem pow_opp {w p n : Nat} (h : OrdN w p n) (hn : 1 ≤ n) (i j : Nat) : w ^ (opp n i * j) % p = w ^ (i * ((n - 1) * j)) % p := by
  rw [h.mod, h.mod (i * ((n - 1) * j))]
  congr 2
  have e : (opp n i + i) % n = 0 := (opp_iff hn (opp_lt hn i)).2 rfl
  have e1 : (opp n i * j + i * j) % n = 0 := by rw [← Nat.add_mul, Nat.mul_mod, e, Nat.zero_mul, Nat.zero_mod]
  have e2 : (i * ((n - 1) * j) + i * j) % n = 0 := by
    rw [← Nat.mul_add, show (n - 1) * j + j = n * j by rw [show n * j = ((n - 1) + 1) * j by rw [show n - 1 + 1 = n by omega], Nat.add_mul, Nat.one_mul], Nat.mul_left_comm]
    exact Nat.mul_mod_right _ _
  obtain ⟨a, ha⟩ : ∃ a, opp n i * j = a := ⟨_, rfl⟩
  obtain ⟨b, hb⟩ : ∃ b, i * ((n - 1) * j) = b := ⟨_, rfl⟩
  obtain ⟨c, hc⟩ : ∃ c, i * j = c := ⟨_, rfl⟩
  rw [ha, hc] at e1
  rw [hb, hc] at e2
  rw [ha, hb]
  -- both are -c
  have k : ∀ z, (z + c) % n = 0 → z % n = opp n c := fun z hz => by
    have hz' : (z % n + c) % n = 0 := by rw [Nat.mod_add_mod]; exact hz
    exact (opp_iff hn (Nat.mod_lt _ (by omega))).1 hz'
  rw [k a e1, k b e2]
end Go.Proofs.YtphpllachnhfbaaGreat

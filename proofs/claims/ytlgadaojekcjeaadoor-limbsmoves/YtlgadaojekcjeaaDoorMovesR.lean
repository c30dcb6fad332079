/-
  limbs.Left and limbs.Right are products with, and quotients by, powers of two.
-/
import Derived.Test.YtlgadaojekcjeaaDoorMovesQ
namespace Go.Proofs.YtlgadaojekcjeaaDoor
open Go.RowKit

theorem toNat64 (p : Nat) : (64 - (p : Int)).toNat = 64 - p := by omega
theorem sl_eq (n p : Nat) (hp : p < 64) : IntKind.u64.wrap ((n : Int) * 2 ^ ((p : Nat) : Int).toNat) = ((n % 2 ^ (64 - p) * 2 ^ p : Nat) : Int) := by
  have := shl_nat n (2 ^ p) (2 ^ (64 - p)) (two64 p hp)
  rw [← this, Int.toNat_natCast, Int.natCast_pow]
  rfl
theorem rl_eq (n p : Nat) (hp : p < 64) : IntKind.u64.wrap ((n : Int) * 2 ^ (64 - ((p : Nat) : Int)).toNat) = ((n % 2 ^ p * 2 ^ (64 - p) : Nat) : Int) := by
  have := shl_nat n (2 ^ (64 - p)) (2 ^ p) (by rw [Nat.mul_comm]; exact two64 p hp)
  rw [← this, toNat64, Int.natCast_pow]
  rfl
theorem sr_eq (n p : Nat) : (n : Int) / 2 ^ (64 - ((p : Nat) : Int)).toNat = ((n / 2 ^ (64 - p) : Nat) : Int) := by
  rw [toNat64, Int.natCast_ediv, Int.natCast_pow]
  rfl
theorem rr_eq (n p : Nat) : (n : Int) / 2 ^ ((p : Nat) : Int).toNat = ((n / 2 ^ p : Nat) : Int) := by
  rw [Int.toNat_natCast, Int.natCast_ediv, Int.natCast_pow]
  rfl
theorem slor (n m p : Nat) (hp : p < 64) (hn : n < 18446744073709551616) (hm : m < 18446744073709551616) : bits .or .u64 (IntKind.u64.wrap ((n : Int) * 2 ^ ((p : Nat) : Int).toNat)) ((m : Int) / 2 ^ (64 - ((p : Nat) : Int)).toNat) = ((n % 2 ^ (64 - p) * 2 ^ p + m / 2 ^ (64 - p) : Nat) : Int) := by
  rw [sl_eq n p hp, sr_eq]
  exact or_nat _ _ _ p rfl (cut m _ _ (two64 p hp) hm (pw_pos _) (pw_pos _)).2.1 (cut n _ _ (two64 p hp) hn (pw_pos _) (pw_pos _)).2.2
theorem rror (m n p : Nat) (hp : p < 64) (hm : m < 18446744073709551616) (hn : n < 18446744073709551616) : bits .or .u64 ((m : Int) / 2 ^ ((p : Nat) : Int).toNat) (IntKind.u64.wrap ((n : Int) * 2 ^ (64 - ((p : Nat) : Int)).toNat)) = ((n % 2 ^ p * 2 ^ (64 - p) + m / 2 ^ p : Nat) : Int) := by
  rw [rl_eq n p hp, rr_eq]
  have h : 2 ^ (64 - p) * 2 ^ p = 18446744073709551616 := by rw [Nat.mul_comm]; exact two64 p hp
  exact or_nat' _ _ _ (64 - p) rfl (cut m _ _ h hm (pw_pos _) (pw_pos _)).2.1 (cut n _ _ h hn (pw_pos _) (pw_pos _)).2.2
theorem wrd_small (X : Nat) (h : X < 2 ^ 192) : wrd X 192 = 0 := by
  unfold wrd
  rw [Nat.div_eq_of_lt h]
  rfl

theorem left_bits (n0 n1 n2 : Nat) (k0 : n0 < 18446744073709551616) (k1 : n1 < 18446744073709551616) (k2 : n2 < 18446744073709551616) (n : Int) (c : Nat) (hc : (n < 0 ∧ c = 0) ∨ (192 < n ∧ c = 192) ∨ (0 ≤ n ∧ n ≤ 192 ∧ n = c)) (w : World) :
    Calls Tryd.prog 26 #[.agg #[.int .u64 n0, .int .u64 n1, .int .u64 n2], .int .i64 n] w fun e w' => e = .returned (.agg #[.int .u64 (wrd (nat3 n0 n1 n2 * 2 ^ c) 0), .int .u64 (wrd (nat3 n0 n1 n2 * 2 ^ c) 64), .int .u64 (wrd (nat3 n0 n1 n2 * 2 ^ c) 128)]) ∧ Below w.heap.size w w' := by
  obtain ⟨p, hpe⟩ : ∃ p, p = c % 64 := ⟨_, rfl⟩
  have hp : p < 64 := by omega
  obtain ⟨e0, e1, e2⟩ := left_words n0 n1 n2 p hp k0 k1 k2
  have hq : c / 64 = 0 ∨ c / 64 = 1 ∨ c / 64 = 2 ∨ c / 64 = 3 := by omega
  rcases hq with h0 | h1 | h2 | h3
  · have hS : ∀ w, Calls Tryd.prog 39 #[.int .i64 n] w fun e w' => e = .returned (.tuple #[.int .i64 0, .int .u64 (p : Nat)]) ∧ w' = w := by
      have := fun w => split_walk n c hc w
      rw [h0, ← hpe] at this
      exact this
    have := left0 n0 n1 n2 n p (by omega) (by omega) hS w
    have ec : nat3 n0 n1 n2 * 2 ^ c = nat3 n0 n1 n2 * 2 ^ p := by
      rw [show c = p by omega]
    rw [slor _ _ _ hp k1 k0, slor _ _ _ hp k2 k1, sl_eq _ _ hp, e0, e1, e2] at this
    rw [ec]
    exact this
  · have hS : ∀ w, Calls Tryd.prog 39 #[.int .i64 n] w fun e w' => e = .returned (.tuple #[.int .i64 1, .int .u64 (p : Nat)]) ∧ w' = w := by
      have := fun w => split_walk n c hc w
      rw [h1, ← hpe] at this
      exact this
    have := left1 n0 n1 n2 n p (by omega) (by omega) hS w
    have ec : nat3 n0 n1 n2 * 2 ^ c = nat3 n0 n1 n2 * 2 ^ p * 18446744073709551616 := by
      rw [show c = p + 64 by omega, Nat.pow_add]
      rw [show (2 : Nat) ^ 64 = 18446744073709551616 from rfl]
      simp only [Nat.mul_assoc]
    obtain ⟨u00, u01, u02⟩ := wrd_up (nat3 n0 n1 n2 * 2 ^ p)
    rw [slor _ _ _ hp k1 k0, sl_eq _ _ hp, e0, e1] at this
    rw [ec, u00, u01, u02]
    exact this
  · have hS : ∀ w, Calls Tryd.prog 39 #[.int .i64 n] w fun e w' => e = .returned (.tuple #[.int .i64 2, .int .u64 (p : Nat)]) ∧ w' = w := by
      have := fun w => split_walk n c hc w
      rw [h2, ← hpe] at this
      exact this
    have := left2 n0 n1 n2 n p (by omega) (by omega) hS w
    have ec : nat3 n0 n1 n2 * 2 ^ c = nat3 n0 n1 n2 * 2 ^ p * 18446744073709551616 * 18446744073709551616 := by
      rw [show c = p + 128 by omega, Nat.pow_add]
      rw [show (2 : Nat) ^ 128 = 18446744073709551616 * 18446744073709551616 from rfl]
      simp only [Nat.mul_assoc]
    obtain ⟨u00, u01, u02⟩ := wrd_up (nat3 n0 n1 n2 * 2 ^ p)
    obtain ⟨u10, u11, u12⟩ := wrd_up (nat3 n0 n1 n2 * 2 ^ p * 18446744073709551616)
    rw [sl_eq _ _ hp, e0] at this
    rw [ec, u10, u11, u12, u00, u01]
    exact this
  · have hS : ∀ w, Calls Tryd.prog 39 #[.int .i64 n] w fun e w' => e = .returned (.tuple #[.int .i64 3, .int .u64 (p : Nat)]) ∧ w' = w := by
      have := fun w => split_walk n c hc w
      rw [h3, ← hpe] at this
      exact this
    have := left3 n0 n1 n2 n p (by omega) (by omega) hS w
    have ec : nat3 n0 n1 n2 * 2 ^ c = nat3 n0 n1 n2 * 2 ^ p * 18446744073709551616 * 18446744073709551616 * 18446744073709551616 := by
      rw [show c = p + 192 by omega, Nat.pow_add]
      rw [show (2 : Nat) ^ 192 = 18446744073709551616 * 18446744073709551616 * 18446744073709551616 from rfl]
      simp only [Nat.mul_assoc]
    obtain ⟨u00, u01, u02⟩ := wrd_up (nat3 n0 n1 n2 * 2 ^ p)
    obtain ⟨u10, u11, u12⟩ := wrd_up (nat3 n0 n1 n2 * 2 ^ p * 18446744073709551616)
    obtain ⟨u20, u21, u22⟩ := wrd_up (nat3 n0 n1 n2 * 2 ^ p * 18446744073709551616 * 18446744073709551616)
    skip
    rw [ec, u20, u21, u22, u10, u11, u00]
    exact this


theorem right_bits (n0 n1 n2 : Nat) (k0 : n0 < 18446744073709551616) (k1 : n1 < 18446744073709551616) (k2 : n2 < 18446744073709551616) (n : Int) (c : Nat) (hc : (n < 0 ∧ c = 0) ∨ (192 < n ∧ c = 192) ∨ (0 ≤ n ∧ n ≤ 192 ∧ n = c)) (w : World) :
    Calls Tryd.prog 27 #[.agg #[.int .u64 n0, .int .u64 n1, .int .u64 n2], .int .i64 n] w fun e w' => e = .returned (.agg #[.int .u64 (wrd (nat3 n0 n1 n2 / 2 ^ c) 0), .int .u64 (wrd (nat3 n0 n1 n2 / 2 ^ c) 64), .int .u64 (wrd (nat3 n0 n1 n2 / 2 ^ c) 128)]) ∧ Below w.heap.size w w' := by
  obtain ⟨p, hpe⟩ : ∃ p, p = c % 64 := ⟨_, rfl⟩
  have hp : p < 64 := by omega
  obtain ⟨e0, e1, e2, e3⟩ := right_words n0 n1 n2 p hp k0 k1 k2
  have hlt : nat3 n0 n1 n2 / 2 ^ p < 2 ^ 192 := Nat.lt_of_le_of_lt (Nat.div_le_self _ _) (nat3_lt n0 n1 n2 (wd_nat k0) (wd_nat k1) (wd_nat k2))
  have hq : c / 64 = 0 ∨ c / 64 = 1 ∨ c / 64 = 2 ∨ c / 64 = 3 := by omega
  rcases hq with h0 | h1 | h2 | h3
  · have hS : ∀ w, Calls Tryd.prog 39 #[.int .i64 n] w fun e w' => e = .returned (.tuple #[.int .i64 0, .int .u64 (p : Nat)]) ∧ w' = w := by
      have := fun w => split_walk n c hc w
      rw [h0, ← hpe] at this
      exact this
    have := right0 n0 n1 n2 n p (by omega) (by omega) hS w
    have ec : nat3 n0 n1 n2 / 2 ^ c = nat3 n0 n1 n2 / 2 ^ p := by
      rw [show c = p by omega]
    rw [rror _ _ _ hp k0 k1, rror _ _ _ hp k1 k2, rr_eq, e0, e1, e2] at this
    rw [ec]
    exact this
  · have hS : ∀ w, Calls Tryd.prog 39 #[.int .i64 n] w fun e w' => e = .returned (.tuple #[.int .i64 1, .int .u64 (p : Nat)]) ∧ w' = w := by
      have := fun w => split_walk n c hc w
      rw [h1, ← hpe] at this
      exact this
    have := right1 n0 n1 n2 n p (by omega) (by omega) hS w
    have ec : nat3 n0 n1 n2 / 2 ^ c = nat3 n0 n1 n2 / 2 ^ p / 18446744073709551616 := by
      rw [show c = p + 64 by omega, Nat.pow_add]
      simp only [Nat.div_div_eq_div_mul]
    obtain ⟨u00, u01, u02⟩ := wrd_down (nat3 n0 n1 n2 / 2 ^ p)
    rw [rror _ _ _ hp k1 k2, rr_eq, e1, e2] at this
    rw [ec, u00, u01, u02, ← e3]
    exact this
  · have hS : ∀ w, Calls Tryd.prog 39 #[.int .i64 n] w fun e w' => e = .returned (.tuple #[.int .i64 2, .int .u64 (p : Nat)]) ∧ w' = w := by
      have := fun w => split_walk n c hc w
      rw [h2, ← hpe] at this
      exact this
    have := right2 n0 n1 n2 n p (by omega) (by omega) hS w
    have ec : nat3 n0 n1 n2 / 2 ^ c = nat3 n0 n1 n2 / 2 ^ p / 18446744073709551616 / 18446744073709551616 := by
      rw [show c = p + 128 by omega, Nat.pow_add]
      simp only [Nat.div_div_eq_div_mul, Nat.mul_assoc]
    obtain ⟨u00, u01, u02⟩ := wrd_down (nat3 n0 n1 n2 / 2 ^ p)
    obtain ⟨u10, u11, u12⟩ := wrd_down (nat3 n0 n1 n2 / 2 ^ p / 18446744073709551616)
    have big1 : wrd (nat3 n0 n1 n2 / 2 ^ p / 18446744073709551616) 192 = 0 := wrd_small _ (Nat.lt_of_le_of_lt (Nat.div_le_self _ _) hlt)
    rw [rr_eq, e2] at this
    rw [ec, u10, u11, u12, u01, u02, big1, ← e3]
    exact this
  · have hS : ∀ w, Calls Tryd.prog 39 #[.int .i64 n] w fun e w' => e = .returned (.tuple #[.int .i64 3, .int .u64 (p : Nat)]) ∧ w' = w := by
      have := fun w => split_walk n c hc w
      rw [h3, ← hpe] at this
      exact this
    have := right3 n0 n1 n2 n p (by omega) (by omega) hS w
    have ec : nat3 n0 n1 n2 / 2 ^ c = nat3 n0 n1 n2 / 2 ^ p / 18446744073709551616 / 18446744073709551616 / 18446744073709551616 := by
      rw [show c = p + 192 by omega, Nat.pow_add]
      simp only [Nat.div_div_eq_div_mul, Nat.mul_assoc]
    obtain ⟨u00, u01, u02⟩ := wrd_down (nat3 n0 n1 n2 / 2 ^ p)
    obtain ⟨u10, u11, u12⟩ := wrd_down (nat3 n0 n1 n2 / 2 ^ p / 18446744073709551616)
    obtain ⟨u20, u21, u22⟩ := wrd_down (nat3 n0 n1 n2 / 2 ^ p / 18446744073709551616 / 18446744073709551616)
    have big1 : wrd (nat3 n0 n1 n2 / 2 ^ p / 18446744073709551616) 192 = 0 := wrd_small _ (Nat.lt_of_le_of_lt (Nat.div_le_self _ _) hlt)
    have big2 : wrd (nat3 n0 n1 n2 / 2 ^ p / 18446744073709551616 / 18446744073709551616) 192 = 0 := wrd_small _ (Nat.lt_of_le_of_lt (Nat.div_le_self _ _) (Nat.lt_of_le_of_lt (Nat.div_le_self _ _) hlt))
    skip
    rw [ec, u20, u21, u22, u11, u12, u02, big1, big2, ← e3]
    exact this

end Go.Proofs.YtlgadaojekcjeaaDoor

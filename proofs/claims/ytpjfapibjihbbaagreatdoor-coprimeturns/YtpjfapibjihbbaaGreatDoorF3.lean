/-
  The contract of math/bits.Mul64: both halves of a product. No condition but that arguments are words.
-/
import Derived.Test.YtpjfapibjihbbaaGreatDoorF1
import Derived.Shelf.Small.Bits
import Derived.Shelf.Bits.Mul64
import Derived.Shelf.Spec.BitsCarry
import Derived.Shelf.Strconv.Itoa0
namespace Go.Proofs
set_option linter.unusedVariables false
open Go.Shelf
def Tryz.lays264_ren : Go.Shelf.Ren := ⟨fun | 264 => 128 | n => n, fun | 53 => 22 | 46 => 140 | n => n, fun | n => n⟩
theorem Tryz.lays264 : Go.Proofs.Lays.n264 Tryz.prog Tryz.lays264_ren := {
  mixed := by kernel_rfl
  f264 := Tryz.func128.trans (congrArg some (by kernel_rfl))
  t46 := Tryz.underlying140
  a46 := Tryz.isAgg140
  z46 := Tryz.sizeOf140
  v46 := Tryz.zeroValue140
  t53 := Tryz.underlying22
  a53 := Tryz.isAgg22
  z53 := Tryz.sizeOf22
  v53 := Tryz.zeroValue22 }
open Go.RowKit Go.Lib in
theorem Tryz.bits_Mul64 (x y : Nat) (hx : x < 18446744073709551616) (hy : y < 18446744073709551616) (w : World) :
    Calls Tryz.prog 128 #[.int .u64 x, .int .u64 y] w fun e w' => e = .returned (.tuple #[.int .u64 ((x * y / 18446744073709551616 : Nat) : Int), .int .u64 ((x * y % 18446744073709551616 : Nat) : Int)]) ∧ w' = w := Any.bits_Mul64 Tryz.lays264 x y hx hy w
end Go.Proofs
namespace Go.Proofs.YtpjfapibjihbbaaGreatDoor
open Go.RowKit Go.Shelf
theorem mul64_nat (a b : Nat) (ha : a < 18446744073709551616) (hb : b < 18446744073709551616) :
    Ans 128 #[.int .u64 a, .int .u64 b] (.tuple #[.int .u64 ((a * b / 18446744073709551616 : Nat) : Int), .int .u64 ((a * b % 18446744073709551616 : Nat) : Int)]) :=
  fun w => (Tryz.bits_Mul64 a b ha hb w).mono fun _ _ ⟨he, hw⟩ => ⟨he, 0, hw⟩
/-- bits.Mul64: both halves of a product. -/
theorem mul64_any (a b : Int) (ha : Wd a) (hb : Wd b) : ∃ h l : Int, Wd h ∧ Wd l ∧ h * 18446744073709551616 + l = a * b ∧ Ans 128 #[.int .u64 a, .int .u64 b] (.tuple #[.int .u64 h, .int .u64 l]) := by
  obtain ⟨a, rfl, ka⟩ := wd_nat ha
  obtain ⟨b, rfl, kb⟩ := wd_nat hb
  have hp : a * b ≤ 18446744073709551615 * 18446744073709551615 := Nat.mul_le_mul (by omega) (by omega)
  refine ⟨((a * b / 18446744073709551616 : Nat) : Int), ((a * b % 18446744073709551616 : Nat) : Int), ⟨by omega, by omega⟩, ⟨by omega, by omega⟩, ?_, mul64_nat a b ka kb⟩
  rw [← Int.natCast_mul]
  omega
end Go.Proofs.YtpjfapibjihbbaaGreatDoor
/-
  The contract of math/bits.Add64, by its entry: a word and a carry.
-/
namespace Go.Proofs.YtpjfapibjihbbaaGreatDoor
set_option linter.unusedVariables false
open Go.RowKit Go.Shelf

theorem add64n (x y c : Nat) (hc : c ≤ 1) (w : World) :
    (callFunc 146 #[.int .u64 x, .int .u64 y, .int .u64 c]).run Tryz.prog w =
      .ok (.value (.tuple #[.int .u64 (((x + y + c) % 18446744073709551616 : Nat) : Int), .int .u64 (((x + y + c) / 18446744073709551616 : Nat) : Int)])) w := by
  rw [run_callFunc_extern Tryz.func146 (by kernel_rfl) (by kernel_rfl) (by kernel_rfl) (e := add64Entry) (by kernel_rfl), run_add64 x y c (by omega) (by omega) (by omega) (by omega)]
  simp only [Result.andThen]
  congr 5 <;> omega

/-- bits.Add64: a word and a carry. -/
theorem add64 (x y c : Int) (hx : Wd x) (hy : Wd y) (hc : c = 0 ∨ c = 1) :
    ∃ s k : Int, Wd s ∧ (k = 0 ∨ k = 1) ∧ s + 18446744073709551616 * k = x + y + c ∧
      ∀ w, (callFunc 146 #[.int .u64 x, .int .u64 y, .int .u64 c]).run Tryz.prog w = .ok (.value (.tuple #[.int .u64 s, .int .u64 k])) w := by
  obtain ⟨hx0, hx1⟩ := hx
  obtain ⟨hy0, hy1⟩ := hy
  obtain ⟨x, rfl⟩ := Int.eq_ofNat_of_zero_le hx0
  obtain ⟨y, rfl⟩ := Int.eq_ofNat_of_zero_le hy0
  obtain ⟨c, rfl⟩ := Int.eq_ofNat_of_zero_le (show 0 ≤ c by omega)
  exact ⟨_, _, ⟨by omega, by omega⟩, by omega, by omega, fun w => add64n x y c (by omega) w⟩
end Go.Proofs.YtpjfapibjihbbaaGreatDoor
/-
  The contract of math/bits.Len64: how many bits a word has.
-/
namespace Go.Proofs
set_option linter.unusedVariables false
open Go.Shelf
def Tryz.lays129_ren : Go.Shelf.Ren := ⟨fun | 129 => 124 | n => n, fun | 53 => 22 | 3 => 3 | 4 => 4 | 46 => 140 | 5 => 5 | 9 => 9 | n => n, fun | n => n⟩
theorem Tryz.lays129 : Go.Proofs.Lays.n129 Tryz.prog Tryz.lays129_ren := {
  mixed := by kernel_rfl
  f129 := Tryz.func124.trans (congrArg some (by kernel_rfl))
  t3 := Tryz.underlying3
  a3 := Tryz.isAgg3
  z3 := Tryz.sizeOf3
  v3 := Tryz.zeroValue3
  t4 := Tryz.underlying4
  a4 := Tryz.isAgg4
  z4 := Tryz.sizeOf4
  v4 := Tryz.zeroValue4
  t5 := Tryz.underlying5
  a5 := Tryz.isAgg5
  z5 := Tryz.sizeOf5
  v5 := Tryz.zeroValue5
  t9 := Tryz.underlying9
  a9 := Tryz.isAgg9
  z9 := Tryz.sizeOf9
  v9 := Tryz.zeroValue9
  t46 := Tryz.underlying140
  a46 := Tryz.isAgg140
  z46 := Tryz.sizeOf140
  v46 := Tryz.zeroValue140
  t53 := Tryz.underlying22
  a53 := Tryz.isAgg22
  z53 := Tryz.sizeOf22
  v53 := Tryz.zeroValue22 }
end Go.Proofs
namespace Go.Proofs.YtpjfapibjihbbaaGreatDoor
open Go.RowKit Go.Shelf
/-- How many bits. -/
theorem len64_any (x : Nat) (h : x < 18446744073709551616) : Ans 124 #[.int .u64 x] (.int .i64 (Lib.bitLen x : Nat)) :=
  fun w => (Any.bits_Len64 Tryz.lays129 x w (by omega) (by omega)).mono fun _ _ ⟨he, hw⟩ => ⟨he, 0, hw⟩
end Go.Proofs.YtpjfapibjihbbaaGreatDoor
/-
  The plain mathematics of Montgomery's products: halves modulo an odd number, what a shrunk number is, the inverse modulo 2^64.
-/
namespace Go.Proofs.YtpjfapibjihbbaaGreatDoor
set_option linter.unusedVariables false

/-- A rest by 2^64, modulo an odd number: sixty-four times by its half. -/
def dn (a m : Nat) : Nat := a * ((m + 1) / 2) ^ 64 % m
/-- A rest times 2^64. -/
def up (a m : Nat) : Nat := a * 18446744073709551616 % m

theorem half_one (m : Nat) (h : m % 2 = 1) (h1 : 1 < m) : (2 * ((m + 1) / 2)) % m = 1 := by
  rw [show 2 * ((m + 1) / 2) = 1 + m by omega, Nat.add_mod_right, Nat.mod_eq_of_lt h1]
theorem R_one (m : Nat) (h : m % 2 = 1) (h1 : 1 < m) : (18446744073709551616 * ((m + 1) / 2) ^ 64) % m = 1 := by
  rw [show (18446744073709551616 : Nat) = 2 ^ 64 by decide, ← Nat.mul_pow, Nat.pow_mod, half_one m h h1, Nat.one_pow, Nat.mod_eq_of_lt h1]
theorem dn_lt (a m : Nat) (h : 0 < m) : dn a m < m := Nat.mod_lt _ h
theorem up_lt (a m : Nat) (h : 0 < m) : up a m < m := Nat.mod_lt _ h
theorem dn_mod (a m : Nat) : dn (a % m) m = dn a m := by
  unfold dn; rw [Nat.mod_mul_mod]
theorem up_mod (a m : Nat) : up (a % m) m = up a m := by
  unfold up; rw [Nat.mod_mul_mod]
theorem dn_R (a m : Nat) (h : m % 2 = 1) (h1 : 1 < m) : dn (a * 18446744073709551616) m = a % m := by
  unfold dn
  rw [Nat.mul_assoc, Nat.mul_mod, R_one m h h1, Nat.mul_one, Nat.mod_mod]
theorem R_dn (a m : Nat) (h : m % 2 = 1) (h1 : 1 < m) : dn a m * 18446744073709551616 % m = a % m := by
  unfold dn
  rw [Nat.mod_mul_mod, Nat.mul_assoc, Nat.mul_comm (_ ^ 64), Nat.mul_mod, R_one m h h1, Nat.mul_one, Nat.mod_mod]
theorem dn_unique (r a m : Nat) (h : m % 2 = 1) (h1 : 1 < m) (hr : r < m) (e : r * 18446744073709551616 % m = a % m) : r = dn a m := by
  rw [← dn_mod a, ← e, dn_mod, dn_R r m h h1, Nat.mod_eq_of_lt hr]
theorem dn_up (a m : Nat) (h : m % 2 = 1) (h1 : 1 < m) : dn (up a m) m = a % m := by
  unfold up; rw [dn_mod, dn_R a m h h1]
theorem up_dn (a m : Nat) (h : m % 2 = 1) (h1 : 1 < m) : up (dn a m) m = a % m := R_dn a m h h1
theorem dn_mul (x y m : Nat) : dn (x * y) m = x * dn y m % m := by
  unfold dn; rw [Nat.mul_mod_mod, Nat.mul_assoc]
theorem dn_mul' (x y m : Nat) : dn (x * y) m = dn x m * y % m := by
  rw [Nat.mul_comm x, dn_mul, Nat.mul_comm]
theorem dn_add (x y m : Nat) : dn (x + y) m = (dn x m + dn y m) % m := by
  unfold dn; rw [Nat.add_mul, Nat.add_mod]
theorem up_add (x y m : Nat) : up (x + y) m = (up x m + up y m) % m := by
  unfold up; rw [Nat.add_mul, Nat.add_mod]
theorem dn_dn_mul (x y m : Nat) : dn (dn (x * y) m) m = dn x m * dn y m % m := by
  rw [dn_mul x y, dn_mod, dn_mul']
/-- In. -/
theorem dn_square (a s m : Nat) (h : m % 2 = 1) (h1 : 1 < m) (hs : s = 18446744073709551616 * 18446744073709551616 % m) : dn (a * s) m = up a m := by
  unfold up
  rw [← dn_R _ m h h1, ← dn_mod, ← dn_mod (a * 18446744073709551616 * 18446744073709551616), hs, Nat.mul_mod_mod, Nat.mul_assoc]

/-- What is shrunk: the low word goes, and what is left is below twice the modulus. -/
theorem shrink_low (m g l q a b : Nat) (hg : (m * g + 1) % 18446744073709551616 = 0) (hq : q = l * g % 18446744073709551616) (hab : a * 18446744073709551616 + b = q * m) : (l + b) % 18446744073709551616 = 0 := by
  have e1 : b % 18446744073709551616 = q * m % 18446744073709551616 := by rw [← hab, Nat.add_comm, Nat.add_mul_mod_self_right]
  rw [Nat.add_mod, e1, hq, Nat.mod_mul_mod, ← Nat.add_mod, show l + l * g * m = l * (m * g + 1) by rw [Nat.mul_add, Nat.mul_one, Nat.mul_assoc, Nat.mul_comm g m, Nat.add_comm], Nat.mul_mod, hg, Nat.mul_zero, Nat.zero_mod]
theorem shrink_sum (R h a k l b z : Nat) (hab : a * R + b = z) (hsk : R * k = l + b) : (h + a + k) * R = h * R + l + z := by
  rw [Nat.add_mul, Nat.add_mul, Nat.mul_comm k R, hsk, ← hab]; omega
theorem shrink_lt (t m h l z : Nat) (e : t * 18446744073709551616 = h * 18446744073709551616 + l + z) (hh : h < m) (hl : l < 18446744073709551616) (hz : z < 18446744073709551616 * m) : t < 2 * m := by omega
theorem shrink_math (m g h l q a b s k : Nat) (hm : m % 2 = 1) (h1 : 1 < m) (hg : (m * g + 1) % 18446744073709551616 = 0) (hh : h < m) (hl : l < 18446744073709551616) (hq : q = l * g % 18446744073709551616)
    (hab : a * 18446744073709551616 + b = q * m) (hb : b < 18446744073709551616) (hs : s < 18446744073709551616) (hsk : s + 18446744073709551616 * k = l + b) :
    h + a + k < 2 * m ∧ (if m ≤ h + a + k then h + a + k - m else h + a + k) = dn (h * 18446744073709551616 + l) m := by
  have h0 := shrink_low m g l q a b hg hq hab
  have hs0 : s = 0 := by omega
  subst hs0
  have hqm : q * m < 18446744073709551616 * m := Nat.mul_lt_mul_of_pos_right (by rw [hq]; exact Nat.mod_lt _ (by omega)) (by omega)
  have e : (h + a + k) * 18446744073709551616 = h * 18446744073709551616 + l + q * m := shrink_sum _ h a k l b (q * m) hab (by rw [← hsk, Nat.zero_add])
  have hlt : h + a + k < 2 * m := shrink_lt _ m h l _ e hh hl hqm
  refine ⟨hlt, dn_unique _ _ _ hm h1 (by split <;> omega) ?_⟩
  have e2 : (h + a + k) * 18446744073709551616 % m = (h * 18446744073709551616 + l) % m := by rw [e, Nat.add_mul_mod_self_right]
  split
  · next hle =>
    have hle2 : m * 18446744073709551616 ≤ (h + a + k) * 18446744073709551616 := Nat.mul_le_mul_right _ hle
    rw [← e2, Nat.sub_mul, Nat.sub_mul_mod hle2]
  · exact e2

/-- Newton's step modulo a power of 2. -/
theorem newton (m x d e : Int) (hd : d ∣ 1 - m * x) (he : e ∣ d * d) (hR : e ∣ 18446744073709551616) : e ∣ 1 - m * (x * (2 - m * x) % 18446744073709551616) := by
  obtain ⟨t, ht⟩ := hd
  have h1 : e ∣ 1 - m * (x * (2 - m * x)) := by
    have : 1 - m * (x * (2 - m * x)) = d * d * (t * t) := by
      have e1 : (1 - m * x) * (1 - m * x) = d * d * (t * t) := by rw [ht]; grind
      rw [← e1]; grind
    rw [this]; exact Int.dvd_trans he (Int.dvd_mul_right _ _)
  have h2 : 1 - m * (x * (2 - m * x) % 18446744073709551616) = 1 - m * (x * (2 - m * x)) + 18446744073709551616 * (m * (x * (2 - m * x) / 18446744073709551616)) := by
    have := Int.emod_add_mul_ediv (x * (2 - m * x)) 18446744073709551616
    generalize x * (2 - m * x) / 18446744073709551616 = u at *
    generalize x * (2 - m * x) % 18446744073709551616 = v at *
    rw [← this]; grind
  rw [h2]
  exact Int.dvd_add h1 (Int.dvd_trans hR (Int.dvd_mul_right _ _))
/-- How many bits are right behind so many steps. -/
def right : Nat → Int
  | 0 => 8
  | 1 => 64
  | 2 => 4096
  | 3 => 16777216
  | 4 => 281474976710656
  | _ => 18446744073709551616
theorem newton_at (m x : Int) (k : Nat) (h : right k ∣ 1 - m * x) (hk : k < 5) : right (k + 1) ∣ 1 - m * (x * (2 - m * x) % 18446744073709551616) := by
  refine newton m x (right k) (right (k + 1)) h ?_ ?_
  · rcases (show k = 0 ∨ k = 1 ∨ k = 2 ∨ k = 3 ∨ k = 4 by omega) with rfl | rfl | rfl | rfl | rfl <;> (unfold right; decide)
  · rcases (show k = 0 ∨ k = 1 ∨ k = 2 ∨ k = 3 ∨ k = 4 by omega) with rfl | rfl | rfl | rfl | rfl <;> (unfold right; decide)
theorem newton_start (m : Int) (h : m % 2 = 1) : right 0 ∣ 1 - m * m := by
  show (8 : Int) ∣ _
  obtain ⟨t, rfl⟩ : ∃ t, m = 2 * t + 1 := ⟨m / 2, by omega⟩
  have e : 1 - (2 * t + 1) * (2 * t + 1) = -4 * (t * (t + 1)) := by grind
  have h2 : t * (t + 1) % 2 = 0 := by
    rw [Int.mul_emod]
    rcases (show t % 2 = 0 ∨ t % 2 = 1 by omega) with h | h
    · rw [h]; simp
    · rw [show (t + 1) % 2 = 0 by omega]; simp
  rw [e]
  generalize t * (t + 1) = u at *
  omega
theorem newton_end (m x : Nat) (h : right 5 ∣ 1 - (m : Int) * x) (hx : x < 18446744073709551616) : (m * ((18446744073709551616 - x) % 18446744073709551616) + 1) % 18446744073709551616 = 0 := by
  unfold right at h
  obtain ⟨t, ht⟩ := h
  have e : (m * ((18446744073709551616 - x) % 18446744073709551616) + 1) % 18446744073709551616 = (m * (18446744073709551616 - x) + 1) % 18446744073709551616 := by
    rw [Nat.add_mod, Nat.mul_mod_mod, ← Nat.add_mod]
  rw [e]
  have e2 : ((m * (18446744073709551616 - x) + 1 : Nat) : Int) = 18446744073709551616 * (m + t) := by
    rw [Int.natCast_add, Int.natCast_mul, Int.natCast_sub (by omega)]
    have : (m : Int) * ((18446744073709551616 : Nat) - (x : Int)) + 1 = 18446744073709551616 * m + (1 - m * x) := by grind
    rw [show ((1 : Nat) : Int) = 1 from rfl, this, ht]; grind
  omega

/-- One round of the square and multiply, bit by bit from below. -/
theorem mpow_odd (p x e m : Nat) (h : e % 2 = 1) : (dn (p * x) m) * (dn (dn (x * x) m) m) ^ (e / 2) % m = p * (dn x m) ^ e % m := by
  rw [dn_dn_mul, dn_mul]
  conv => rhs; rw [show e = 2 * (e / 2) + 1 by omega]
  rw [Nat.pow_succ, Nat.pow_mul, Nat.pow_two, Nat.mul_mod, Nat.mod_mod, ← Nat.pow_mod, ← Nat.mul_mod, Nat.mul_assoc, Nat.mul_comm (dn x m)]
theorem mpow_even (p x e m : Nat) (h : ¬ e % 2 = 1) : p * (dn (dn (x * x) m) m) ^ (e / 2) % m = p * (dn x m) ^ e % m := by
  rw [dn_dn_mul]
  conv => rhs; rw [show e = 2 * (e / 2) by omega]
  rw [Nat.pow_mul, Nat.pow_two, Nat.mul_mod, ← Nat.pow_mod, ← Nat.mul_mod]

/-- The document's half. -/
theorem half_dn (a m : Nat) (h : m % 2 = 1) (ha : a < m) : a * ((m + 1) / 2) % m = if a % 2 = 0 then a / 2 else a / 2 + m / 2 + 1 := by
  obtain ⟨t, rfl⟩ : ∃ t, m = 2 * t + 1 := ⟨m / 2, by omega⟩
  rw [show (2 * t + 1 + 1) / 2 = t + 1 by omega]
  split
  · next h2 =>
    obtain ⟨u, rfl⟩ : ∃ u, a = 2 * u := ⟨a / 2, by omega⟩
    rw [show 2 * u * (t + 1) = u + u * (2 * t + 1) by grind, Nat.add_mul_mod_self_right, Nat.mod_eq_of_lt (by omega)]; omega
  · next h2 =>
    obtain ⟨u, rfl⟩ : ∃ u, a = 2 * u + 1 := ⟨a / 2, by omega⟩
    rw [show (2 * u + 1) * (t + 1) = (u + t + 1) + u * (2 * t + 1) by grind, Nat.add_mul_mod_self_right, Nat.mod_eq_of_lt (by omega)]; omega
theorem dn_step (a m k : Nat) : (a * ((m + 1) / 2) ^ k % m) * ((m + 1) / 2) % m = a * ((m + 1) / 2) ^ (k + 1) % m := by
  rw [Nat.mod_mul_mod, Nat.mul_assoc, ← Nat.pow_succ]
theorem up_step (a m k : Nat) : (a * 2 ^ k % m + a * 2 ^ k % m) % m = a * 2 ^ (k + 1) % m := by
  rw [← Nat.add_mod, Nat.pow_succ, ← Nat.mul_assoc, Nat.mul_two]
end Go.Proofs.YtpjfapibjihbbaaGreatDoor
/-
  Contracts of package mont's plain functions: once, doubled, against. No condition but that arguments are words, and a modulus below 2^63.
-/
namespace Go.Proofs.YtpjfapibjihbbaaGreatDoor
set_option linter.unusedVariables false
open Go.RowKit

theorem once_walk0 (a m : Int) (h0 : 0 ≤ m) (h : m ≤ a) (ha : a < 18446744073709551616) : Ans 79 #[.int .u64 a, .int .u64 m] (.int .u64 (a - m)) := by
  intro w
  go_enter Tryz.func79, Tryz.ntmps79
  go_wp2
  go_ret
  exact ⟨rfl, 0, rfl⟩
theorem once_walk1 (a m : Int) (h0 : 0 ≤ a) (h : ¬ m ≤ a) (ha : m < 18446744073709551616) : Ans 79 #[.int .u64 a, .int .u64 m] (.int .u64 a) := by
  intro w
  go_enter Tryz.func79, Tryz.ntmps79
  go_wp2
  go_ret
  exact ⟨rfl, 0, rfl⟩
/-- once: the rest of a number below 2 m. -/
theorem once_any (a m : Nat) (ha : a < 18446744073709551616) (hm : m < 18446744073709551616) (h : a < 2 * m) : Ans 79 #[.int .u64 a, .int .u64 m] (.int .u64 ((a % m : Nat) : Int)) := by
  by_cases hle : m ≤ a
  · refine ans_int (once_walk0 a m (by omega) (by omega) (by omega)) ?_
    rw [Nat.mod_eq_sub_mod hle, Nat.mod_eq_of_lt (by omega)]; omega
  · refine ans_int (once_walk1 a m (by omega) (by omega) (by omega)) ?_
    rw [Nat.mod_eq_of_lt (by omega)]
theorem once_if (a m : Nat) (ha : a < 18446744073709551616) (hm : m < 18446744073709551616) : Ans 79 #[.int .u64 a, .int .u64 m] (.int .u64 ((if m ≤ a then a - m else a : Nat) : Int)) := by
  split
  · next h => exact ans_int (once_walk0 a m (by omega) (by omega) (by omega)) (by omega)
  · next h => exact once_walk1 a m (by omega) (by omega) (by omega)

set_option maxHeartbeats 1000000 in
/-- doubled: so many doubles. -/
theorem doubled_any (a m n : Nat) (ha : a < m) (hm : m < 9223372036854775808) (hn : n < 1000) : Ans 61 #[.int .u64 a, .int .u64 m, .int .i64 n] (.int .u64 ((a * 2 ^ n % m : Nat) : Int)) := by
  intro w
  go_enter Tryz.func61, Tryz.ntmps61
  go_wp2
  go_loopw [0, 8] (fun x y W => ∃ c k j : Nat, x = .int .u64 c ∧ y = .int .i64 k ∧ k ≤ n ∧ c < m ∧ Hid (c = a * 2 ^ k % m) ∧ W = w.drewN j) (fun _ y _ => n - (intOf y).toNat)
  case atStart => exact ⟨a, 0, 0, rfl, rfl, by omega, ha, by unfold Hid; rw [Nat.pow_zero, Nat.mul_one, Nat.mod_eq_of_lt ha], rfl⟩
  case round =>
    obtain ⟨c, k, j, rfl, rfl, hk, hc, HI, HW⟩ := hrel
    by_cases hlt : k < n
    · obtain ⟨d, hd⟩ : ∃ d, (c + c) % m = d := ⟨_, rfl⟩
      have HQ : Ans 79 #[.int .u64 ((c : Int) + c), .int .u64 m] (.int .u64 (d : Int)) := by
        have := once_any (c + c) m (by omega) (by omega) (by omega)
        rw [hd] at this; rw [Int.natCast_add] at this; exact this
      have hdl : d < m := hd ▸ Nat.mod_lt _ (by omega)
      have HS : Hid (d = a * 2 ^ (k + 1) % m) := by unfold Hid; rw [← hd, HI.out, up_step]
      clear hd HI
      go_wp2_with (go_at_call 79; with_reducible refine Ans.use HQ _ fun n2 => ?_)
      go_roundw
      case rel => exact ⟨d, k + 1, j + n2, rfl, by go_num, by omega, hdl, HS, rfl⟩
      case measure => simp [intOf]; omega
    · obtain rfl : k = n := by omega
      go_wp2
      go_ret
      exact ⟨ret_int (by rw [HI.out]), j, rfl⟩

/-- Newton's numbers. -/
def nwt (m : Nat) : Nat → Nat
  | 0 => m
  | k + 1 => ((nwt m k : Int) * (2 - m * nwt m k) % 18446744073709551616).toNat
theorem nwt_lt (m k : Nat) (h : m < 18446744073709551616) : nwt m k < 18446744073709551616 := by
  cases k with
  | zero => exact h
  | succ k => unfold nwt; omega
theorem nwt_int (m k : Nat) : ((nwt m (k + 1) : Nat) : Int) = (nwt m k : Int) * (2 - m * nwt m k) % 18446744073709551616 := by
  rw [nwt]; omega
theorem nwt_right (m : Nat) (ho : m % 2 = 1) : ∀ k, k ≤ 5 → right k ∣ 1 - (m : Int) * nwt m k
  | 0, _ => newton_start m (by omega)
  | k + 1, h => by rw [nwt_int]; exact newton_at m _ k (nwt_right m ho k (by omega)) (by omega)

theorem newton_wrap (c m : Int) : IntKind.u64.wrap (c * IntKind.u64.wrap (2 - IntKind.u64.wrap (m * c))) = c * (2 - m * c) % 18446744073709551616 := by
  rw [IntKind.wrap_u64, IntKind.wrap_u64, IntKind.wrap_u64]
  generalize m * c = d
  rw [Int.mul_emod, Int.emod_emod_of_dvd _ (Int.dvd_refl _), Int.sub_emod, Int.emod_emod_of_dvd _ (Int.dvd_refl _), ← Int.sub_emod, ← Int.mul_emod]
theorem neg_wrap (c : Nat) (h : c < 18446744073709551616) : IntKind.u64.wrap (-(c : Int)) = (((18446744073709551616 - c) % 18446744073709551616 : Nat) : Int) := by
  rw [IntKind.wrap_u64]; omega

set_option maxHeartbeats 1000000 in
theorem against_walk (m : Nat) (hm : m < 18446744073709551616) : Ans 62 #[.int .u64 m] (.int .u64 (((18446744073709551616 - nwt m 5) % 18446744073709551616 : Nat) : Int)) := by
  intro w
  go_enter Tryz.func62, Tryz.ntmps62
  go_wp2
  go_loopw [3, 5] (fun x y W => ∃ c k : Nat, x = .int .u64 c ∧ y = .int .i64 k ∧ k ≤ 5 ∧ c < 18446744073709551616 ∧ Hid (c = nwt m k) ∧ W = w) (fun _ y _ => 5 - (intOf y).toNat)
  case atStart => exact ⟨m, 0, rfl, rfl, by omega, hm, rfl, rfl⟩
  case round =>
    obtain ⟨c, k, rfl, rfl, hk, hc, HI, HW⟩ := hrel
    by_cases hlt : k < 5
    · go_wp2
      go_roundw
      case rel => exact ⟨nwt m (k + 1), k + 1, by rw [newton_wrap, nwt_int, HI.out], by go_num, by omega, nwt_lt m _ hm, rfl, trivial⟩
      case measure => simp [intOf]; omega
    · obtain rfl : k = 5 := by omega
      go_wp2
      go_ret
      exact ⟨ret_int (by rw [neg_wrap c hc, HI.out]), 0, rfl⟩

/-- against: what makes -1 with an odd number, modulo 2^64. -/
theorem against_any (m : Nat) (hm : m < 18446744073709551616) (ho : m % 2 = 1) : ∃ g : Nat, g < 18446744073709551616 ∧ (m * g + 1) % 18446744073709551616 = 0 ∧ Ans 62 #[.int .u64 m] (.int .u64 (g : Int)) :=
  ⟨_, by omega, newton_end m _ (nwt_right m ho 5 (by omega)) (nwt_lt m 5 hm), against_walk m hm⟩
end Go.Proofs.YtpjfapibjihbbaaGreatDoor
/-
  Plain mathematics of rests: opposites.
-/
namespace Go.Proofs.YtpjfapibjihbbaaGreatDoor
set_option linter.unusedVariables false
theorem neg_mod (a m : Int) (hm0 : 0 < m) : (-a) % m = if a % m = 0 then 0 else m - a % m := by
  have h1 := Int.emod_nonneg a (show m ≠ 0 by omega)
  have h2 := Int.emod_lt_of_pos a hm0
  have h3 := Int.emod_nonneg (-a) (show m ≠ 0 by omega)
  have h4 := Int.emod_lt_of_pos (-a) hm0
  have e : -a % m = (- (a % m)) % m := by
    have := Int.emod_add_mul_ediv a m
    rw [← Int.emod_emod_of_dvd (-a) (Int.dvd_refl m)]
    conv => lhs; rw [show -a = -(a % m) + m * (-(a / m)) by rw [Int.mul_neg]; omega]
    rw [Int.add_mul_emod_self_left, Int.emod_emod_of_dvd _ (Int.dvd_refl m)]
  rw [e]
  split
  · next h => rw [h]; simp
  · rw [← Int.add_emod_right, Int.emod_eq_of_lt (by omega) (by omega)]; omega
def negN (a m : Nat) : Nat := (m - a % m) % m
theorem negN_lt (a m : Nat) (h : 0 < m) : negN a m < m := Nat.mod_lt _ h
theorem negN_add (a m : Nat) (h : 0 < m) : (a + negN a m) % m = 0 := by
  unfold negN
  rw [Nat.add_mod, Nat.mod_mod, ← Nat.add_mod, ← Nat.mod_add_mod]
  have := Nat.mod_lt a h
  rw [show a % m + (m - a % m) = m by omega, Nat.mod_self]
theorem negN_cast (a m : Nat) (h : 0 < m) : (-(a : Int)) % (m : Int) = ((negN a m : Nat) : Int) := by
  have h2 := Nat.mod_lt a h
  rw [neg_mod a m (by omega)]
  unfold negN
  split
  · next h => rw [show a % m = 0 by omega]; simp
  · next h => rw [Nat.mod_eq_of_lt (by omega)]; omega
end Go.Proofs.YtpjfapibjihbbaaGreatDoor
/-
  Contracts of a context's calls One, Out, In, Mul, Pow, and of New: what they answer of every number, in a world that holds the context. (Mont2 to Mont4 of the templates, less what not every seat has.)
-/
namespace Go.Proofs.YtpjfapibjihbbaaGreatDoor
set_option linter.unusedVariables false
open Go.RowKit

/-- The context of m lies there: m, what makes -1 with it, the rests of 2^64 and of its square. -/
structure Ctx (w : World) (b : Nat) (m g : Nat) : Prop where
  odd : m % 2 = 1
  one : 1 < m
  lt : m < 9223372036854775808
  gl : g < 18446744073709551616
  gg : (m * g + 1) % 18446744073709551616 = 0
  c0 : w.cell? ⟨b, 0, none⟩ = some (.int .u64 m)
  c1 : w.cell? ⟨b, 1, none⟩ = some (.int .u64 g)
  c2 : w.cell? ⟨b, 2, none⟩ = some (.int .u64 ((18446744073709551616 % m : Nat) : Int))
  c3 : w.cell? ⟨b, 3, none⟩ = some (.int .u64 ((18446744073709551616 * 18446744073709551616 % m : Nat) : Int))

theorem one_walk (w : World) (b : Nat) (o : Int) (c2 : w.cell? ⟨b, 2, none⟩ = some (.int .u64 o)) : AnsW w 97 #[.pointer (some ⟨b, 0, none⟩)] (.int .u64 o) := by
  intro n
  go_enter Tryz.func97, Tryz.ntmps97
  go_wp2
  go_ret
  exact ⟨rfl, 0, rfl⟩

/-! ### shrink -/
set_option maxHeartbeats 1000000 in
theorem shrink_walk (w : World) (b : Nat) (m g h l q a c s k t r : Int) (c0 : w.cell? ⟨b, 0, none⟩ = some (.int .u64 m)) (c1 : w.cell? ⟨b, 1, none⟩ = some (.int .u64 g))
    (hq : IntKind.u64.wrap (l * g) = q)
    (HM : Ans 128 #[.int .u64 q, .int .u64 m] (.tuple #[.int .u64 a, .int .u64 c]))
    (HA : ∀ w, (callFunc 146 #[.int .u64 l, .int .u64 c, .int .u64 0]).run Tryz.prog w = .ok (.value (.tuple #[.int .u64 s, .int .u64 k])) w)
    (ht : IntKind.u64.wrap (IntKind.u64.wrap (h + a) + k) = t)
    (HO : Ans 79 #[.int .u64 t, .int .u64 m] (.int .u64 r)) :
    AnsW w 127 #[.pointer (some ⟨b, 0, none⟩), .int .u64 h, .int .u64 l] (.int .u64 r) := by
  intro n
  go_enter Tryz.func127, Tryz.ntmps127
  go_wp2
  go_quiet ((go_at_call 128; with_reducible exact Ans.quiet HM))
  go_wp2_with (go_at_call 79; with_reducible refine Ans.use HO _ fun n2 => ?_)
  go_ret
  exact ⟨rfl, _, by rw [Nat.add_assoc]⟩
theorem wrap_small (x : Int) (h0 : 0 ≤ x) (h1 : x < 18446744073709551616) : IntKind.u64.wrap x = x := by rw [IntKind.wrap_u64]; omega
theorem wrap_nat (x : Nat) : IntKind.u64.wrap (x : Int) = ((x % 18446744073709551616 : Nat) : Int) := by rw [IntKind.wrap_u64]; omega
theorem mul_cut_lt (x m R : Nat) (hx : x < R) (hm : m ≤ R) (h0 : 0 < R) (hm0 : 0 < m) : x * m / R < m := by
  rw [Nat.div_lt_iff_lt_mul h0, Nat.mul_comm m]; exact Nat.mul_lt_mul_of_pos_right hx hm0
/-- shrink: the rest by 2^64. -/
theorem shrink_any {w : World} {b m g : Nat} (C : Ctx w b m g) (h l : Nat) (hh : h < m) (hl : l < 18446744073709551616) :
    AnsW w 127 #[.pointer (some ⟨b, 0, none⟩), .int .u64 h, .int .u64 l] (.int .u64 ((dn (h * 18446744073709551616 + l) m : Nat) : Int)) := by
  have h1 := C.one
  have h2 := C.lt
  have hql : l * g % 18446744073709551616 < 18446744073709551616 := Nat.mod_lt _ (by omega)
  obtain ⟨q, hq⟩ : ∃ q, q = l * g % 18446744073709551616 := ⟨_, rfl⟩
  rw [← hq] at hql
  have hq' : IntKind.u64.wrap ((l : Int) * g) = q := by rw [← Int.natCast_mul, wrap_nat, hq]
  have ha := mul_cut_lt q m 18446744073709551616 hql (by omega) (by omega) (by omega)
  have hab : q * m / 18446744073709551616 * 18446744073709551616 + q * m % 18446744073709551616 = q * m := by omega
  have hb : q * m % 18446744073709551616 < 18446744073709551616 := Nat.mod_lt _ (by omega)
  have HM := mul64_nat q m hql (by omega)
  generalize q * m / 18446744073709551616 = a at *
  generalize q * m % 18446744073709551616 = c at *
  have HA := add64n l c 0 (by omega)
  have hs : (l + c + 0) % 18446744073709551616 < 18446744073709551616 := Nat.mod_lt _ (by omega)
  have hsk : (l + c + 0) % 18446744073709551616 + 18446744073709551616 * ((l + c + 0) / 18446744073709551616) = l + c := by omega
  generalize (l + c + 0) % 18446744073709551616 = s at *
  generalize (l + c + 0) / 18446744073709551616 = k at *
  obtain ⟨hlt, e⟩ := shrink_math m g h l q a c s k C.odd h1 C.gg hh hl hq hab hb hs hsk
  have HO := once_if (h + a + k) m (by omega) (by omega)
  rw [e] at HO
  refine shrink_walk w b m g h l q a c s k ((h + a + k : Nat) : Int) _ C.c0 C.c1 hq' HM HA ?_ HO
  rw [wrap_small ((h : Int) + a) (by omega) (by omega), wrap_small _ (by omega) (by omega)]; omega

/-! ### Out, In, rest -/
theorem out_walk (w : World) (b : Nat) (x r : Int) (HS : AnsW w 127 #[.pointer (some ⟨b, 0, none⟩), .int .u64 0, .int .u64 x] (.int .u64 r)) :
    AnsW w 153 #[.pointer (some ⟨b, 0, none⟩), .int .u64 x] (.int .u64 r) := by
  intro n
  go_enter Tryz.func153, Tryz.ntmps153
  go_wp2_with (go_at_call 127; with_reducible refine AnsW.use HS _ fun n2 => ?_)
  go_ret
  exact ⟨rfl, _, rfl⟩
/-- Out. -/
theorem out_any {w : World} {b m g : Nat} (C : Ctx w b m g) (x : Nat) (hx : x < 18446744073709551616) :
    AnsW w 153 #[.pointer (some ⟨b, 0, none⟩), .int .u64 x] (.int .u64 ((dn x m : Nat) : Int)) := by
  have h1 := C.one
  have := shrink_any C 0 x (by omega) hx
  rw [Nat.zero_mul, Nat.zero_add] at this
  exact out_walk w b x _ this
set_option maxHeartbeats 1000000 in
theorem in_walk (w : World) (b : Nat) (a s h l r : Int) (c3 : w.cell? ⟨b, 3, none⟩ = some (.int .u64 s))
    (HM : Ans 128 #[.int .u64 a, .int .u64 s] (.tuple #[.int .u64 h, .int .u64 l]))
    (HS : AnsW w 127 #[.pointer (some ⟨b, 0, none⟩), .int .u64 h, .int .u64 l] (.int .u64 r)) :
    AnsW w 95 #[.pointer (some ⟨b, 0, none⟩), .int .u64 a] (.int .u64 r) := by
  intro n
  go_enter Tryz.func95, Tryz.ntmps95
  go_wp2_with (first | (go_at_call 127; with_reducible refine AnsW.use HS _ fun n2 => ?_) | (go_at_call 128; with_reducible refine Ans.use HM _ fun n1 => ?_))
  go_ret
  exact ⟨rfl, _, by rw [Nat.add_assoc]⟩
/-- In. -/
theorem in_any {w : World} {b m g : Nat} (C : Ctx w b m g) (a : Nat) (ha : a < 18446744073709551616) :
    AnsW w 95 #[.pointer (some ⟨b, 0, none⟩), .int .u64 a] (.int .u64 ((up a m : Nat) : Int)) := by
  have h1 := C.one
  have h2 := C.lt
  obtain ⟨s, hs⟩ : ∃ s, s = 18446744073709551616 * 18446744073709551616 % m := ⟨_, rfl⟩
  have hsl : s < m := by rw [hs]; exact Nat.mod_lt _ (by omega)
  have hh : a * s / 18446744073709551616 < m := by
    rw [Nat.div_lt_iff_lt_mul (by omega), Nat.mul_comm]
    exact Nat.lt_of_le_of_lt (Nat.mul_le_mul_left s (Nat.le_of_lt ha)) (Nat.mul_lt_mul_of_pos_right hsl (by omega))
  have e := dn_square a s m C.odd h1 hs
  have c3 := C.c3
  rw [← hs] at c3
  have HS := shrink_any C (a * s / 18446744073709551616) (a * s % 18446744073709551616) hh (Nat.mod_lt _ (by omega))
  rw [show a * s / 18446744073709551616 * 18446744073709551616 + a * s % 18446744073709551616 = a * s by omega, e] at HS
  exact in_walk w b a s _ _ _ c3 (mul64_nat a s ha (by omega)) HS
theorem rest_walk0 (w : World) (b : Nat) (a m : Int) (c0 : w.cell? ⟨b, 0, none⟩ = some (.int .u64 m)) (h : a < m) :
    AnsW w 147 #[.pointer (some ⟨b, 0, none⟩), .int .u64 a] (.int .u64 a) := by
  intro n
  go_enter Tryz.func147, Tryz.ntmps147
  go_wp2
  go_ret
  exact ⟨rfl, 0, rfl⟩
theorem rest_walk1 (w : World) (b : Nat) (a m o r : Int) (c0 : w.cell? ⟨b, 0, none⟩ = some (.int .u64 m)) (h : ¬ a < m)
    (HO : AnsW w 153 #[.pointer (some ⟨b, 0, none⟩), .int .u64 a] (.int .u64 o))
    (HI : AnsW w 95 #[.pointer (some ⟨b, 0, none⟩), .int .u64 o] (.int .u64 r)) :
    AnsW w 147 #[.pointer (some ⟨b, 0, none⟩), .int .u64 a] (.int .u64 r) := by
  intro n
  go_enter Tryz.func147, Tryz.ntmps147
  go_wp2_with (first | (go_at_call 153; with_reducible refine AnsW.use HO _ fun n1 => ?_) | (go_at_call 95; with_reducible refine AnsW.use HI _ fun n2 => ?_))
  go_ret
  exact ⟨rfl, _, by rw [Nat.add_assoc]⟩
/-- rest. -/
theorem rest_any {w : World} {b m g : Nat} (C : Ctx w b m g) (a : Nat) (ha : a < 18446744073709551616) :
    AnsW w 147 #[.pointer (some ⟨b, 0, none⟩), .int .u64 a] (.int .u64 ((a % m : Nat) : Int)) := by
  have h1 := C.one
  have h2 := C.lt
  by_cases h : a < m
  · rw [Nat.mod_eq_of_lt h]; exact rest_walk0 w b a m C.c0 (by omega)
  · have hd := dn_lt a m (by omega)
    rw [← up_dn a m C.odd h1]
    exact rest_walk1 w b a m _ _ C.c0 (by omega) (out_any C a ha) (in_any C _ (by omega))

/-! ### Mul -/
set_option maxHeartbeats 1000000 in
theorem mmul_walk (w : World) (b : Nat) (x y u h l r : Int)
    (HR : AnsW w 147 #[.pointer (some ⟨b, 0, none⟩), .int .u64 x] (.int .u64 u))
    (HM : Ans 128 #[.int .u64 u, .int .u64 y] (.tuple #[.int .u64 h, .int .u64 l]))
    (HS : AnsW w 127 #[.pointer (some ⟨b, 0, none⟩), .int .u64 h, .int .u64 l] (.int .u64 r)) :
    AnsW w 129 #[.pointer (some ⟨b, 0, none⟩), .int .u64 x, .int .u64 y] (.int .u64 r) := by
  intro n
  go_enter Tryz.func129, Tryz.ntmps129
  go_wp2_with (first | (go_at_call 147; with_reducible refine AnsW.use HR _ fun n0 => ?_) | (go_at_call 127; with_reducible refine AnsW.use HS _ fun n2 => ?_) | (go_at_call 128; with_reducible refine Ans.use HM _ fun n1 => ?_))
  go_ret
  exact ⟨rfl, _, by rw [Nat.add_assoc, Nat.add_assoc]⟩
/-- Mul. -/
theorem mmul_any {w : World} {b m g : Nat} (C : Ctx w b m g) (x y : Nat) (hx : x < 18446744073709551616) (hy : y < 18446744073709551616) :
    AnsW w 129 #[.pointer (some ⟨b, 0, none⟩), .int .u64 x, .int .u64 y] (.int .u64 ((dn (x * y) m : Nat) : Int)) := by
  have h1 := C.one
  have h2 := C.lt
  have hu := Nat.mod_lt x (show 0 < m by omega)
  have e : dn (x % m * y) m = dn (x * y) m := by rw [← dn_mod, Nat.mod_mul_mod, dn_mod]
  have HR := rest_any C x hx
  generalize x % m = u at *
  have hh : u * y / 18446744073709551616 < m := by
    rw [Nat.div_lt_iff_lt_mul (by omega)]
    exact Nat.lt_of_le_of_lt (Nat.mul_le_mul_left u (Nat.le_of_lt hy)) (Nat.mul_lt_mul_of_pos_right hu (by omega))
  have HS := shrink_any C (u * y / 18446744073709551616) (u * y % 18446744073709551616) hh (Nat.mod_lt _ (by omega))
  rw [show u * y / 18446744073709551616 * 18446744073709551616 + u * y % 18446744073709551616 = u * y by omega, e] at HS
  exact mmul_walk w b x y u _ _ _ HR (mul64_nat u y (by omega) hy) HS

/-! ### Pow -/
theorem bitLen_le64 (e : Nat) (h : e < 18446744073709551616) : Lib.bitLen e ≤ 64 := Lib.bitLen_le e 64 (by omega) (by rw [show (2 : Nat) ^ 64 = 18446744073709551616 by decide]; exact h)
theorem bitLen_aux : ∀ (f e : Nat), e < 2 ^ f → e / 2 ^ Lib.bitLenAux f e = 0
  | 0, e, h => by
      have : e = 0 := by simpa using h
      subst this; simp
  | f + 1, e, h => by
      by_cases h0 : e = 0
      · subst h0; simp
      · have ih := bitLen_aux f (e / 2) (by rw [Nat.pow_succ] at h; omega)
        have : Lib.bitLenAux (f + 1) e = 1 + Lib.bitLenAux f (e / 2) := by simp [Lib.bitLenAux, h0]
        rw [this, Nat.add_comm, Nat.pow_succ, Nat.mul_comm, ← Nat.div_div_eq_div_mul]; exact ih
theorem bitLen_zero (e : Nat) (h : e < 18446744073709551616) : e / 2 ^ Lib.bitLen e = 0 := bitLen_aux 64 e (by rw [show (2 : Nat) ^ 64 = 18446744073709551616 by decide]; exact h)
theorem div_pow_succ (e k : Nat) : e / 2 ^ (k + 1) = e / 2 ^ k / 2 := by rw [Nat.pow_succ, ← Nat.div_div_eq_div_mul]

set_option maxHeartbeats 2000000 in
/-- Pow. -/
theorem mpow_any {w : World} {b m g : Nat} (C : Ctx w b m g) (x e : Nat) (hx : x < 18446744073709551616) (he : e < 18446744073709551616) :
    AnsW w 96 #[.pointer (some ⟨b, 0, none⟩), .int .u64 x, .int .u64 e] (.int .u64 ((up (dn x m ^ e) m : Nat) : Int)) := by
  intro n
  have c2 := C.c2
  have h1 := C.one
  have h2 := C.lt
  obtain ⟨o, ho⟩ : ∃ o, 18446744073709551616 % m = o := ⟨_, rfl⟩
  have hol : o < m := ho ▸ Nat.mod_lt _ (by omega)
  have HE : Hid (18446744073709551616 % m = o) := ho
  rw [ho] at c2
  clear ho
  obtain ⟨L, hL⟩ : ∃ L, Lib.bitLen e = L := ⟨_, rfl⟩
  have HL := len64_any e he
  have hL64 := bitLen_le64 e he
  have HZ : Hid (e / 2 ^ L = 0) := hL ▸ bitLen_zero e he
  rw [hL] at HL hL64
  clear hL
  go_enter Tryz.func96, Tryz.ntmps96
  go_wp2_with (go_at_call 124; with_reducible refine Ans.use HL _ fun n0 => ?_)
  go_loopw [1, 7, 17] (fun s t k W => ∃ y p i j : Nat, s = .int .u64 y ∧ t = .int .u64 p ∧ k = .int .i64 i ∧ i ≤ L ∧ y < 18446744073709551616 ∧ p < m ∧ Hid (p * dn y m ^ (e / 2 ^ i) % m = o * dn x m ^ e % m) ∧ W = w.drewN (n + j)) (fun _ _ k _ => L - (intOf k).toNat)
  case atStart => exact ⟨x, o, 0, n0, rfl, rfl, rfl, by omega, hx, hol, by unfold Hid; rw [Nat.pow_zero, Nat.div_one], rfl⟩
  case round =>
    obtain ⟨y, p, i, j, rfl, rfl, rfl, hi, hy, hp, HI, HW⟩ := hrel
    by_cases hlt : i < L
    · obtain ⟨f, hf⟩ : ∃ f, e / 2 ^ i = f := ⟨_, rfl⟩
      have hfe : f ≤ e := hf ▸ Nat.div_le_self _ _
      have hf' : e / 2 ^ (i + 1) = f / 2 := by rw [div_pow_succ, hf]
      have hb : bits .and .u64 ((e : Int) / 2 ^ i) 1 = ((f % 2 : Nat) : Int) := by
        rw [show (e : Int) / 2 ^ i = ((e / 2 ^ i : Nat) : Int) by simp, hf, and_one f (by omega) (by omega)]; simp
      rw [hf] at HI
      have HF : Hid (e / 2 ^ (i + 1) = f / 2) := hf'
      clear hf hf'
      obtain ⟨c, hc⟩ : ∃ c, dn (y * y) m = c := ⟨_, rfl⟩
      have HQ := mmul_any C y y hy hy
      rw [hc] at HQ
      have hcl : c < m := hc ▸ dn_lt _ _ (by omega)
      by_cases hbit : f % 2 = 1
      · obtain ⟨q, hq⟩ : ∃ q, dn (p * y) m = q := ⟨_, rfl⟩
        have HM := mmul_any C p y (by omega) hy
        have HS := mpow_odd p y f m hbit
        rw [hq, hc] at HS
        replace HS : Hid (q * dn c m ^ (e / 2 ^ (i + 1)) % m = o * dn x m ^ e % m) := by
          unfold Hid; rw [HF.out]; exact HS.trans HI.out
        rw [hq] at HM
        have hql : q < m := hq ▸ dn_lt _ _ (by omega)
        rw [hbit] at hb
        clear hq hc HI HF
        go_wp2_with (first | (go_at_call 129; with_reducible refine AnsW.use HM _ fun n1 => ?_) | (go_at_call 129; with_reducible refine AnsW.use HQ _ fun n2 => ?_))
        go_roundw
        case rel => exact ⟨c, q, i + 1, j + n1 + n2, rfl, rfl, by go_num, by omega, by omega, hql, HS, World.drewN_congr _ (by omega)⟩
        case measure => simp [intOf]; omega
      · have HS := mpow_even p y f m hbit
        rw [hc] at HS
        replace HS : Hid (p * dn c m ^ (e / 2 ^ (i + 1)) % m = o * dn x m ^ e % m) := by
          unfold Hid; rw [HF.out]; exact HS.trans HI.out
        rw [show f % 2 = 0 by omega] at hb
        clear hc HI HF
        go_wp2_with (go_at_call 129; with_reducible refine AnsW.use HQ _ fun n2 => ?_)
        go_roundw
        case rel => exact ⟨c, p, i + 1, j + n2, rfl, rfl, by go_num, by omega, by omega, hp, HS, World.drewN_congr _ (by omega)⟩
        case measure => simp [intOf]; omega
    · obtain rfl : i = L := by omega
      have HP : Hid (p = up (dn x m ^ e) m) := by
        have h := HI.out
        rw [HZ.out, Nat.pow_zero, Nat.mul_one, Nat.mod_eq_of_lt hp] at h
        unfold Hid up
        rw [h, ← HE.out, Nat.mod_mul_mod, Nat.mul_comm]
      clear HI
      go_wp2
      go_ret
      exact ⟨ret_int (by rw [HP.out]), j, rfl⟩

/-! ### New -/
/-- The moduli that can be. -/
def Gd (m : Nat) : Prop := m % 2 = 1 ∧ 1 < m ∧ m < 9223372036854775808
set_option maxHeartbeats 1000000 in
theorem new_walk (w : World) (m g o s : Int) (h3 : 3 ≤ m) (h : (m % 2 == 0) = false) (h2 : m < 9223372036854775808)
    (HO : Ans 61 #[.int .u64 1, .int .u64 m, .int .i64 64] (.int .u64 o))
    (HG : Ans 62 #[.int .u64 m] (.int .u64 g))
    (HS : Ans 61 #[.int .u64 o, .int .u64 m, .int .i64 64] (.int .u64 s)) :
    Calls Tryz.prog 42 #[.int .u64 m] w fun e w' => e = .returned (.tuple #[.pointer (some ⟨w.heap.size, 0, none⟩), .int .i64 0]) ∧ ∃ n, w' = (w.drewN n).alloc (Obj.cells #[.int .u64 m, .int .u64 g, .int .u64 o, .int .u64 s] 110) := by
  go_enter Tryz.func42, Tryz.ntmps42
  go_wp2_with (first | (go_at_call 61; with_reducible refine Ans.use HO _ fun n1 => ?_) | (go_at_call 62; with_reducible refine Ans.use HG _ fun n2 => ?_) | (go_at_call 61; with_reducible refine Ans.use HS _ fun n3 => ?_))
  go_ret2
  exact ⟨rfl, _, rfl⟩

/-- A new context: a place where it lies; nothing old has turned. -/
def NewAns (x : Int) (m : Nat) : Prop := ∀ w, Calls Tryz.prog 42 #[.int .u64 x] w fun e w' => ∃ b g, e = .returned (.tuple #[.pointer (some ⟨b, 0, none⟩), .int .i64 0]) ∧ Ctx w' b m g ∧ ∀ w0, Grown w0 w → Grown w0 w'
theorem NewAns.use {x : Int} {m : Nat} (h : NewAns x m) (w : World) {R : Ending → World → Prop} (k : ∀ (b g : Nat) (W : World), Ctx W b m g → (∀ w0, Grown w0 w → Grown w0 W) → R (.returned (.tuple #[.pointer (some ⟨b, 0, none⟩), .int .i64 0])) W) : Calls Tryz.prog 42 #[.int .u64 x] w R :=
  (h w).mono fun _ _ ⟨b, g, he, hc, hg⟩ => by subst he; exact k b g _ hc hg

theorem alloc4 (w : World) (n : Nat) (a b c d : Value) (t : TypeId) :
    ((w.drewN n).alloc (Obj.cells #[a, b, c, d] t)).cell? ⟨w.heap.size, 0, none⟩ = some a ∧ ((w.drewN n).alloc (Obj.cells #[a, b, c, d] t)).cell? ⟨w.heap.size, 1, none⟩ = some b ∧ ((w.drewN n).alloc (Obj.cells #[a, b, c, d] t)).cell? ⟨w.heap.size, 2, none⟩ = some c ∧ ((w.drewN n).alloc (Obj.cells #[a, b, c, d] t)).cell? ⟨w.heap.size, 3, none⟩ = some d := by
  refine ⟨?_, ?_, ?_, ?_⟩ <;> simp [World.cell?, World.alloc, go_sem]
theorem new_any (m : Nat) (h : Gd m) : NewAns m m := by
  intro w
  obtain ⟨h1, h2, h3⟩ := h
  obtain ⟨g, hg, hgg, HG⟩ := against_any m (by omega) h1
  have HO := doubled_any 1 m 64 (by omega) h3 (by omega)
  rw [Nat.one_mul, show (2 : Nat) ^ 64 = 18446744073709551616 by decide] at HO
  have hol := Nat.mod_lt 18446744073709551616 (show 0 < m by omega)
  have HS := doubled_any (18446744073709551616 % m) m 64 hol h3 (by omega)
  rw [show (2 : Nat) ^ 64 = 18446744073709551616 by decide, Nat.mod_mul_mod] at HS
  refine (new_walk w m g _ _ (by omega) (by simp; omega) (by omega) HO HG HS).mono ?_
  rintro e w' ⟨rfl, n, rfl⟩
  obtain ⟨k0, k1, k2, k3⟩ := alloc4 w n (.int .u64 m) (.int .u64 g) (.int .u64 ((18446744073709551616 % m : Nat) : Int)) (.int .u64 ((18446744073709551616 * 18446744073709551616 % m : Nat) : Int)) 110
  refine ⟨w.heap.size, g, rfl, ⟨h1, h2, h3, hg, hgg, k0, k1, k2, k3⟩, fun w0 hw => ?_⟩
  exact Grown.alloc (w' := w.drewN n) hw _ _
theorem new_no (m : Int) (h0 : 0 ≤ m) (h3 : m < 18446744073709551616) (h : m < 3 ∨ (3 ≤ m ∧ (m % 2 == 0) = true) ∨ (3 ≤ m ∧ (m % 2 == 0) = false ∧ 9223372036854775808 ≤ m)) : Ans 42 #[.int .u64 m] (.tuple #[.pointer none, .int .i64 1]) := by
  intro w
  rcases h with h | ⟨h, h'⟩ | ⟨h, h', h''⟩
  all_goals
    go_enter Tryz.func42, Tryz.ntmps42
    go_wp2
    go_ret2
    exact ⟨rfl, 0, rfl⟩
theorem new_bad (m : Nat) (hm : m < 18446744073709551616) (h : ¬ Gd m) : Ans 42 #[.int .u64 m] (.tuple #[.pointer none, .int .i64 1]) := by
  unfold Gd at h
  refine new_no m (by omega) (by omega) ?_
  by_cases a : (m : Int) < 3
  · exact Or.inl a
  · by_cases b : m % 2 = 0
    · exact Or.inr (Or.inl ⟨by omega, by simp; omega⟩)
    · exact Or.inr (Or.inr ⟨by omega, by simp; omega, by omega⟩)
end Go.Proofs.YtpjfapibjihbbaaGreatDoor

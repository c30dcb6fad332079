/-
  The contract of math/bits.Div64, whole: two words divided by one that is greater than the high one.
-/
import Derived.Test.YtjbhdbbepjokpaaDiv
namespace Go.Proofs.Ytjbhdbbepjokpaa
set_option linter.unusedVariables false
open Go.RowKit

theorem lz_any (y : Int) (h1 : 0 < y) (h2 : y < 18446744073709551616) : ∃ s : Nat, s ≤ 63 ∧ 9223372036854775808 ≤ y * 2 ^ s ∧ y * 2 ^ s < 18446744073709551616 ∧
    ∀ w, Calls Try.prog 29 #[.int .u64 y] w fun e w' => e = .returned (.int .i64 s) ∧ w' = w := by
  obtain ⟨n, rfl⟩ := Int.eq_ofNat_of_zero_le (show 0 ≤ y by omega)
  obtain ⟨i1, i2, i3, i4⟩ := Plain.shift_fits n (by omega) (by omega)
  have e : ((n : Int) * 2 ^ (64 - Lib.bitLen n)) = ((n * 2 ^ (64 - Lib.bitLen n) : Nat) : Int) := by simp
  refine ⟨64 - Lib.bitLen n, by omega, by rw [e]; omega, by rw [e]; omega, fun w => ?_⟩
  refine (Try.bits_LeadingZeros64 n w (by omega) (by omega)).mono fun e w' ⟨he, hw⟩ => ⟨?_, hw⟩
  rw [he]
  have : (64 - (Lib.bitLen (n : Int).toNat : Int)) = ((64 - Lib.bitLen n : Nat) : Int) := by rw [Int.toNat_natCast]; omega
  rw [this]

/-- The start of a digit's guess. -/
theorem k_start (u d y1 y0 Q R : Int) (b5 : 0 ≤ u) (_b6 : u < 18446744073709551616) (b1 : 2147483648 ≤ y1) (b2 : y1 < 4294967296) (b3 : 0 ≤ y0) (b4 : y0 < 4294967296) (hu : u < y1 * 4294967296 + y0) (hd : d < 4294967296) (hD : KDig u d y1 y0 Q R) :
    0 ≤ u / y1 ∧ u / y1 ≤ 4294967297 ∧ KInv u y1 Q (u / y1) (IntKind.u64.wrap (u - IntKind.u64.wrap (u / y1 * y1))) ∧ 0 ≤ IntKind.u64.wrap (u - IntKind.u64.wrap (u / y1 * y1)) ∧ IntKind.u64.wrap (u - IntKind.u64.wrap (u / y1 * y1)) < 4294967296 := by
  have e0 : u / y1 * y1 + u % y1 = u := Int.ediv_mul_add_emod u y1
  have r0 := Int.emod_nonneg u (show y1 ≠ 0 by omega)
  have r1 := Int.emod_lt_of_pos u (show 0 < y1 by omega)
  have q0 : 0 ≤ u / y1 := Int.ediv_nonneg b5 (by omega)
  have q1 := Int.mul_nonneg q0 (show 0 ≤ y1 by omega)
  have ew : IntKind.u64.wrap (u - IntKind.u64.wrap (u / y1 * y1)) = u % y1 := by
    rw [IntKind.wrap_u64, IntKind.wrap_u64]; omega
  rw [ew]
  exact ⟨q0, Plain.q_le u y1 y0 _ _ e0 r0 hu b4 b1, ⟨e0, Plain.q_ge u d y1 y0 _ _ Q R e0 r1 q0 hd b3 (by omega) hD.1 hD.2.1⟩, r0, by omega⟩

theorem k_digit (u d y1 y0 : Int) (b5 : 0 ≤ u) (_b1 : 2147483648 ≤ y1) (_b3 : 0 ≤ y0) (hu : u < y1 * 4294967296 + y0) (hd0 : 0 ≤ d) (hd : d < 4294967296) :
    ∃ Q R, KDig u d y1 y0 Q R ∧ 0 ≤ Q ∧ Q < 4294967296 := by
  have hY : 0 < y1 * 4294967296 + y0 := by omega
  have hT : u * 4294967296 + d = (u * 4294967296 + d) / (y1 * 4294967296 + y0) * (y1 * 4294967296 + y0) + (u * 4294967296 + d) % (y1 * 4294967296 + y0) := (Int.ediv_mul_add_emod _ _).symm
  have r0 := Int.emod_nonneg (u * 4294967296 + d) (show y1 * 4294967296 + y0 ≠ 0 by omega)
  have r1 := Int.emod_lt_of_pos (u * 4294967296 + d) hY
  exact ⟨_, _, ⟨hT, r0, r1⟩, Int.ediv_nonneg (by omega) (by omega), Plain.digit_lt u d _ _ _ hu hd hY hT r0⟩

theorem div_pos (hi lo y : Int) (h1 : 0 < y) (h2 : y < 18446744073709551616) (h3 : hi < y) (h4 : 0 < hi) (h5 : 0 ≤ lo) (h6 : lo < 18446744073709551616) (w : World) :
    Calls Try.prog 28 #[.int .u64 hi, .int .u64 lo, .int .u64 y] w fun e w' => e = .returned (.tuple #[.int .u64 ((hi * 18446744073709551616 + lo) / y), .int .u64 ((hi * 18446744073709551616 + lo) % y)]) ∧ w' = w := by
  obtain ⟨s, hs, y63, y64, hlz⟩ := lz_any y h1 h2
  have m0 : (0 : Int) < 2 ^ s := Int.pow_pos (by decide)
  have k0 : (0 : Int) < 2 ^ (64 - s) := Int.pow_pos (by decide)
  have mk : (2 : Int) ^ s * 2 ^ (64 - s) = 18446744073709551616 := by rw [← Int.pow_add, show s + (64 - s) = 64 by omega]; rfl
  obtain ⟨sh, l0, l1⟩ := Plain.shifted hi lo (2 ^ s) (2 ^ (64 - s)) m0 k0 mk h5 h6
  have N0 : 0 ≤ (lo * 2 ^ s) % 18446744073709551616 := by omega
  have ut := Plain.top_lt hi lo (2 ^ s) y (hi * 2 ^ s + lo / 2 ^ (64 - s)) _ m0 h3 h6 N0 sh
  have hm0 := Int.mul_nonneg (show 0 ≤ hi by omega) (show (0 : Int) ≤ 2 ^ s by omega)
  have hm1 : hi * 2 ^ s < 18446744073709551616 := by
    have := Int.mul_lt_mul_of_pos_right h3 m0
    omega
  have m64 : (2 : Int) ^ s ≤ 9223372036854775808 := by
    have : (2 : Nat) ^ s ≤ 2 ^ 63 := Nat.pow_le_pow_right (by decide) hs
    have e : ((2 ^ s : Nat) : Int) = 2 ^ s := by simp
    omega
  have hj := Plain.or_join s hi (lo / 2 ^ (64 - s)) (by omega) hm1 l0 l1 (by omega)
  generalize hY : y * 2 ^ s = Y at *
  generalize hu : hi * 2 ^ s + lo / 2 ^ (64 - s) = u at *
  generalize hN : (lo * 2 ^ s) % 18446744073709551616 = N at *
  have N1 : N < 18446744073709551616 := by omega
  have y1b : 2147483648 ≤ Y / 4294967296 ∧ Y / 4294967296 < 4294967296 ∧ 0 ≤ Y % 4294967296 ∧ Y % 4294967296 < 4294967296 := by omega
  have n1b : 0 ≤ N / 4294967296 ∧ N / 4294967296 < 4294967296 ∧ 0 ≤ N % 4294967296 ∧ N % 4294967296 < 4294967296 := by omega
  have eY : Y / 4294967296 * 4294967296 + Y % 4294967296 = Y := by omega
  have eN : N / 4294967296 * 4294967296 + N % 4294967296 = N := by omega
  have u0 : 0 ≤ u := by omega
  have w1 : IntKind.u64.wrap Y = Y := by rw [IntKind.wrap_u64]; omega
  have w4 : IntKind.u64.wrap (hi * 2 ^ s) = hi * 2 ^ s := by rw [IntKind.wrap_u64]; omega
  have w7 : IntKind.u64.wrap (lo * 2 ^ s) = N := by rw [IntKind.wrap_u64]; exact hN
  obtain ⟨q1, q2, q3, q4⟩ := y1b
  obtain ⟨p1, p2, p3, p4⟩ := n1b
  have a3 := Plain.and_mask Y (by omega) (by omega)
  have a9 := Plain.and_mask N N0 N1
  generalize hy1 : Y / 4294967296 = y1 at *
  generalize hy0 : Y % 4294967296 = y0 at *
  generalize hn1 : N / 4294967296 = n1 at *
  generalize hn0 : N % 4294967296 = n0 at *
  have uY : u < y1 * 4294967296 + y0 := by omega
  obtain ⟨Q1, R1, D1, Q1a, Q1b⟩ := k_digit u n1 y1 y0 u0 q1 q3 uY p1 p2
  have R1b : 0 ≤ R1 ∧ R1 < y1 * 4294967296 + y0 := D1.2
  obtain ⟨Q0, R0, D0, Q0a, Q0b⟩ := k_digit R1 n0 y1 y0 R1b.1 q1 q3 R1b.2 p3 p4
  have R0b : 0 ≤ R0 ∧ R0 < y1 * 4294967296 + y0 := D0.2
  obtain ⟨s1, s2, s3, s4, s5⟩ := k_start u n1 y1 y0 Q1 R1 u0 (by omega) q1 q2 q3 q4 uY p2 D1
  obtain ⟨t1, t2, t3, t4, t5⟩ := k_start R1 n0 y1 y0 Q0 R0 R1b.1 (by omega) q1 q2 q3 q4 R1b.2 p4 D0
  have eR1 : u * 4294967296 + n1 - Q1 * Y = R1 := by have := D1.1; rw [eY] at this; omega
  have eR0 : R1 * 4294967296 + n0 - Q0 * Y = R0 := by have := D0.1; rw [eY] at this; omega
  refine (div_walk hi lo y s Y y1 y0 (hi * 2 ^ s) (lo / 2 ^ (64 - s)) u N n1 n0 _ _ Q1 R1 _ _ Q0 R0 h1 h2 h3 h4 h5 h6 hs (by rw [hY]; exact w1) hy1 a3 w4 rfl hj w7 hn1 a9 rfl rfl
    (by rw [Plain.wrap_sub, eR1]; omega) rfl rfl (by rw [Plain.wrap_sub, eR0]; omega) q1 q2 q3 q4 u0 (by omega) p1 p2 p3 p4 s1 s2 s4 s5 s3 D1 Q1a Q1b R1b.1 (by omega) t1 t2 t4 t5 t3 D0 Q0a Q0b R0b.1 (by omega) hlz w).mono fun e w' ⟨he, hw⟩ => ⟨?_, hw⟩
  have hb := Plain.back (hi * 18446744073709551616 + lo) (2 ^ s) y Q1 Q0 u n1 n0 R1 R0 m0 (by rw [← sh]; omega) (by rw [hY]; omega) (by rw [hY]; omega) R0b.1 (by rw [hY]; omega)
  obtain ⟨g1, g2⟩ := Plain.div_unique _ y _ _ h1 hb.1 hb.2.1 hb.2.2
  rw [he, g1, g2]

set_option maxHeartbeats 1000000 in
theorem div_zero (lo y : Int) (h1 : 0 < y) (h2 : y < 18446744073709551616) (h5 : 0 ≤ lo) (h6 : lo < 18446744073709551616) (w : World) :
    Calls Try.prog 28 #[.int .u64 0, .int .u64 lo, .int .u64 y] w fun e w' => e = .returned (.tuple #[.int .u64 (lo / y), .int .u64 (lo % y)]) ∧ ∃ n, w' = w.drewN n := by
  go_enter Try.func28, Try.ntmps28
  go_wp2
  go_region
  go_wp2
  go_ret2
  exact ⟨rfl, 1, rfl⟩

theorem div_any (hi lo y : Int) (h1 : 0 < y) (h2 : y < 18446744073709551616) (h3 : hi < y) (h4 : 0 ≤ hi) (h5 : 0 ≤ lo) (h6 : lo < 18446744073709551616) (w : World) :
    Calls Try.prog 28 #[.int .u64 hi, .int .u64 lo, .int .u64 y] w fun e w' => e = .returned (.tuple #[.int .u64 ((hi * 18446744073709551616 + lo) / y), .int .u64 ((hi * 18446744073709551616 + lo) % y)]) ∧ ∃ n, w' = w.drewN n := by
  by_cases h0 : hi = 0
  · subst h0
    rw [Int.zero_mul, Int.zero_add]
    exact div_zero lo y h1 h2 h5 h6 w
  · exact (div_pos hi lo y h1 h2 h3 (by omega) h5 h6 w).mono fun e w' ⟨he, hw⟩ => ⟨he, 0, hw⟩
end Go.Proofs.Ytjbhdbbepjokpaa

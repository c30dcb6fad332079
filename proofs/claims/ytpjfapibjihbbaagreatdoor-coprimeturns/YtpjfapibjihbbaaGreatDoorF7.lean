/-
  The contract of math/bits.Div64: two words divided by one that is greater than the high one: the quotient and the rest.
-/
import Derived.Test.YtpjfapibjihbbaaGreatDoorF3
import Derived.Test.YtpjfapibjihbbaaGreatDoorF6
namespace Go.Proofs
set_option linter.unusedVariables false
open Go.Shelf
def Tryz.lays134_ren : Go.Shelf.Ren := ⟨fun | 134 => 159 | 129 => 124 | n => n, fun | 53 => 22 | 3 => 3 | 4 => 4 | 46 => 140 | 5 => 5 | 9 => 9 | n => n, fun | n => n⟩
theorem Tryz.lays134 : Go.Proofs.Lays.n134 Tryz.prog Tryz.lays134_ren := {
  mixed := by kernel_rfl
  f129 := Tryz.func124.trans (congrArg some (by kernel_rfl))
  f134 := Tryz.func159.trans (congrArg some (by kernel_rfl))
  t3 := Tryz.underlying3
  a3 := Tryz.isAgg3
  z3 := Tryz.sizeOf3
  v3 := Tryz.zeroValue3
  t4 := Tryz.underlying4
  a4 := Tryz.isAgg4
  z4 := Tryz.sizeOf4
  v4 := Tryz.zeroValue4
  t5 := Tryz.underlying5
  a5 := Tryz.isAgg5
  z5 := Tryz.sizeOf5
  v5 := Tryz.zeroValue5
  t9 := Tryz.underlying9
  a9 := Tryz.isAgg9
  z9 := Tryz.sizeOf9
  v9 := Tryz.zeroValue9
  t46 := Tryz.underlying140
  a46 := Tryz.isAgg140
  z46 := Tryz.sizeOf140
  v46 := Tryz.zeroValue140
  t53 := Tryz.underlying22
  a53 := Tryz.isAgg22
  z53 := Tryz.sizeOf22
  v53 := Tryz.zeroValue22 }
theorem Tryz.bits_LeadingZeros64 (x : Int) (w : World) (h0 : 0 ≤ x) (h1 : x ≤ 18446744073709551615) :
    Calls Tryz.prog 159 #[.int .u64 x] w fun e w' => e = .returned (.int .i64 (64 - (Lib.bitLen x.toNat : Int))) ∧ w' = w := Any.bits_LeadingZeros64 Tryz.lays134 x w h0 h1
end Go.Proofs
namespace Go.Proofs.YtpjfapibjihbbaaGreatDoor.Md
set_option linter.unusedVariables false
open Go.RowKit

/-- What a loop that puts a guess right keeps. -/
def KInv (u y1 Q q r : Int) : Prop := q * y1 + r = u ∧ Q ≤ q
/-- A digit: what is divided, and what is left. -/
def KDig (u d y1 y0 Q R : Int) : Prop := u * 4294967296 + d = Q * (y1 * 4294967296 + y0) + R ∧ 0 ≤ R ∧ R < y1 * 4294967296 + y0

theorem k_decA (u y1 Q q r : Int) (hK : KInv u y1 Q q r) (hQ : Q < 4294967296) (hq : 4294967296 ≤ q) : KInv u y1 Q (q - 1) (r + y1) :=
  ⟨Plain.decr u y1 q r hK.1, by omega⟩
theorem k_decB (u d y1 y0 Q R q r p : Int) (hK : KInv u y1 Q q r) (hD : KDig u d y1 y0 Q R) (hp : q * y0 = p) (hgt : 4294967296 * r + d < p) : KInv u y1 Q (q - 1) (r + y1) :=
  ⟨Plain.decr u y1 q r hK.1, Plain.too_great u d y1 y0 q r p Q R hK.1 hp hgt (by have := hD.2; omega) hD.1 hD.2.1⟩
theorem k_break (u d y1 y0 Q R q r : Int) (hK : KInv u y1 Q q r) (hD : KDig u d y1 y0 Q R) (hq : q ≤ 4294967296) (hr : 4294967296 ≤ r) (hd : 0 ≤ d) (h0 : 0 ≤ y0) (h1 : y0 < 4294967296) : q = Q :=
  Plain.not_too_great u d y1 y0 q r _ Q R hK.1 rfl (Plain.great_rest q r y0 d hq hr hd h0 h1) (by have := hD.2; omega) hD.1 hD.2.2 hK.2
theorem k_exit (u d y1 y0 Q R q r p : Int) (hK : KInv u y1 Q q r) (hD : KDig u d y1 y0 Q R) (hp : q * y0 = p) (hle : p ≤ 4294967296 * r + d) : q = Q :=
  Plain.not_too_great u d y1 y0 q r p Q R hK.1 hp hle (by have := hD.2; omega) hD.1 hD.2.2 hK.2

set_option maxHeartbeats 4000000 in
theorem div_walk (hi lo y : Int) (s : Nat) (Y y1 y0 H L u N n1 n0 ps rs Q1 R1 ps2 rs2 Q0 R0 : Int) (h1 : 0 < y) (h2 : y < 18446744073709551616) (h3 : hi < y) (h4 : 0 < hi) (_h5 : 0 ≤ lo) (_h6 : lo < 18446744073709551616) (hs : s ≤ 63)
    (r1 : IntKind.u64.wrap (y * 2 ^ s) = Y) (r2 : Y / 4294967296 = y1) (r3 : bits .and .u64 Y 4294967295 = y0)
    (r4 : IntKind.u64.wrap (hi * 2 ^ s) = H) (r5 : lo / 2 ^ (64 - s) = L) (r6 : bits .or .u64 H L = u)
    (r7 : IntKind.u64.wrap (lo * 2 ^ s) = N) (r8 : N / 4294967296 = n1) (r9 : bits .and .u64 N 4294967295 = n0)
    (r11 : IntKind.u64.wrap (u / y1 * y1) = ps) (r12 : IntKind.u64.wrap (u - ps) = rs)
    (rR : IntKind.u64.wrap (IntKind.u64.wrap (IntKind.u64.wrap (u * 4294967296) + n1) - IntKind.u64.wrap (Q1 * Y)) = R1)
    (r21 : IntKind.u64.wrap (R1 / y1 * y1) = ps2) (r22 : IntKind.u64.wrap (R1 - ps2) = rs2)
    (rS : IntKind.u64.wrap (IntKind.u64.wrap (IntKind.u64.wrap (R1 * 4294967296) + n0) - IntKind.u64.wrap (Q0 * Y)) = R0)
    (b1 : 2147483648 ≤ y1) (b2 : y1 < 4294967296) (b3 : 0 ≤ y0) (b4 : y0 < 4294967296) (b5 : 0 ≤ u) (b6 : u < 18446744073709551616) (n1ge : 0 ≤ n1) (b8 : n1 < 4294967296) (n0ge : 0 ≤ n0) (b10 : n0 < 4294967296)
    (c1 : 0 ≤ u / y1) (c2 : u / y1 ≤ 4294967297) (c3 : 0 ≤ rs) (c4 : rs < 4294967296) (HK : KInv u y1 Q1 (u / y1) rs) (HDQ1 : KDig u n1 y1 y0 Q1 R1) (d1 : 0 ≤ Q1) (Q1lt : Q1 < 4294967296)
    (R1ge : 0 ≤ R1) (R1lt : R1 < 18446744073709551616) (e1 : 0 ≤ R1 / y1) (e2 : R1 / y1 ≤ 4294967297) (e3 : 0 ≤ rs2) (e4 : rs2 < 4294967296) (HK2 : KInv R1 y1 Q0 (R1 / y1) rs2) (HDQ0 : KDig R1 n0 y1 y0 Q0 R0) (d3 : 0 ≤ Q0) (Q0lt : Q0 < 4294967296) (_R0ge : 0 ≤ R0) (_R0lt : R0 < 18446744073709551616)
    (hlz : ∀ w, Calls Tryz.prog 159 #[.int .u64 y] w fun e w' => e = .returned (.int .i64 s) ∧ w' = w)
    (w : World) : Calls Tryz.prog 158 #[.int .u64 hi, .int .u64 lo, .int .u64 y] w fun e w' => e = .returned (.tuple #[.int .u64 (Q1 * 4294967296 + Q0), .int .u64 (R0 / 2 ^ s)]) ∧ w' = w := by
  go_enter Tryz.func158, Tryz.ntmps158
  have HL : Hid (∀ w, Calls Tryz.prog 159 #[.int .u64 y] w fun e w' => e = .returned (.int .i64 s) ∧ w' = w) := hlz
  clear hlz
  go_wp2_with fail
  refine (HL.out _).mono ?_
  rintro e w1 ⟨rfl, rfl⟩
  clear HL
  go_wp2
  clear r1 r2 r3 r4 r5 r6 r7 r8 r9 r11 r12
  go_loop [15, 16] (fun a b => ∃ q r : Int, a = .int .u64 q ∧ b = .int .u64 r ∧ 0 ≤ q ∧ q ≤ 4294967297 ∧ 0 ≤ r ∧ r < 4294967296 ∧ KInv u y1 Q1 q r) (fun a _ => (intOf a).toNat)
  case atStart => exact ⟨u / y1, rs, rfl, rfl, c1, c2, c3, c4, HK⟩
  case round =>
    obtain ⟨q, r, rfl, rfl, k1, k2, k3, k4, k5⟩ := hrel
    by_cases hA : 4294967296 ≤ q
    · have hK := k_decA u y1 Q1 q r k5 Q1lt hA
      by_cases hB : r + y1 < 4294967296
      · go_wp2
        go_round
        case rel => exact ⟨q - 1, r + y1, rfl, rfl, by omega, by omega, by omega, by omega, hK⟩
        case measure => simp [intOf]; omega
      · obtain rfl : q = Q1 + 1 := by have := k_break u n1 y1 y0 Q1 R1 (q - 1) (r + y1) hK HDQ1 (by omega) (by omega) n1ge b3 b4; omega
        clear hK k5
        go_wp2
        go_loop [18, 16] (fun a b => ∃ q r : Int, a = .int .u64 q ∧ b = .int .u64 r ∧ 0 ≤ q ∧ q ≤ 4294967297 ∧ 0 ≤ r ∧ r < 4294967296 ∧ KInv R1 y1 Q0 q r) (fun a _ => (intOf a).toNat)
        case atStart => exact ⟨R1 / y1, rs2, rfl, rfl, e1, e2, e3, e4, HK2⟩
        case round =>
          obtain ⟨q, r, rfl, rfl, k1, k2, k3, k4, k5⟩ := hrel
          by_cases hA : 4294967296 ≤ q
          · have hK := k_decA R1 y1 Q0 q r k5 Q0lt hA
            by_cases hB : r + y1 < 4294967296
            · go_wp2
              go_round
              case rel => exact ⟨q - 1, r + y1, rfl, rfl, by omega, by omega, by omega, by omega, hK⟩
              case measure => simp [intOf]; omega
            · obtain rfl : q = Q0 + 1 := by have := k_break R1 n0 y1 y0 Q0 R0 (q - 1) (r + y1) hK HDQ0 (by omega) (by omega) n0ge b3 b4; omega
              clear hK k5
              go_wp2
              go_ret2
              exact ⟨rfl, rfl⟩
          · obtain ⟨p, hp⟩ : ∃ p, q * y0 = p := ⟨_, rfl⟩
            have hpb := Plain.prod_lt q y0 k1 (by omega) b3 b4
            rw [hp] at hpb
            have hw : IntKind.u64.wrap (q * y0) = p := by rw [hp, IntKind.wrap_u64]; omega
            obtain ⟨hp0, hp1⟩ := hpb
            by_cases hC : 4294967296 * r + n0 < p
            · have hK := k_decB R1 n0 y1 y0 Q0 R0 q r p k5 HDQ0 hp hC
              have hq0 : 1 ≤ q := by have := hK.2; omega
              by_cases hB : r + y1 < 4294967296
              · clear hp
                go_wp2
                go_round
                case rel => exact ⟨q - 1, r + y1, rfl, rfl, by omega, by omega, by omega, by omega, hK⟩
                case measure => simp [intOf]; omega
              · obtain rfl : q = Q0 + 1 := by have := k_break R1 n0 y1 y0 Q0 R0 (q - 1) (r + y1) hK HDQ0 (by omega) (by omega) n0ge b3 b4; omega
                clear hK k5 hp
                go_wp2
                go_ret2
                exact ⟨rfl, rfl⟩
            · obtain rfl : q = Q0 := k_exit R1 n0 y1 y0 Q0 R0 q r p k5 HDQ0 hp (by omega)
              clear k5 hp
              go_wp2
              go_ret2
              exact ⟨rfl, rfl⟩
    · obtain ⟨p, hp⟩ : ∃ p, q * y0 = p := ⟨_, rfl⟩
      have hpb := Plain.prod_lt q y0 k1 (by omega) b3 b4
      rw [hp] at hpb
      have hw : IntKind.u64.wrap (q * y0) = p := by rw [hp, IntKind.wrap_u64]; omega
      obtain ⟨hp0, hp1⟩ := hpb
      by_cases hC : 4294967296 * r + n1 < p
      · have hK := k_decB u n1 y1 y0 Q1 R1 q r p k5 HDQ1 hp hC
        have hq0 : 1 ≤ q := by have := hK.2; omega
        by_cases hB : r + y1 < 4294967296
        · clear hp
          go_wp2
          go_round
          case rel => exact ⟨q - 1, r + y1, rfl, rfl, by omega, by omega, by omega, by omega, hK⟩
          case measure => simp [intOf]; omega
        · obtain rfl : q = Q1 + 1 := by have := k_break u n1 y1 y0 Q1 R1 (q - 1) (r + y1) hK HDQ1 (by omega) (by omega) n1ge b3 b4; omega
          clear hK k5 hp
          go_wp2
          go_loop [18, 16] (fun a b => ∃ q r : Int, a = .int .u64 q ∧ b = .int .u64 r ∧ 0 ≤ q ∧ q ≤ 4294967297 ∧ 0 ≤ r ∧ r < 4294967296 ∧ KInv R1 y1 Q0 q r) (fun a _ => (intOf a).toNat)
          case atStart => exact ⟨R1 / y1, rs2, rfl, rfl, e1, e2, e3, e4, HK2⟩
          case round =>
            obtain ⟨q, r, rfl, rfl, k1, k2, k3, k4, k5⟩ := hrel
            by_cases hA : 4294967296 ≤ q
            · have hK := k_decA R1 y1 Q0 q r k5 Q0lt hA
              by_cases hB : r + y1 < 4294967296
              · go_wp2
                go_round
                case rel => exact ⟨q - 1, r + y1, rfl, rfl, by omega, by omega, by omega, by omega, hK⟩
                case measure => simp [intOf]; omega
              · obtain rfl : q = Q0 + 1 := by have := k_break R1 n0 y1 y0 Q0 R0 (q - 1) (r + y1) hK HDQ0 (by omega) (by omega) n0ge b3 b4; omega
                clear hK k5
                go_wp2
                go_ret2
                exact ⟨rfl, rfl⟩
            · obtain ⟨p, hp⟩ : ∃ p, q * y0 = p := ⟨_, rfl⟩
              have hpb := Plain.prod_lt q y0 k1 (by omega) b3 b4
              rw [hp] at hpb
              have hw : IntKind.u64.wrap (q * y0) = p := by rw [hp, IntKind.wrap_u64]; omega
              obtain ⟨hp0, hp1⟩ := hpb
              by_cases hC : 4294967296 * r + n0 < p
              · have hK := k_decB R1 n0 y1 y0 Q0 R0 q r p k5 HDQ0 hp hC
                have hq0 : 1 ≤ q := by have := hK.2; omega
                by_cases hB : r + y1 < 4294967296
                · clear hp
                  go_wp2
                  go_round
                  case rel => exact ⟨q - 1, r + y1, rfl, rfl, by omega, by omega, by omega, by omega, hK⟩
                  case measure => simp [intOf]; omega
                · obtain rfl : q = Q0 + 1 := by have := k_break R1 n0 y1 y0 Q0 R0 (q - 1) (r + y1) hK HDQ0 (by omega) (by omega) n0ge b3 b4; omega
                  clear hK k5 hp
                  go_wp2
                  go_ret2
                  exact ⟨rfl, rfl⟩
              · obtain rfl : q = Q0 := k_exit R1 n0 y1 y0 Q0 R0 q r p k5 HDQ0 hp (by omega)
                clear k5 hp
                go_wp2
                go_ret2
                exact ⟨rfl, rfl⟩
      · obtain rfl : q = Q1 := k_exit u n1 y1 y0 Q1 R1 q r p k5 HDQ1 hp (by omega)
        clear k5 hp
        go_wp2
        go_loop [18, 16] (fun a b => ∃ q r : Int, a = .int .u64 q ∧ b = .int .u64 r ∧ 0 ≤ q ∧ q ≤ 4294967297 ∧ 0 ≤ r ∧ r < 4294967296 ∧ KInv R1 y1 Q0 q r) (fun a _ => (intOf a).toNat)
        case atStart => exact ⟨R1 / y1, rs2, rfl, rfl, e1, e2, e3, e4, HK2⟩
        case round =>
          obtain ⟨q, r, rfl, rfl, k1, k2, k3, k4, k5⟩ := hrel
          by_cases hA : 4294967296 ≤ q
          · have hK := k_decA R1 y1 Q0 q r k5 Q0lt hA
            by_cases hB : r + y1 < 4294967296
            · go_wp2
              go_round
              case rel => exact ⟨q - 1, r + y1, rfl, rfl, by omega, by omega, by omega, by omega, hK⟩
              case measure => simp [intOf]; omega
            · obtain rfl : q = Q0 + 1 := by have := k_break R1 n0 y1 y0 Q0 R0 (q - 1) (r + y1) hK HDQ0 (by omega) (by omega) n0ge b3 b4; omega
              clear hK k5
              go_wp2
              go_ret2
              exact ⟨rfl, rfl⟩
          · obtain ⟨p, hp⟩ : ∃ p, q * y0 = p := ⟨_, rfl⟩
            have hpb := Plain.prod_lt q y0 k1 (by omega) b3 b4
            rw [hp] at hpb
            have hw : IntKind.u64.wrap (q * y0) = p := by rw [hp, IntKind.wrap_u64]; omega
            obtain ⟨hp0, hp1⟩ := hpb
            by_cases hC : 4294967296 * r + n0 < p
            · have hK := k_decB R1 n0 y1 y0 Q0 R0 q r p k5 HDQ0 hp hC
              have hq0 : 1 ≤ q := by have := hK.2; omega
              by_cases hB : r + y1 < 4294967296
              · clear hp
                go_wp2
                go_round
                case rel => exact ⟨q - 1, r + y1, rfl, rfl, by omega, by omega, by omega, by omega, hK⟩
                case measure => simp [intOf]; omega
              · obtain rfl : q = Q0 + 1 := by have := k_break R1 n0 y1 y0 Q0 R0 (q - 1) (r + y1) hK HDQ0 (by omega) (by omega) n0ge b3 b4; omega
                clear hK k5 hp
                go_wp2
                go_ret2
                exact ⟨rfl, rfl⟩
            · obtain rfl : q = Q0 := k_exit R1 n0 y1 y0 Q0 R0 q r p k5 HDQ0 hp (by omega)
              clear k5 hp
              go_wp2
              go_ret2
              exact ⟨rfl, rfl⟩

theorem lz_any (y : Int) (h1 : 0 < y) (h2 : y < 18446744073709551616) : ∃ s : Nat, s ≤ 63 ∧ 9223372036854775808 ≤ y * 2 ^ s ∧ y * 2 ^ s < 18446744073709551616 ∧
    ∀ w, Calls Tryz.prog 159 #[.int .u64 y] w fun e w' => e = .returned (.int .i64 s) ∧ w' = w := by
  obtain ⟨n, rfl⟩ := Int.eq_ofNat_of_zero_le (show 0 ≤ y by omega)
  obtain ⟨i1, i2, i3, i4⟩ := Plain.shift_fits n (by omega) (by omega)
  have e : ((n : Int) * 2 ^ (64 - Lib.bitLen n)) = ((n * 2 ^ (64 - Lib.bitLen n) : Nat) : Int) := by simp
  refine ⟨64 - Lib.bitLen n, by omega, by rw [e]; omega, by rw [e]; omega, fun w => ?_⟩
  refine (Tryz.bits_LeadingZeros64 n w (by omega) (by omega)).mono fun e w' ⟨he, hw⟩ => ⟨?_, hw⟩
  rw [he]
  have : (64 - (Lib.bitLen (n : Int).toNat : Int)) = ((64 - Lib.bitLen n : Nat) : Int) := by rw [Int.toNat_natCast]; omega
  rw [this]

/-- The start of a digit's guess. -/
theorem k_start (u d y1 y0 Q R : Int) (b5 : 0 ≤ u) (_b6 : u < 18446744073709551616) (b1 : 2147483648 ≤ y1) (b2 : y1 < 4294967296) (b3 : 0 ≤ y0) (b4 : y0 < 4294967296) (hu : u < y1 * 4294967296 + y0) (hd : d < 4294967296) (hD : KDig u d y1 y0 Q R) :
    0 ≤ u / y1 ∧ u / y1 ≤ 4294967297 ∧ KInv u y1 Q (u / y1) (IntKind.u64.wrap (u - IntKind.u64.wrap (u / y1 * y1))) ∧ 0 ≤ IntKind.u64.wrap (u - IntKind.u64.wrap (u / y1 * y1)) ∧ IntKind.u64.wrap (u - IntKind.u64.wrap (u / y1 * y1)) < 4294967296 := by
  have e0 : u / y1 * y1 + u % y1 = u := Int.ediv_mul_add_emod u y1
  have r0 := Int.emod_nonneg u (show y1 ≠ 0 by omega)
  have r1 := Int.emod_lt_of_pos u (show 0 < y1 by omega)
  have q0 : 0 ≤ u / y1 := Int.ediv_nonneg b5 (by omega)
  have q1 := Int.mul_nonneg q0 (show 0 ≤ y1 by omega)
  have ew : IntKind.u64.wrap (u - IntKind.u64.wrap (u / y1 * y1)) = u % y1 := by
    rw [IntKind.wrap_u64, IntKind.wrap_u64]; omega
  rw [ew]
  exact ⟨q0, Plain.q_le u y1 y0 _ _ e0 r0 hu b4 b1, ⟨e0, Plain.q_ge u d y1 y0 _ _ Q R e0 r1 q0 hd b3 (by omega) hD.1 hD.2.1⟩, r0, by omega⟩

theorem k_digit (u d y1 y0 : Int) (b5 : 0 ≤ u) (_b1 : 2147483648 ≤ y1) (_b3 : 0 ≤ y0) (hu : u < y1 * 4294967296 + y0) (hd0 : 0 ≤ d) (hd : d < 4294967296) :
    ∃ Q R, KDig u d y1 y0 Q R ∧ 0 ≤ Q ∧ Q < 4294967296 := by
  have hY : 0 < y1 * 4294967296 + y0 := by omega
  have hT : u * 4294967296 + d = (u * 4294967296 + d) / (y1 * 4294967296 + y0) * (y1 * 4294967296 + y0) + (u * 4294967296 + d) % (y1 * 4294967296 + y0) := (Int.ediv_mul_add_emod _ _).symm
  have r0 := Int.emod_nonneg (u * 4294967296 + d) (show y1 * 4294967296 + y0 ≠ 0 by omega)
  have r1 := Int.emod_lt_of_pos (u * 4294967296 + d) hY
  exact ⟨_, _, ⟨hT, r0, r1⟩, Int.ediv_nonneg (by omega) (by omega), Plain.digit_lt u d _ _ _ hu hd hY hT r0⟩

theorem div_pos (hi lo y : Int) (h1 : 0 < y) (h2 : y < 18446744073709551616) (h3 : hi < y) (h4 : 0 < hi) (h5 : 0 ≤ lo) (h6 : lo < 18446744073709551616) (w : World) :
    Calls Tryz.prog 158 #[.int .u64 hi, .int .u64 lo, .int .u64 y] w fun e w' => e = .returned (.tuple #[.int .u64 ((hi * 18446744073709551616 + lo) / y), .int .u64 ((hi * 18446744073709551616 + lo) % y)]) ∧ w' = w := by
  obtain ⟨s, hs, y63, y64, hlz⟩ := lz_any y h1 h2
  have m0 : (0 : Int) < 2 ^ s := Int.pow_pos (by decide)
  have k0 : (0 : Int) < 2 ^ (64 - s) := Int.pow_pos (by decide)
  have mk : (2 : Int) ^ s * 2 ^ (64 - s) = 18446744073709551616 := by rw [← Int.pow_add, show s + (64 - s) = 64 by omega]; rfl
  obtain ⟨sh, l0, l1⟩ := Plain.shifted hi lo (2 ^ s) (2 ^ (64 - s)) m0 k0 mk h5 h6
  have N0 : 0 ≤ (lo * 2 ^ s) % 18446744073709551616 := by omega
  have ut := Plain.top_lt hi lo (2 ^ s) y (hi * 2 ^ s + lo / 2 ^ (64 - s)) _ m0 h3 h6 N0 sh
  have hm0 := Int.mul_nonneg (show 0 ≤ hi by omega) (show (0 : Int) ≤ 2 ^ s by omega)
  have hm1 : hi * 2 ^ s < 18446744073709551616 := by
    have := Int.mul_lt_mul_of_pos_right h3 m0
    omega
  have m64 : (2 : Int) ^ s ≤ 9223372036854775808 := by
    have : (2 : Nat) ^ s ≤ 2 ^ 63 := Nat.pow_le_pow_right (by decide) hs
    have e : ((2 ^ s : Nat) : Int) = 2 ^ s := by simp
    omega
  have hj := Plain.or_join s hi (lo / 2 ^ (64 - s)) (by omega) hm1 l0 l1 (by omega)
  generalize hY : y * 2 ^ s = Y at *
  generalize hu : hi * 2 ^ s + lo / 2 ^ (64 - s) = u at *
  generalize hN : (lo * 2 ^ s) % 18446744073709551616 = N at *
  have N1 : N < 18446744073709551616 := by omega
  have y1b : 2147483648 ≤ Y / 4294967296 ∧ Y / 4294967296 < 4294967296 ∧ 0 ≤ Y % 4294967296 ∧ Y % 4294967296 < 4294967296 := by omega
  have n1b : 0 ≤ N / 4294967296 ∧ N / 4294967296 < 4294967296 ∧ 0 ≤ N % 4294967296 ∧ N % 4294967296 < 4294967296 := by omega
  have eY : Y / 4294967296 * 4294967296 + Y % 4294967296 = Y := by omega
  have eN : N / 4294967296 * 4294967296 + N % 4294967296 = N := by omega
  have u0 : 0 ≤ u := by omega
  have w1 : IntKind.u64.wrap Y = Y := by rw [IntKind.wrap_u64]; omega
  have w4 : IntKind.u64.wrap (hi * 2 ^ s) = hi * 2 ^ s := by rw [IntKind.wrap_u64]; omega
  have w7 : IntKind.u64.wrap (lo * 2 ^ s) = N := by rw [IntKind.wrap_u64]; exact hN
  obtain ⟨q1, q2, q3, q4⟩ := y1b
  obtain ⟨p1, p2, p3, p4⟩ := n1b
  have a3 := Plain.and_mask Y (by omega) (by omega)
  have a9 := Plain.and_mask N N0 N1
  generalize hy1 : Y / 4294967296 = y1 at *
  generalize hy0 : Y % 4294967296 = y0 at *
  generalize hn1 : N / 4294967296 = n1 at *
  generalize hn0 : N % 4294967296 = n0 at *
  have uY : u < y1 * 4294967296 + y0 := by omega
  obtain ⟨Q1, R1, D1, Q1a, Q1b⟩ := k_digit u n1 y1 y0 u0 q1 q3 uY p1 p2
  have R1b : 0 ≤ R1 ∧ R1 < y1 * 4294967296 + y0 := D1.2
  obtain ⟨Q0, R0, D0, Q0a, Q0b⟩ := k_digit R1 n0 y1 y0 R1b.1 q1 q3 R1b.2 p3 p4
  have R0b : 0 ≤ R0 ∧ R0 < y1 * 4294967296 + y0 := D0.2
  obtain ⟨s1, s2, s3, s4, s5⟩ := k_start u n1 y1 y0 Q1 R1 u0 (by omega) q1 q2 q3 q4 uY p2 D1
  obtain ⟨t1, t2, t3, t4, t5⟩ := k_start R1 n0 y1 y0 Q0 R0 R1b.1 (by omega) q1 q2 q3 q4 R1b.2 p4 D0
  have eR1 : u * 4294967296 + n1 - Q1 * Y = R1 := by have := D1.1; rw [eY] at this; omega
  have eR0 : R1 * 4294967296 + n0 - Q0 * Y = R0 := by have := D0.1; rw [eY] at this; omega
  refine (div_walk hi lo y s Y y1 y0 (hi * 2 ^ s) (lo / 2 ^ (64 - s)) u N n1 n0 _ _ Q1 R1 _ _ Q0 R0 h1 h2 h3 h4 h5 h6 hs (by rw [hY]; exact w1) hy1 a3 w4 rfl hj w7 hn1 a9 rfl rfl
    (by rw [Plain.wrap_sub, eR1]; omega) rfl rfl (by rw [Plain.wrap_sub, eR0]; omega) q1 q2 q3 q4 u0 (by omega) p1 p2 p3 p4 s1 s2 s4 s5 s3 D1 Q1a Q1b R1b.1 (by omega) t1 t2 t4 t5 t3 D0 Q0a Q0b R0b.1 (by omega) hlz w).mono fun e w' ⟨he, hw⟩ => ⟨?_, hw⟩
  have hb := Plain.back (hi * 18446744073709551616 + lo) (2 ^ s) y Q1 Q0 u n1 n0 R1 R0 m0 (by rw [← sh]; omega) (by rw [hY]; omega) (by rw [hY]; omega) R0b.1 (by rw [hY]; omega)
  obtain ⟨g1, g2⟩ := Plain.div_unique _ y _ _ h1 hb.1 hb.2.1 hb.2.2
  rw [he, g1, g2]

set_option maxHeartbeats 1000000 in
theorem div_zero (lo y : Int) (h1 : 0 < y) (h2 : y < 18446744073709551616) (h5 : 0 ≤ lo) (h6 : lo < 18446744073709551616) (w : World) :
    Calls Tryz.prog 158 #[.int .u64 0, .int .u64 lo, .int .u64 y] w fun e w' => e = .returned (.tuple #[.int .u64 (lo / y), .int .u64 (lo % y)]) ∧ ∃ n, w' = w.drewN n := by
  go_enter Tryz.func158, Tryz.ntmps158
  go_wp2
  go_region
  go_wp2
  go_ret2
  exact ⟨rfl, 1, rfl⟩

theorem div_any (hi lo y : Int) (h1 : 0 < y) (h2 : y < 18446744073709551616) (h3 : hi < y) (h4 : 0 ≤ hi) (h5 : 0 ≤ lo) (h6 : lo < 18446744073709551616) (w : World) :
    Calls Tryz.prog 158 #[.int .u64 hi, .int .u64 lo, .int .u64 y] w fun e w' => e = .returned (.tuple #[.int .u64 ((hi * 18446744073709551616 + lo) / y), .int .u64 ((hi * 18446744073709551616 + lo) % y)]) ∧ ∃ n, w' = w.drewN n := by
  by_cases h0 : hi = 0
  · subst h0
    rw [Int.zero_mul, Int.zero_add]
    exact div_zero lo y h1 h2 h5 h6 w
  · exact (div_pos hi lo y h1 h2 h3 (by omega) h5 h6 w).mono fun e w' ⟨he, hw⟩ => ⟨he, 0, hw⟩
end Go.Proofs.YtpjfapibjihbbaaGreatDoor.Md

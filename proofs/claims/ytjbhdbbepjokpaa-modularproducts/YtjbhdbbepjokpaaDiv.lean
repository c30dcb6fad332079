/-
  The contract of math/bits.Div64: two words divided by one that is greater than the high one: the quotient and the rest.
-/
import Derived.Test.YtjbhdbbepjokpaaBits
import Derived.Test.YtjbhdbbepjokpaaPlain2
namespace Go.Proofs.Ytjbhdbbepjokpaa
set_option linter.unusedVariables false
open Go.RowKit

/-- What a loop that puts a guess right keeps. -/
def KInv (u y1 Q q r : Int) : Prop := q * y1 + r = u ∧ Q ≤ q
/-- A digit: what is divided, and what is left. -/
def KDig (u d y1 y0 Q R : Int) : Prop := u * 4294967296 + d = Q * (y1 * 4294967296 + y0) + R ∧ 0 ≤ R ∧ R < y1 * 4294967296 + y0

theorem k_decA (u y1 Q q r : Int) (hK : KInv u y1 Q q r) (hQ : Q < 4294967296) (hq : 4294967296 ≤ q) : KInv u y1 Q (q - 1) (r + y1) :=
  ⟨Plain.decr u y1 q r hK.1, by omega⟩
theorem k_decB (u d y1 y0 Q R q r p : Int) (hK : KInv u y1 Q q r) (hD : KDig u d y1 y0 Q R) (hp : q * y0 = p) (hgt : 4294967296 * r + d < p) : KInv u y1 Q (q - 1) (r + y1) :=
  ⟨Plain.decr u y1 q r hK.1, Plain.too_great u d y1 y0 q r p Q R hK.1 hp hgt (by have := hD.2; omega) hD.1 hD.2.1⟩
theorem k_break (u d y1 y0 Q R q r : Int) (hK : KInv u y1 Q q r) (hD : KDig u d y1 y0 Q R) (hq : q ≤ 4294967296) (hr : 4294967296 ≤ r) (hd : 0 ≤ d) (h0 : 0 ≤ y0) (h1 : y0 < 4294967296) : q = Q :=
  Plain.not_too_great u d y1 y0 q r _ Q R hK.1 rfl (Plain.great_rest q r y0 d hq hr hd h0 h1) (by have := hD.2; omega) hD.1 hD.2.2 hK.2
theorem k_exit (u d y1 y0 Q R q r p : Int) (hK : KInv u y1 Q q r) (hD : KDig u d y1 y0 Q R) (hp : q * y0 = p) (hle : p ≤ 4294967296 * r + d) : q = Q :=
  Plain.not_too_great u d y1 y0 q r p Q R hK.1 hp hle (by have := hD.2; omega) hD.1 hD.2.2 hK.2

set_option maxHeartbeats 4000000 in
theorem div_walk (hi lo y : Int) (s : Nat) (Y y1 y0 H L u N n1 n0 ps rs Q1 R1 ps2 rs2 Q0 R0 : Int) (h1 : 0 < y) (h2 : y < 18446744073709551616) (h3 : hi < y) (h4 : 0 < hi) (_h5 : 0 ≤ lo) (_h6 : lo < 18446744073709551616) (hs : s ≤ 63)
    (r1 : IntKind.u64.wrap (y * 2 ^ s) = Y) (r2 : Y / 4294967296 = y1) (r3 : bits .and .u64 Y 4294967295 = y0)
    (r4 : IntKind.u64.wrap (hi * 2 ^ s) = H) (r5 : lo / 2 ^ (64 - s) = L) (r6 : bits .or .u64 H L = u)
    (r7 : IntKind.u64.wrap (lo * 2 ^ s) = N) (r8 : N / 4294967296 = n1) (r9 : bits .and .u64 N 4294967295 = n0)
    (r11 : IntKind.u64.wrap (u / y1 * y1) = ps) (r12 : IntKind.u64.wrap (u - ps) = rs)
    (rR : IntKind.u64.wrap (IntKind.u64.wrap (IntKind.u64.wrap (u * 4294967296) + n1) - IntKind.u64.wrap (Q1 * Y)) = R1)
    (r21 : IntKind.u64.wrap (R1 / y1 * y1) = ps2) (r22 : IntKind.u64.wrap (R1 - ps2) = rs2)
    (rS : IntKind.u64.wrap (IntKind.u64.wrap (IntKind.u64.wrap (R1 * 4294967296) + n0) - IntKind.u64.wrap (Q0 * Y)) = R0)
    (b1 : 2147483648 ≤ y1) (b2 : y1 < 4294967296) (b3 : 0 ≤ y0) (b4 : y0 < 4294967296) (b5 : 0 ≤ u) (b6 : u < 18446744073709551616) (n1ge : 0 ≤ n1) (b8 : n1 < 4294967296) (n0ge : 0 ≤ n0) (b10 : n0 < 4294967296)
    (c1 : 0 ≤ u / y1) (c2 : u / y1 ≤ 4294967297) (c3 : 0 ≤ rs) (c4 : rs < 4294967296) (HK : KInv u y1 Q1 (u / y1) rs) (HDQ1 : KDig u n1 y1 y0 Q1 R1) (d1 : 0 ≤ Q1) (Q1lt : Q1 < 4294967296)
    (R1ge : 0 ≤ R1) (R1lt : R1 < 18446744073709551616) (e1 : 0 ≤ R1 / y1) (e2 : R1 / y1 ≤ 4294967297) (e3 : 0 ≤ rs2) (e4 : rs2 < 4294967296) (HK2 : KInv R1 y1 Q0 (R1 / y1) rs2) (HDQ0 : KDig R1 n0 y1 y0 Q0 R0) (d3 : 0 ≤ Q0) (Q0lt : Q0 < 4294967296) (_R0ge : 0 ≤ R0) (_R0lt : R0 < 18446744073709551616)
    (hlz : ∀ w, Calls Try.prog 29 #[.int .u64 y] w fun e w' => e = .returned (.int .i64 s) ∧ w' = w)
    (w : World) : Calls Try.prog 28 #[.int .u64 hi, .int .u64 lo, .int .u64 y] w fun e w' => e = .returned (.tuple #[.int .u64 (Q1 * 4294967296 + Q0), .int .u64 (R0 / 2 ^ s)]) ∧ w' = w := by
  go_enter Try.func28, Try.ntmps28
  have HL : Hid (∀ w, Calls Try.prog 29 #[.int .u64 y] w fun e w' => e = .returned (.int .i64 s) ∧ w' = w) := hlz
  clear hlz
  go_wp2_with fail
  refine (HL.out _).mono ?_
  rintro e w1 ⟨rfl, rfl⟩
  clear HL
  go_wp2
  clear r1 r2 r3 r4 r5 r6 r7 r8 r9 r11 r12
  go_loop [15, 16] (fun a b => ∃ q r : Int, a = .int .u64 q ∧ b = .int .u64 r ∧ 0 ≤ q ∧ q ≤ 4294967297 ∧ 0 ≤ r ∧ r < 4294967296 ∧ KInv u y1 Q1 q r) (fun a _ => (intOf a).toNat)
  case atStart => exact ⟨u / y1, rs, rfl, rfl, c1, c2, c3, c4, HK⟩
  case round =>
    obtain ⟨q, r, rfl, rfl, k1, k2, k3, k4, k5⟩ := hrel
    by_cases hA : 4294967296 ≤ q
    · have hK := k_decA u y1 Q1 q r k5 Q1lt hA
      by_cases hB : r + y1 < 4294967296
      · go_wp2
        go_round
        case rel => exact ⟨q - 1, r + y1, rfl, rfl, by omega, by omega, by omega, by omega, hK⟩
        case measure => simp [intOf]; omega
      · obtain rfl : q = Q1 + 1 := by have := k_break u n1 y1 y0 Q1 R1 (q - 1) (r + y1) hK HDQ1 (by omega) (by omega) n1ge b3 b4; omega
        clear hK k5
        go_wp2
        go_loop [18, 16] (fun a b => ∃ q r : Int, a = .int .u64 q ∧ b = .int .u64 r ∧ 0 ≤ q ∧ q ≤ 4294967297 ∧ 0 ≤ r ∧ r < 4294967296 ∧ KInv R1 y1 Q0 q r) (fun a _ => (intOf a).toNat)
        case atStart => exact ⟨R1 / y1, rs2, rfl, rfl, e1, e2, e3, e4, HK2⟩
        case round =>
          obtain ⟨q, r, rfl, rfl, k1, k2, k3, k4, k5⟩ := hrel
          by_cases hA : 4294967296 ≤ q
          · have hK := k_decA R1 y1 Q0 q r k5 Q0lt hA
            by_cases hB : r + y1 < 4294967296
            · go_wp2
              go_round
              case rel => exact ⟨q - 1, r + y1, rfl, rfl, by omega, by omega, by omega, by omega, hK⟩
              case measure => simp [intOf]; omega
            · obtain rfl : q = Q0 + 1 := by have := k_break R1 n0 y1 y0 Q0 R0 (q - 1) (r + y1) hK HDQ0 (by omega) (by omega) n0ge b3 b4; omega
              clear hK k5
              go_wp2
              go_ret2
              exact ⟨rfl, rfl⟩
          · obtain ⟨p, hp⟩ : ∃ p, q * y0 = p := ⟨_, rfl⟩
            have hpb := Plain.prod_lt q y0 k1 (by omega) b3 b4
            rw [hp] at hpb
            have hw : IntKind.u64.wrap (q * y0) = p := by rw [hp, IntKind.wrap_u64]; omega
            obtain ⟨hp0, hp1⟩ := hpb
            by_cases hC : 4294967296 * r + n0 < p
            · have hK := k_decB R1 n0 y1 y0 Q0 R0 q r p k5 HDQ0 hp hC
              have hq0 : 1 ≤ q := by have := hK.2; omega
              by_cases hB : r + y1 < 4294967296
              · clear hp
                go_wp2
                go_round
                case rel => exact ⟨q - 1, r + y1, rfl, rfl, by omega, by omega, by omega, by omega, hK⟩
                case measure => simp [intOf]; omega
              · obtain rfl : q = Q0 + 1 := by have := k_break R1 n0 y1 y0 Q0 R0 (q - 1) (r + y1) hK HDQ0 (by omega) (by omega) n0ge b3 b4; omega
                clear hK k5 hp
                go_wp2
                go_ret2
                exact ⟨rfl, rfl⟩
            · obtain rfl : q = Q0 := k_exit R1 n0 y1 y0 Q0 R0 q r p k5 HDQ0 hp (by omega)
              clear k5 hp
              go_wp2
              go_ret2
              exact ⟨rfl, rfl⟩
    · obtain ⟨p, hp⟩ : ∃ p, q * y0 = p := ⟨_, rfl⟩
      have hpb := Plain.prod_lt q y0 k1 (by omega) b3 b4
      rw [hp] at hpb
      have hw : IntKind.u64.wrap (q * y0) = p := by rw [hp, IntKind.wrap_u64]; omega
      obtain ⟨hp0, hp1⟩ := hpb
      by_cases hC : 4294967296 * r + n1 < p
      · have hK := k_decB u n1 y1 y0 Q1 R1 q r p k5 HDQ1 hp hC
        have hq0 : 1 ≤ q := by have := hK.2; omega
        by_cases hB : r + y1 < 4294967296
        · clear hp
          go_wp2
          go_round
          case rel => exact ⟨q - 1, r + y1, rfl, rfl, by omega, by omega, by omega, by omega, hK⟩
          case measure => simp [intOf]; omega
        · obtain rfl : q = Q1 + 1 := by have := k_break u n1 y1 y0 Q1 R1 (q - 1) (r + y1) hK HDQ1 (by omega) (by omega) n1ge b3 b4; omega
          clear hK k5 hp
          go_wp2
          go_loop [18, 16] (fun a b => ∃ q r : Int, a = .int .u64 q ∧ b = .int .u64 r ∧ 0 ≤ q ∧ q ≤ 4294967297 ∧ 0 ≤ r ∧ r < 4294967296 ∧ KInv R1 y1 Q0 q r) (fun a _ => (intOf a).toNat)
          case atStart => exact ⟨R1 / y1, rs2, rfl, rfl, e1, e2, e3, e4, HK2⟩
          case round =>
            obtain ⟨q, r, rfl, rfl, k1, k2, k3, k4, k5⟩ := hrel
            by_cases hA : 4294967296 ≤ q
            · have hK := k_decA R1 y1 Q0 q r k5 Q0lt hA
              by_cases hB : r + y1 < 4294967296
              · go_wp2
                go_round
                case rel => exact ⟨q - 1, r + y1, rfl, rfl, by omega, by omega, by omega, by omega, hK⟩
                case measure => simp [intOf]; omega
              · obtain rfl : q = Q0 + 1 := by have := k_break R1 n0 y1 y0 Q0 R0 (q - 1) (r + y1) hK HDQ0 (by omega) (by omega) n0ge b3 b4; omega
                clear hK k5
                go_wp2
                go_ret2
                exact ⟨rfl, rfl⟩
            · obtain ⟨p, hp⟩ : ∃ p, q * y0 = p := ⟨_, rfl⟩
              have hpb := Plain.prod_lt q y0 k1 (by omega) b3 b4
              rw [hp] at hpb
              have hw : IntKind.u64.wrap (q * y0) = p := by rw [hp, IntKind.wrap_u64]; omega
              obtain ⟨hp0, hp1⟩ := hpb
              by_cases hC : 4294967296 * r + n0 < p
              · have hK := k_decB R1 n0 y1 y0 Q0 R0 q r p k5 HDQ0 hp hC
                have hq0 : 1 ≤ q := by have := hK.2; omega
                by_cases hB : r + y1 < 4294967296
                · clear hp
                  go_wp2
                  go_round
                  case rel => exact ⟨q - 1, r + y1, rfl, rfl, by omega, by omega, by omega, by omega, hK⟩
                  case measure => simp [intOf]; omega
                · obtain rfl : q = Q0 + 1 := by have := k_break R1 n0 y1 y0 Q0 R0 (q - 1) (r + y1) hK HDQ0 (by omega) (by omega) n0ge b3 b4; omega
                  clear hK k5 hp
                  go_wp2
                  go_ret2
                  exact ⟨rfl, rfl⟩
              · obtain rfl : q = Q0 := k_exit R1 n0 y1 y0 Q0 R0 q r p k5 HDQ0 hp (by omega)
                clear k5 hp
                go_wp2
                go_ret2
                exact ⟨rfl, rfl⟩
      · obtain rfl : q = Q1 := k_exit u n1 y1 y0 Q1 R1 q r p k5 HDQ1 hp (by omega)
        clear k5 hp
        go_wp2
        go_loop [18, 16] (fun a b => ∃ q r : Int, a = .int .u64 q ∧ b = .int .u64 r ∧ 0 ≤ q ∧ q ≤ 4294967297 ∧ 0 ≤ r ∧ r < 4294967296 ∧ KInv R1 y1 Q0 q r) (fun a _ => (intOf a).toNat)
        case atStart => exact ⟨R1 / y1, rs2, rfl, rfl, e1, e2, e3, e4, HK2⟩
        case round =>
          obtain ⟨q, r, rfl, rfl, k1, k2, k3, k4, k5⟩ := hrel
          by_cases hA : 4294967296 ≤ q
          · have hK := k_decA R1 y1 Q0 q r k5 Q0lt hA
            by_cases hB : r + y1 < 4294967296
            · go_wp2
              go_round
              case rel => exact ⟨q - 1, r + y1, rfl, rfl, by omega, by omega, by omega, by omega, hK⟩
              case measure => simp [intOf]; omega
            · obtain rfl : q = Q0 + 1 := by have := k_break R1 n0 y1 y0 Q0 R0 (q - 1) (r + y1) hK HDQ0 (by omega) (by omega) n0ge b3 b4; omega
              clear hK k5
              go_wp2
              go_ret2
              exact ⟨rfl, rfl⟩
          · obtain ⟨p, hp⟩ : ∃ p, q * y0 = p := ⟨_, rfl⟩
            have hpb := Plain.prod_lt q y0 k1 (by omega) b3 b4
            rw [hp] at hpb
            have hw : IntKind.u64.wrap (q * y0) = p := by rw [hp, IntKind.wrap_u64]; omega
            obtain ⟨hp0, hp1⟩ := hpb
            by_cases hC : 4294967296 * r + n0 < p
            · have hK := k_decB R1 n0 y1 y0 Q0 R0 q r p k5 HDQ0 hp hC
              have hq0 : 1 ≤ q := by have := hK.2; omega
              by_cases hB : r + y1 < 4294967296
              · clear hp
                go_wp2
                go_round
                case rel => exact ⟨q - 1, r + y1, rfl, rfl, by omega, by omega, by omega, by omega, hK⟩
                case measure => simp [intOf]; omega
              · obtain rfl : q = Q0 + 1 := by have := k_break R1 n0 y1 y0 Q0 R0 (q - 1) (r + y1) hK HDQ0 (by omega) (by omega) n0ge b3 b4; omega
                clear hK k5 hp
                go_wp2
                go_ret2
                exact ⟨rfl, rfl⟩
            · obtain rfl : q = Q0 := k_exit R1 n0 y1 y0 Q0 R0 q r p k5 HDQ0 hp (by omega)
              clear k5 hp
              go_wp2
              go_ret2
              exact ⟨rfl, rfl⟩
end Go.Proofs.Ytjbhdbbepjokpaa

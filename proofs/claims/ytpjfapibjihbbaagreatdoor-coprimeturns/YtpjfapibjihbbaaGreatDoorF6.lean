/-
  Contracts of a context's calls Modulus, Add, Neg and Sub; what a nil context answers (beside MontC: what Mont2 and Mont3 have more).
-/
import Derived.Test.YtpjfapibjihbbaaGreatDoorF3
import Derived.Laws.BitsAllLaws
import Derived.Laws.Bits64
import Derived.Lib.BitFns
namespace Go.Proofs.YtpjfapibjihbbaaGreatDoor
set_option linter.unusedVariables false
open Go.RowKit

theorem modulus_walk (w : World) (b : Nat) (m : Int) (c0 : w.cell? ⟨b, 0, none⟩ = some (.int .u64 m)) : AnsW w 101 #[.pointer (some ⟨b, 0, none⟩)] (.int .u64 m) := by
  intro n
  go_enter Tryz.func101, Tryz.ntmps101
  go_wp2
  go_ret
  exact ⟨rfl, 0, rfl⟩
/-! ### Add, Neg, Sub -/
set_option maxHeartbeats 1000000 in
theorem madd_walk (w : World) (b : Nat) (x y m u v r : Int) (c0 : w.cell? ⟨b, 0, none⟩ = some (.int .u64 m)) (u0 : 0 ≤ u) (u1 : u < 9223372036854775808) (v0 : 0 ≤ v) (v1 : v < 9223372036854775808)
    (HR : AnsW w 147 #[.pointer (some ⟨b, 0, none⟩), .int .u64 x] (.int .u64 u))
    (HT : AnsW w 147 #[.pointer (some ⟨b, 0, none⟩), .int .u64 y] (.int .u64 v))
    (HO : Ans 79 #[.int .u64 (u + v), .int .u64 m] (.int .u64 r)) :
    AnsW w 138 #[.pointer (some ⟨b, 0, none⟩), .int .u64 x, .int .u64 y] (.int .u64 r) := by
  intro n
  go_enter Tryz.func138, Tryz.ntmps138
  go_wp2
  go_quiet ((first | (go_at_call 147; with_reducible exact AnsW.quiet HR) | (go_at_call 147; with_reducible exact AnsW.quiet HT) | (go_at_call 79; with_reducible exact Ans.quiet HO)))
  go_wp2
  go_ret
  exact ⟨rfl, _, by rw [World.drewN_drewN]⟩
/-- Add. -/
theorem madd_any {w : World} {b m g : Nat} (C : Ctx w b m g) (x y : Nat) (hx : x < 18446744073709551616) (hy : y < 18446744073709551616) :
    AnsW w 138 #[.pointer (some ⟨b, 0, none⟩), .int .u64 x, .int .u64 y] (.int .u64 (((x + y) % m : Nat) : Int)) := by
  have h1 := C.one
  have h2 := C.lt
  have hu := Nat.mod_lt x (show 0 < m by omega)
  have hv := Nat.mod_lt y (show 0 < m by omega)
  have e : (x % m + y % m) % m = (x + y) % m := by rw [← Nat.add_mod]
  have HO := once_any (x % m + y % m) m (by omega) (by omega) (by omega)
  rw [e, Int.natCast_add] at HO
  exact madd_walk w b x y m _ _ _ C.c0 (by omega) (by omega) (by omega) (by omega) (rest_any C x hx) (rest_any C y hy) HO
/-! ### Of a nil context 0 -/
theorem nil_modulus  (w : World) : AnsW w 101 #[.pointer none] (.int .u64 0) := by
  intro n
  go_enter Tryz.func101, Tryz.ntmps101
  go_wp2
  go_ret
  exact ⟨rfl, 0, rfl⟩
theorem nil_one  (w : World) : AnsW w 97 #[.pointer none] (.int .u64 0) := by
  intro n
  go_enter Tryz.func97, Tryz.ntmps97
  go_wp2
  go_ret
  exact ⟨rfl, 0, rfl⟩
theorem nil_mul (x y : Int) (w : World) : AnsW w 129 #[.pointer none, .int .u64 x, .int .u64 y] (.int .u64 0) := by
  intro n
  go_enter Tryz.func129, Tryz.ntmps129
  go_wp2
  go_ret
  exact ⟨rfl, 0, rfl⟩
theorem nil_in (x : Int) (w : World) : AnsW w 95 #[.pointer none, .int .u64 x] (.int .u64 0) := by
  intro n
  go_enter Tryz.func95, Tryz.ntmps95
  go_wp2
  go_ret
  exact ⟨rfl, 0, rfl⟩
theorem nil_out (x : Int) (w : World) : AnsW w 153 #[.pointer none, .int .u64 x] (.int .u64 0) := by
  intro n
  go_enter Tryz.func153, Tryz.ntmps153
  go_wp2
  go_ret
  exact ⟨rfl, 0, rfl⟩
theorem nil_add (x y : Int) (w : World) : AnsW w 138 #[.pointer none, .int .u64 x, .int .u64 y] (.int .u64 0) := by
  intro n
  go_enter Tryz.func138, Tryz.ntmps138
  go_wp2
  go_ret
  exact ⟨rfl, 0, rfl⟩
theorem nil_pow (x y : Int) (w : World) : AnsW w 96 #[.pointer none, .int .u64 x, .int .u64 y] (.int .u64 0) := by
  intro n
  go_enter Tryz.func96, Tryz.ntmps96
  go_wp2
  go_ret
  exact ⟨rfl, 0, rfl⟩
end Go.Proofs.YtpjfapibjihbbaaGreatDoor
/-
  Plain arithmetic of a division of two words by one, and of Euclid's row (no Go in sight).
-/
namespace Go.Proofs.YtpjfapibjihbbaaGreatDoor.Plain
set_option linter.unusedVariables false

/-- The first guess of a digit is at most two too great for a digit. -/
theorem q_le (u y1 y0 q r : Int) (h : q * y1 + r = u) (hr : 0 ≤ r) (hu : u < y1 * 4294967296 + y0) (hy0 : y0 < 4294967296) (hy1 : 2147483648 ≤ y1) : q ≤ 4294967297 := by
  refine Int.not_lt.mp fun hlt => ?_
  have := Int.mul_le_mul_of_nonneg_right (show (4294967298 : Int) ≤ q by omega) (show 0 ≤ y1 by omega)
  omega

/-- The first guess is no less than the digit. -/
theorem q_ge (u d y1 y0 q r Q R : Int) (h : q * y1 + r = u) (hr : r < y1) (hq : 0 ≤ q) (hd : d < 4294967296) (hy0 : 0 ≤ y0) (hy1 : 0 < y1)
    (hT : u * 4294967296 + d = Q * (y1 * 4294967296 + y0) + R) (hR : 0 ≤ R) : Q ≤ q := by
  refine Int.not_lt.mp fun hlt => ?_
  have e1 := Int.mul_le_mul_of_nonneg_right (show q + 1 ≤ Q by omega) (show 0 ≤ y1 * 4294967296 + y0 by omega)
  have e2 : (q + 1) * (y1 * 4294967296 + y0) = (q * y1) * 4294967296 + q * y0 + y1 * 4294967296 + y0 := by
    rw [Int.add_mul, Int.mul_add, Int.one_mul, ← Int.mul_assoc]; omega
  have e3 := Int.mul_nonneg hq hy0
  omega

/-- The digit is one. -/
theorem digit_lt (u d Y Q R : Int) (hu : u < Y) (hd : d < 4294967296) (hY : 0 < Y) (hT : u * 4294967296 + d = Q * Y + R) (hR : 0 ≤ R) : Q < 4294967296 := by
  refine Int.not_le.mp fun hge => ?_
  have := Int.mul_le_mul_of_nonneg_right hge (show 0 ≤ Y by omega)
  omega
theorem digit_ge (T Y Q R : Int) (hT : T = Q * Y + R) (h0 : 0 ≤ T) (hR : R < Y) (hY : 0 < Y) : 0 ≤ Q := by
  refine Int.not_lt.mp fun hlt => ?_
  have := Int.mul_le_mul_of_nonneg_right (show Q ≤ -1 by omega) (show 0 ≤ Y by omega)
  omega

/-- A guess that is too great is greater than the digit. -/
theorem too_great (u d y1 y0 q r p Q R : Int) (h : q * y1 + r = u) (hp : q * y0 = p) (hgt : 4294967296 * r + d < p) (hY : 0 < y1 * 4294967296 + y0)
    (hT : u * 4294967296 + d = Q * (y1 * 4294967296 + y0) + R) (hR : 0 ≤ R) : Q ≤ q - 1 := by
  refine Int.not_lt.mp fun hlt => ?_
  have e1 := Int.mul_le_mul_of_nonneg_right (show q ≤ Q by omega) (show 0 ≤ y1 * 4294967296 + y0 by omega)
  have e2 : q * (y1 * 4294967296 + y0) = (q * y1) * 4294967296 + q * y0 := by rw [Int.mul_add, ← Int.mul_assoc]
  omega

/-- A guess that is not too great is the digit, if it is no less. -/
theorem not_too_great (u d y1 y0 q r p Q R : Int) (h : q * y1 + r = u) (hp : q * y0 = p) (hle : p ≤ 4294967296 * r + d) (hY : 0 < y1 * 4294967296 + y0)
    (hT : u * 4294967296 + d = Q * (y1 * 4294967296 + y0) + R) (hR : R < y1 * 4294967296 + y0) (hQ : Q ≤ q) : q = Q := by
  refine Int.le_antisymm (Int.not_lt.mp fun hlt => ?_) hQ
  have e1 := Int.mul_le_mul_of_nonneg_right (show Q + 1 ≤ q by omega) (show 0 ≤ y1 * 4294967296 + y0 by omega)
  have e2 : q * (y1 * 4294967296 + y0) = (q * y1) * 4294967296 + q * y0 := by rw [Int.mul_add, ← Int.mul_assoc]
  have e3 : (Q + 1) * (y1 * 4294967296 + y0) = Q * (y1 * 4294967296 + y0) + (y1 * 4294967296 + y0) := by rw [Int.add_mul, Int.one_mul]
  omega

/-- A guess whose rest is no digit is not too great. -/
theorem great_rest (q r y0 d : Int) (hq : q ≤ 4294967296) (hr : 4294967296 ≤ r) (hd : 0 ≤ d) (h0 : 0 ≤ y0) (h1 : y0 < 4294967296) : q * y0 ≤ 4294967296 * r + d := by
  have := Int.mul_le_mul_of_nonneg_right hq h0
  omega

theorem prod_lt (q y0 : Int) (hq0 : 0 ≤ q) (hq : q < 4294967296) (h0 : 0 ≤ y0) (h1 : y0 < 4294967296) : 0 ≤ q * y0 ∧ q * y0 < 18446744073709551616 := by
  refine ⟨Int.mul_nonneg hq0 h0, ?_⟩
  have e1 := Int.mul_le_mul_of_nonneg_right (show q ≤ 4294967295 by omega) h0
  omega

/-- One step less. -/
theorem decr (u y1 q r : Int) (h : q * y1 + r = u) : (q - 1) * y1 + (r + y1) = u := by
  rw [Int.sub_mul, Int.one_mul]; omega

theorem or_join (s : Nat) (hi lo : Int) (h0 : 0 ≤ hi) (h1 : hi * 2 ^ s < 18446744073709551616) (l0 : 0 ≤ lo) (l1 : lo < 2 ^ s) (l2 : lo < 18446744073709551616) :
    bits .or .u64 (hi * 2 ^ s) lo = hi * 2 ^ s + lo := by
  obtain ⟨a, rfl⟩ := Int.eq_ofNat_of_zero_le h0
  obtain ⟨b, rfl⟩ := Int.eq_ofNat_of_zero_le l0
  have e : ((a : Int) * 2 ^ s) = ((a * 2 ^ s : Nat) : Int) := by simp
  rw [e] at h1 ⊢
  rw [u64_or_nat _ _ (by omega) (by omega), nat_join s _ _ (Nat.mul_mod_left _ _) (by exact_mod_cast l1)]
  omega

theorem and_mask (x : Int) (h0 : 0 ≤ x) (h1 : x < 18446744073709551616) : bits .and .u64 x 4294967295 = x % 4294967296 := by
  obtain ⟨a, rfl⟩ := Int.eq_ofNat_of_zero_le h0
  have := u64_and_nat a 4294967295 (by omega) (by omega)
  rw [show ((4294967295 : Nat) : Int) = 4294967295 from rfl] at this
  rw [this, show (4294967295 : Nat) = 2 ^ 32 - 1 from rfl, Nat.and_two_pow_sub_one_eq_mod]
  omega

theorem wrap_sub (a b c : Int) : IntKind.u64.wrap (IntKind.u64.wrap (IntKind.u64.wrap a + b) - IntKind.u64.wrap c) = (a + b - c) % 18446744073709551616 := by
  simp only [IntKind.wrap_u64]; omega

theorem bitLenAux_spec : ∀ (f x : Nat), x < 2 ^ f → x < 2 ^ Lib.bitLenAux f x ∧ (0 < x → 1 ≤ Lib.bitLenAux f x ∧ 2 ^ (Lib.bitLenAux f x - 1) ≤ x) ∧ Lib.bitLenAux f x ≤ f
  | 0, x, h => by simp at h; subst h; simp [Lib.bitLenAux]
  | f + 1, x, h => by
    have ih := bitLenAux_spec f (x / 2) (by rw [Nat.pow_succ] at h; omega)
    simp only [Lib.bitLenAux]
    by_cases h0 : x = 0
    · simp [h0]
    · rw [if_neg h0]
      obtain ⟨i1, i2, i3⟩ := ih
      refine ⟨by rw [Nat.add_comm, Nat.pow_succ]; omega, fun _ => ⟨by omega, ?_⟩, by omega⟩
      by_cases h1 : x / 2 = 0
      · have : Lib.bitLenAux f (x / 2) = 0 := by rw [h1]; cases f <;> simp [Lib.bitLenAux]
        rw [this]; simp; omega
      · obtain ⟨j1, j2⟩ := i2 (by omega)
        rw [show 1 + Lib.bitLenAux f (x / 2) - 1 = (Lib.bitLenAux f (x / 2) - 1) + 1 by omega, Nat.pow_succ]
        omega

theorem shift_fits (y : Nat) (h0 : 0 < y) (h1 : y < 18446744073709551616) : Lib.bitLen y ≤ 64 ∧ 1 ≤ Lib.bitLen y ∧ 9223372036854775808 ≤ y * 2 ^ (64 - Lib.bitLen y) ∧ y * 2 ^ (64 - Lib.bitLen y) < 18446744073709551616 := by
  obtain ⟨i1, i2, i3⟩ := bitLenAux_spec 64 y (by simpa using h1)
  obtain ⟨j1, j2⟩ := i2 h0
  change Lib.bitLen y ≤ 64 at i3
  change y < 2 ^ Lib.bitLen y at i1
  change 1 ≤ Lib.bitLen y at j1
  change 2 ^ (Lib.bitLen y - 1) ≤ y at j2
  refine ⟨i3, j1, ?_, ?_⟩
  · have := Nat.mul_le_mul_right (2 ^ (64 - Lib.bitLen y)) j2
    rw [← Nat.pow_add, show Lib.bitLen y - 1 + (64 - Lib.bitLen y) = 63 by omega] at this
    simpa using this
  · have := Nat.mul_lt_mul_of_pos_right i1 (Nat.two_pow_pos (64 - Lib.bitLen y))
    rw [← Nat.pow_add, show Lib.bitLen y + (64 - Lib.bitLen y) = 64 by omega] at this
    simpa using this

/-- Shifted, two words are two words. -/
theorem shifted (hi lo m k : Int) (hm : 0 < m) (hk : 0 < k) (hmk : m * k = 18446744073709551616) (l0 : 0 ≤ lo) (l1 : lo < 18446744073709551616) :
    (hi * m + lo / k) * 18446744073709551616 + (lo * m) % 18446744073709551616 = (hi * 18446744073709551616 + lo) * m ∧ 0 ≤ lo / k ∧ lo / k < m := by
  have e0 : lo / k * k + lo % k = lo := Int.ediv_mul_add_emod lo k
  have r0 := Int.emod_nonneg lo (show k ≠ 0 by omega)
  have r1 := Int.emod_lt_of_pos lo hk
  have d0 : 0 ≤ lo / k := Int.ediv_nonneg l0 (by omega)
  generalize lo / k = a at *
  generalize lo % k = b at *
  have e1 : lo * m = a * 18446744073709551616 + b * m := by
    rw [← e0, Int.add_mul, Int.mul_assoc, Int.mul_comm k m, hmk]
  have e2 : b * m < k * m := Int.mul_lt_mul_of_pos_right r1 hm
  rw [Int.mul_comm k m, hmk] at e2
  have e3 := Int.mul_nonneg r0 (show 0 ≤ m by omega)
  refine ⟨?_, d0, ?_⟩
  · rw [Int.add_mul (hi * 18446744073709551616), Int.mul_right_comm hi, e1]
    omega
  · refine Int.not_le.mp fun hge => ?_
    have := Int.mul_le_mul_of_nonneg_right hge (show 0 ≤ k by omega)
    omega

theorem top_lt (hi lo m y u n : Int) (hm : 0 < m) (h : hi < y) (l1 : lo < 18446744073709551616) (n0 : 0 ≤ n) (he : u * 18446744073709551616 + n = (hi * 18446744073709551616 + lo) * m) : u < y * m := by
  refine Int.not_le.mp fun hge => ?_
  have e1 := Int.mul_lt_mul_of_pos_right (show hi * 18446744073709551616 + lo < y * 18446744073709551616 by omega) hm
  rw [Int.mul_right_comm y] at e1
  omega

/-- Shifted back, what is left is the rest. -/
theorem back (V m y Q1 Q0 u n1 n0 R1 R0 : Int) (hm : 0 < m) (hV : (u * 4294967296 + n1) * 4294967296 + n0 = V * m) (h1 : u * 4294967296 + n1 = Q1 * (y * m) + R1) (h0 : R1 * 4294967296 + n0 = Q0 * (y * m) + R0) (r0 : 0 ≤ R0) (r1 : R0 < y * m) :
    V = (Q1 * 4294967296 + Q0) * y + R0 / m ∧ 0 ≤ R0 / m ∧ R0 / m < y := by
  have e1 : R0 = (V - (Q1 * 4294967296 + Q0) * y) * m := by
    rw [Int.sub_mul, Int.mul_assoc, Int.add_mul, Int.mul_comm Q1, Int.mul_assoc 4294967296]
    omega
  have e2 : R0 / m = V - (Q1 * 4294967296 + Q0) * y := by rw [e1]; exact Int.mul_ediv_cancel _ (by omega)
  refine ⟨by omega, Int.ediv_nonneg r0 (by omega), ?_⟩
  rw [e2]
  rw [e1] at r1
  exact Int.lt_of_mul_lt_mul_right r1 (by omega)

theorem div_unique (V y q r : Int) (hy : 0 < y) (h : V = q * y + r) (h0 : 0 ≤ r) (h1 : r < y) : q = V / y ∧ r = V % y := by
  have := Int.ediv_emod_unique (a := V) (b := y) (q := q) (r := r) hy
  have h2 := this.2 ⟨by rw [h, Int.mul_comm]; omega, h0, h1⟩
  exact ⟨h2.1.symm, h2.2.symm⟩

theorem dvd_emod_sub (m x : Int) : m ∣ x % m - x := ⟨-(x / m), by have := Int.emod_add_mul_ediv x m; rw [Int.mul_neg]; omega⟩

/-- One step of Euclid's row: what a rest is a factor of stays so. -/
theorem row_step (m a rest next f g t : Int) (h1 : m ∣ rest - f * a) (h2 : m ∣ next - g * a) : m ∣ (rest - t * next) - ((f - t * g % m) % m) * a := by
  obtain ⟨k1, e1⟩ := h1
  obtain ⟨k2, e2⟩ := h2
  obtain ⟨k3, e3⟩ := dvd_emod_sub m (t * g)
  obtain ⟨k4, e4⟩ := dvd_emod_sub m (f - t * g % m)
  refine ⟨k1 - t * k2 + (k3 - k4) * a, ?_⟩
  generalize t * g % m = u at *
  generalize (f - u) % m = v at *
  grind

theorem one_of_dvd (m x a : Nat) (hm : 2 ≤ m) (h : (m : Int) ∣ 1 - (x : Int) * a) : a * x % m = 1 := by
  obtain ⟨k, e⟩ := h
  have h1 : ((a * x : Nat) : Int) = 1 + m * (-k) := by rw [Int.natCast_mul, Int.mul_neg, Int.mul_comm (a : Int)]; omega
  have h2 : (((a * x : Nat) : Int)) % m = 1 := by
    rw [h1, Int.add_mul_emod_self_left, Int.emod_eq_of_lt (by omega) (by omega)]
  exact_mod_cast h2

theorem ext_of_dvd (b x s : Nat) (h : (b : Int) ∣ (x : Int) - s) : x % b = s % b := by
  have := Int.emod_emod_of_dvd
  have h2 := Int.emod_eq_emod_iff_emod_sub_eq_zero.mpr (Int.emod_eq_zero_of_dvd h)
  exact_mod_cast h2

/-- What is joined leaves the second rest. -/
theorem join_rest (f a i s b : Nat) (hb : 0 < b) (hi : a * i % b = 1 % b) : (f + a * ((((s : Int) - f) % b * i % b).toNat)) % b = s % b := by
  apply ext_of_dvd
  have h0 := Int.emod_nonneg (((s : Int) - f) % b * i) (show (b : Int) ≠ 0 by omega)
  obtain ⟨k1, e1⟩ := dvd_emod_sub b ((s : Int) - f)
  obtain ⟨k2, e2⟩ := dvd_emod_sub b (((s : Int) - f) % b * i)
  have h3 : (b : Int) ∣ (a : Int) * i - 1 := by
    have : ((a * i : Nat) : Int) % b = (1 : Int) % b := by exact_mod_cast hi
    have := Int.emod_eq_emod_iff_emod_sub_eq_zero.mp this
    rw [Int.natCast_mul] at this
    exact Int.dvd_of_emod_eq_zero this
  obtain ⟨k3, e3⟩ := h3
  rw [Int.natCast_add, Int.natCast_mul, Int.toNat_of_nonneg h0]
  generalize ((s : Int) - f) % b = u at *
  generalize u * i % b = v at *
  refine ⟨a * k2 + u * k3 + k1, ?_⟩
  grind

/-- Two numbers below a product that leave the same rests by coprime numbers are one. -/
theorem join_one (x y a b : Nat) (hab : Nat.gcd a b = 1) (hx : x < a * b) (hy : y < a * b) (h1 : x % a = y % a) (h2 : x % b = y % b) : x = y := by
  have hc : Nat.Coprime a b := hab
  have d1 : (a : Int) ∣ (x : Int) - y := Int.dvd_of_emod_eq_zero (Int.emod_eq_emod_iff_emod_sub_eq_zero.mp (by exact_mod_cast h1))
  have d2 : (b : Int) ∣ (x : Int) - y := Int.dvd_of_emod_eq_zero (Int.emod_eq_emod_iff_emod_sub_eq_zero.mp (by exact_mod_cast h2))
  have e1 := Int.natAbs_dvd_natAbs.mpr d1
  have e2 := Int.natAbs_dvd_natAbs.mpr d2
  simp only [Int.natAbs_natCast] at e1 e2
  have e3 := Nat.Coprime.mul_dvd_of_dvd_of_dvd hc e1 e2
  have e4 : ((x : Int) - y).natAbs < a * b := by omega
  have := Nat.eq_zero_of_dvd_of_lt e3 e4
  omega
end Go.Proofs.YtpjfapibjihbbaaGreatDoor.Plain

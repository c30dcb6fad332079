/-
  Contracts of modular.Inv and modular.Join.
-/
import Derived.Test.YtjbhdbbepjokpaaRef02
import Derived.Test.YtjbhdbbepjokpaaModP
namespace Go.Proofs.Ytjbhdbbepjokpaa
set_option linter.unusedVariables false
open Go.RowKit

theorem inv_small (a m : Int) (hm0 : 0 ≤ m) (hm : m < 2) : Ans 20 #[.int .u64 a, .int .u64 m] (.tuple #[.int .u64 0, .bool false]) := by
  intro w
  go_enter Try.func20, Try.ntmps20
  go_wp2
  go_ret2
  exact ⟨rfl, 0, rfl⟩

/-- What Euclid's row keeps: two rests, each a factor of a, modulo m; their greatest common divisor. -/
def Row (a m rest next f g : Nat) : Prop := (m : Int) ∣ (rest : Int) - f * a ∧ (m : Int) ∣ (next : Int) - g * a ∧ Nat.gcd rest next = Nat.gcd a m
theorem Row.start (a m : Nat) : Row a m m (a % m) 0 1 := by
  refine ⟨⟨1, by simp⟩, ?_, ?_⟩
  · have := Plain.dvd_emod_sub m a
    simpa using this
  · rw [gcd_step]
theorem Row.step {a m rest next f g t s u : Nat} (h : Row a m rest next f g) (ht : rest / next = t) (hs : t * g % m = s) (hu : ((f : Int) - s) % m = u) : Row a m next (rest % next) g u := by
  obtain ⟨h1, h2, h3⟩ := h
  refine ⟨h2, ?_, by rw [gcd_step, h3]⟩
  have := Plain.row_step m a rest next f g t h1 h2
  have e1 : ((t : Int) * g) % m = s := by exact_mod_cast hs
  rw [e1, hu] at this
  have e2 : (rest : Int) - t * next = ((rest % next : Nat) : Int) := by
    have := Nat.mod_add_div rest next
    rw [ht] at this
    have e : ((rest % next : Nat) : Int) + next * t = rest := by exact_mod_cast this
    rw [Int.mul_comm (t : Int)]; omega
  rw [e2] at this
  exact this

set_option maxHeartbeats 2000000 in
theorem inv_walk (a m : Nat) (ha : a < 18446744073709551616) (hm : m < 18446744073709551616) (hm2 : 2 ≤ m) (w : World) :
    Calls Try.prog 20 #[.int .u64 a, .int .u64 m] w fun e w' => ∃ (x : Nat) (ok : Bool), e = .returned (.tuple #[.int .u64 x, .bool ok]) ∧ (if ok then x < m ∧ Nat.gcd a m = 1 ∧ a * x % m = 1 else x = 0 ∧ Nat.gcd a m ≠ 1) ∧ ∃ n, w' = w.drewN n := by
  have hm1 : ((m : Int) == 0) = false := by simp; omega
  have hm3 : ¬ ((m : Int) < 2) := by omega
  have hlt := Nat.mod_lt a (show 0 < m by omega)
  have HS := Row.start a m
  go_enter Try.func20, Try.ntmps20
  go_wp2
  go_region
  go_wp2
  go_loopw [6, 7, 8, 9] (fun x y z v W => ∃ r s f g n : Nat, x = .int .u64 r ∧ y = .int .u64 s ∧ z = .int .u64 f ∧ v = .int .u64 g ∧ r < 18446744073709551616 ∧ s < 18446744073709551616 ∧ f < m ∧ g < m ∧ Row a m r s f g ∧ W = w.drewN n) (fun _ y _ _ _ => (intOf y).toNat)
  case atStart => exact ⟨m, a % m, 0, 1, 1, rfl, by go_num, rfl, rfl, hm, by omega, by omega, by omega, HS, rfl⟩
  case round =>
    obtain ⟨r, s, f, g, n, rfl, rfl, rfl, rfl, hr, hs, hf, hg, HR, HW⟩ := hrel
    clear HS
    by_cases h0 : 0 < s
    · have h1 : ((s : Int) == 0) = false := by simp; omega
      have hl := Nat.mod_lt r h0
      have hdl : r / s ≤ r := Nat.div_le_self r s
      have hd : (r : Int) / s = ((r / s : Nat) : Int) := by simp
      obtain ⟨t, ht⟩ : ∃ t, r / s = t := ⟨_, rfl⟩
      obtain ⟨q, hq⟩ : ∃ q, t * g % m = q := ⟨_, rfl⟩
      have hql : q < m := hq ▸ Nat.mod_lt _ (by omega)
      have u0 := Int.emod_nonneg ((f : Int) - q) (show (m : Int) ≠ 0 by omega)
      have u1 := Int.emod_lt_of_pos ((f : Int) - q) (show (0 : Int) < m by omega)
      obtain ⟨u, hu⟩ := Int.eq_ofNat_of_zero_le u0
      have HM : Ans 16 #[.int .u64 t, .int .u64 g, .int .u64 m] (.int .u64 (q : Int)) := hq ▸ mul_nat t g m (by omega) (by omega) hm (by omega)
      have HB : Ans 12 #[.int .u64 f, .int .u64 q, .int .u64 m] (.int .u64 (u : Int)) := hu ▸ sub_any f q m ⟨by omega, by omega⟩ ⟨by omega, by omega⟩ ⟨by omega, by omega⟩ (by omega)
      have HR' : Row a m s (r % s) g u := HR.step ht hq hu
      have hul : u < m := by omega
      rw [ht] at hd
      clear ht hq hu u0 u1 HR
      go_wp2_with fail
      go_region
      go_wp2_with (first | (go_at_call 16; with_reducible refine Ans.use HM _ fun n1 => ?_) | (go_at_call 12; with_reducible refine Ans.use HB _ fun n2 => ?_))
      go_roundw
      case rel => exact ⟨s, r % s, g, u, n + 1 + n1 + n2, rfl, by go_num, rfl, rfl, hs, by omega, hg, hul, HR', rfl⟩
      case measure => simp [intOf]; omega
    · obtain rfl : s = 0 := by omega
      obtain ⟨h1, h2, h3⟩ := HR
      rw [Nat.gcd_zero_right] at h3
      have H3 : Hid (r = Nat.gcd a m) := h3
      clear h3 h2
      by_cases hr1 : r = 1
      · subst hr1
        have H1 : Hid ((m : Int) ∣ ((1 : Nat) : Int) - f * a) := h1
        clear h1
        go_wp2
        go_ret2
        exact ⟨f, true, rfl, by rw [if_pos rfl]; exact ⟨hf, H3.out.symm, Plain.one_of_dvd m f a hm2 H1.out⟩, n, rfl⟩
      · have hr2 : ((r : Int) == 1) = false := by simp; omega
        clear h1
        go_wp2
        go_ret2
        exact ⟨0, false, rfl, by rw [if_neg (by simp)]; exact ⟨rfl, fun h => hr1 (H3.out.trans h)⟩, n, rfl⟩

theorem row_ends (a m : Nat) (hm : 0 < m) : ∀ (s r f g : Nat), f < m → g < m → Row a m r s f g → ∃ x, x < m ∧ (m : Int) ∣ ((Nat.gcd a m : Nat) : Int) - x * a := by
  intro s
  induction s using Nat.strongRecOn with
  | ind s ih =>
    intro r f g hf hg h
    by_cases h0 : s = 0
    · subst h0
      obtain ⟨h1, h2, h3⟩ := h
      rw [Nat.gcd_zero_right] at h3
      rw [h3] at h1
      exact ⟨f, hf, h1⟩
    · have u0 := Int.emod_nonneg ((f : Int) - ((r / s * g % m : Nat) : Int)) (show (m : Int) ≠ 0 by omega)
      have u1 := Int.emod_lt_of_pos ((f : Int) - ((r / s * g % m : Nat) : Int)) (show (0 : Int) < m by omega)
      obtain ⟨u, hu⟩ := Int.eq_ofNat_of_zero_le u0
      exact ih (r % s) (Nat.mod_lt _ (by omega)) s g u hg (by omega) (h.step rfl rfl hu)
theorem inverse (a m : Nat) (hm : 2 ≤ m) (hg : Nat.gcd a m = 1) : ∃ x, x < m ∧ a * x % m = 1 := by
  obtain ⟨x, hx, h⟩ := row_ends a m (by omega) (a % m) m 0 1 (by omega) (by omega) (Row.start a m)
  rw [hg] at h
  exact ⟨x, hx, Plain.one_of_dvd m x a hm h⟩
theorem inverse_one (a m x y : Nat) (hx : x < m) (hy : y < m) (h1 : a * x % m = 1) (h2 : a * y % m = 1) : x = y := by
  have e1 : x * (a * y % m) % m = x := by rw [h2, Nat.mul_one, Nat.mod_eq_of_lt hx]
  have e2 : y * (a * x % m) % m = y := by rw [h1, Nat.mul_one, Nat.mod_eq_of_lt hy]
  rw [Nat.mul_mod_mod] at e1 e2
  have : x * (a * y) = y * (a * x) := by rw [Nat.mul_left_comm, Nat.mul_left_comm y, Nat.mul_comm x]
  rw [this] at e1
  exact e1.symm.trans e2

/-- There is an inverse, and Inv answers it. -/
theorem inv_yes (a m : Nat) (ha : a < 18446744073709551616) (hm : m < 18446744073709551616) (hm2 : 2 ≤ m) (hg : Nat.gcd a m = 1) :
    ∃ x : Nat, x < m ∧ a * x % m = 1 ∧ Ans 20 #[.int .u64 a, .int .u64 m] (.tuple #[.int .u64 (x : Int), .bool true]) := by
  obtain ⟨x, hx, h⟩ := inverse a m hm2 hg
  refine ⟨x, hx, h, fun w => (inv_walk a m ha hm hm2 w).mono ?_⟩
  rintro e w' ⟨y, ok, rfl, hy, hw⟩
  cases ok
  · simp [hg] at hy
  · rw [if_pos rfl] at hy
    rw [inverse_one a m x y hx hy.1 h hy.2.2]
    exact ⟨rfl, hw⟩
/-- There is no inverse, and Inv says so. -/
theorem inv_no (a m : Nat) (ha : a < 18446744073709551616) (hm : m < 18446744073709551616) (hm2 : 2 ≤ m) (hg : Nat.gcd a m ≠ 1) :
    Ans 20 #[.int .u64 a, .int .u64 m] (.tuple #[.int .u64 0, .bool false]) := by
  refine fun w => (inv_walk a m ha hm hm2 w).mono ?_
  rintro e w' ⟨y, ok, rfl, hy, hw⟩
  cases ok
  · rw [if_neg (by simp)] at hy
    rw [hy.1]
    exact ⟨rfl, hw⟩
  · exact absurd hy.2.1 hg

/-! ### modular.Join -/
theorem join_a0 (r s b : Int) : Ans 24 #[.int .u64 r, .int .u64 0, .int .u64 s, .int .u64 b] (.tuple #[.int .u64 0, .bool false]) := by
  intro w
  go_enter Try.func24, Try.ntmps24
  go_wp2
  go_ret2
  exact ⟨rfl, 0, rfl⟩
theorem join_b0 (r a s : Int) (ha : 0 < a) : Ans 24 #[.int .u64 r, .int .u64 a, .int .u64 s, .int .u64 0] (.tuple #[.int .u64 0, .bool false]) := by
  intro w
  have ha1 : (a == 0) = false := by simp; omega
  go_enter Try.func24, Try.ntmps24
  go_wp2
  go_ret2
  exact ⟨rfl, 0, rfl⟩
theorem join_gcd (r a s b : Int) (ha : 0 < a) (hb : 0 < b) (HC : Ans 22 #[.int .u64 a, .int .u64 b] (.bool false)) : Ans 24 #[.int .u64 r, .int .u64 a, .int .u64 s, .int .u64 b] (.tuple #[.int .u64 0, .bool false]) := by
  intro w
  have ha1 : (a == 0) = false := by simp; omega
  have hb1 : (b == 0) = false := by simp; omega
  go_enter Try.func24, Try.ntmps24
  go_wp2_with (go_at_call 22; with_reducible refine Ans.use HC _ fun n1 => ?_)
  go_ret2
  exact ⟨rfl, _, rfl⟩
theorem join_great (r a s b h l : Int) (ha : 0 < a) (hb : 0 < b) (hh : 0 < h) (HC : Ans 22 #[.int .u64 a, .int .u64 b] (.bool true)) (HM : Ans 27 #[.int .u64 a, .int .u64 b] (.tuple #[.int .u64 h, .int .u64 l])) : Ans 24 #[.int .u64 r, .int .u64 a, .int .u64 s, .int .u64 b] (.tuple #[.int .u64 0, .bool false]) := by
  intro w
  have ha1 : (a == 0) = false := by simp; omega
  have hb1 : (b == 0) = false := by simp; omega
  go_enter Try.func24, Try.ntmps24
  go_wp2_with (first | (go_at_call 22; with_reducible refine Ans.use HC _ fun n1 => ?_) | (go_at_call 27; with_reducible refine Ans.use HM _ fun n2 => ?_))
  go_ret2
  exact ⟨rfl, _, rfl⟩
theorem join_walk (r a s b l f i d t : Int) (k : Bool) (hr0 : 0 ≤ r) (hr : r < 18446744073709551616) (ha : 0 < a) (ha' : a < 18446744073709551616) (hb : 0 < b) (HC : Ans 22 #[.int .u64 a, .int .u64 b] (.bool true)) (HM : Ans 27 #[.int .u64 a, .int .u64 b] (.tuple #[.int .u64 0, .int .u64 l]))
    (hf : r % a = f) (HI : Ans 20 #[.int .u64 a, .int .u64 b] (.tuple #[.int .u64 i, .bool k])) (HS : Ans 12 #[.int .u64 s, .int .u64 f, .int .u64 b] (.int .u64 d)) (HT : Ans 16 #[.int .u64 d, .int .u64 i, .int .u64 b] (.int .u64 t))
    (h0 : 0 ≤ f) (p : Int) (hp : a * t = p) (h1 : 0 ≤ p) (h2 : f + p < 18446744073709551616) :
    Ans 24 #[.int .u64 r, .int .u64 a, .int .u64 s, .int .u64 b] (.tuple #[.int .u64 (f + p), .bool true]) := by
  intro w
  have ha1 : (a == 0) = false := by simp; omega
  have hb1 : (b == 0) = false := by simp; omega
  have hw : IntKind.u64.wrap (a * t) = p := by rw [hp, IntKind.wrap_u64]; omega
  clear hp
  go_enter Try.func24, Try.ntmps24
  go_wp2_with (first | (go_at_call 22; with_reducible refine Ans.use HC _ fun n1 => ?_) | (go_at_call 27; with_reducible refine Ans.use HM _ fun n2 => ?_) | (go_at_call 20; with_reducible refine Ans.use HI _ fun n3 => ?_) | (go_at_call 12; with_reducible refine Ans.use HS _ fun n4 => ?_) | (go_at_call 16; with_reducible refine Ans.use HT _ fun n5 => ?_))
  go_ret2
  exact ⟨rfl, _, rfl⟩
/-- What can't be joined. -/
theorem join_no (r a s b : Nat) (hr : r < 18446744073709551616) (ha : a < 18446744073709551616) (hs : s < 18446744073709551616) (hb : b < 18446744073709551616) (h : a = 0 ∨ b = 0 ∨ Nat.gcd a b ≠ 1 ∨ 18446744073709551616 ≤ a * b) :
    Ans 24 #[.int .u64 r, .int .u64 a, .int .u64 s, .int .u64 b] (.tuple #[.int .u64 0, .bool false]) := by
  by_cases ha0 : a = 0
  · subst ha0; exact join_a0 r s b
  by_cases hb0 : b = 0
  · subst hb0; exact join_b0 r a s (by omega)
  have HC := coprime_any a b ha hb
  by_cases hg : Nat.gcd a b = 1
  · have hge : 18446744073709551616 ≤ a * b := by rcases h with h | h | h | h <;> first | omega | exact absurd hg h | exact h
    obtain ⟨h, l, h1, h2, h3, h4⟩ := mul64_any a b ⟨by omega, by omega⟩ ⟨by omega, by omega⟩
    refine join_great r a s b h l (by omega) (by omega) ?_ (HC.to (by simp [hg])) h4
    have e : ((a * b : Nat) : Int) = (a : Int) * b := by simp
    obtain ⟨_, _⟩ := h2
    omega
  · exact join_gcd r a s b (by omega) (by omega) (HC.to (by simp [hg]))
/-- The one number below the product that leaves both rests. -/
theorem join_yes (r a s b : Nat) (hr : r < 18446744073709551616) (ha : a < 18446744073709551616) (hs : s < 18446744073709551616) (hb : b < 18446744073709551616) (ha0 : 0 < a) (hb0 : 0 < b) (hg : Nat.gcd a b = 1) (hab : a * b < 18446744073709551616) :
    ∃ x : Nat, x < a * b ∧ x % a = r % a ∧ x % b = s % b ∧ Ans 24 #[.int .u64 r, .int .u64 a, .int .u64 s, .int .u64 b] (.tuple #[.int .u64 (x : Int), .bool true]) := by
  have HC := (coprime_any a b ha hb).to (v' := .bool true) (by simp [hg])
  obtain ⟨h, l, h1, h2, h3, h4⟩ := mul64_any a b ⟨by omega, by omega⟩ ⟨by omega, by omega⟩
  have e : ((a * b : Nat) : Int) = (a : Int) * b := by simp
  obtain rfl : h = 0 := by obtain ⟨_, _⟩ := h2; obtain ⟨_, _⟩ := h1; omega
  have hf := Nat.mod_lt r ha0
  obtain ⟨i, k, hi, hib, HI⟩ : ∃ (i : Nat) (k : Bool), a * i % b = 1 % b ∧ i < 18446744073709551616 ∧ Ans 20 #[.int .u64 a, .int .u64 b] (.tuple #[.int .u64 (i : Int), .bool k]) := by
    by_cases hb2 : 2 ≤ b
    · obtain ⟨x, hx, h, H⟩ := inv_yes a b ha hb hb2 hg
      exact ⟨x, true, by rw [h, Nat.mod_eq_of_lt (by omega)], by omega, H⟩
    · obtain rfl : b = 1 := by omega
      exact ⟨0, false, by rw [Nat.mod_one, Nat.mod_one], by omega, inv_small a (1 : Nat) (by omega) (by omega)⟩
  have hb1 : (0 : Int) < b := by omega
  have HS := sub_any s (((r % a : Nat)) : Int) b ⟨by omega, by omega⟩ ⟨by omega, by omega⟩ ⟨by omega, by omega⟩ hb1
  have HT := mul_any (((s : Int) - ((r % a : Nat) : Int)) % b) i b (wd_mod ⟨by omega, by omega⟩ hb1) ⟨by omega, by omega⟩ ⟨by omega, by omega⟩ hb1
  have hj := Plain.join_rest (r % a) a i s b hb0 hi
  have t0 := Int.emod_nonneg (((s : Int) - ((r % a : Nat) : Int)) % b * i) (show (b : Int) ≠ 0 by omega)
  have t1 := Int.emod_lt_of_pos (((s : Int) - ((r % a : Nat) : Int)) % b * i) hb1
  obtain ⟨t, ht⟩ := Int.eq_ofNat_of_zero_le t0
  rw [ht] at HT hj
  rw [Int.toNat_natCast] at hj
  have htb : t + 1 ≤ b := by omega
  have hp : a * t + a ≤ a * b := by have := Nat.mul_le_mul_left a htb; rw [Nat.mul_add, Nat.mul_one] at this; exact this
  have ep : (a : Int) * t = ((a * t : Nat) : Int) := by simp
  refine ⟨r % a + a * t, by omega, by rw [Nat.add_mul_mod_self_left, Nat.mod_mod], hj, ?_⟩
  refine (join_walk r a s b l ((r % a : Nat) : Int) i _ t k (by omega) (by omega) (by omega) (by omega) (by omega) HC h4 (by simp) HI HS HT (by omega) _ ep (by omega) (by omega)).to ?_
  rw [Int.natCast_add]
end Go.Proofs.Ytjbhdbbepjokpaa

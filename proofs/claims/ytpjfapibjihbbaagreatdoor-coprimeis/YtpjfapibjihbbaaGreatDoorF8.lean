/-
  The contracts of modular's sums, opposites, products, and of modular.Inv: the number that makes 1 with another one, or that there is none.
-/
import Derived.Test.YtpjfapibjihbbaaGreatDoorF7
import Derived.Test.YtpjfapibjihbbaaGreatDoorF5
import Derived.Test.YtpjfapibjihbbaaGreatDoorF6
namespace Go.Proofs.YtpjfapibjihbbaaGreatDoor.Md
set_option linter.unusedVariables false
open Go.RowKit
theorem wd_mod {x m : Int} (hm : Wd m) (h0 : 0 < m) : Wd (x % m) := ⟨Int.emod_nonneg _ (by omega), by have := Int.emod_lt_of_pos x h0; have := hm.2; omega⟩

/-! ### math/bits.Rem64 -/
theorem rem_walk (hi lo y q r : Int) (hy0 : 0 < y) (hy : y < 18446744073709551616) (hh0 : 0 ≤ hi) (hh : hi < 18446744073709551616)
    (HD : Ans 158 #[.int .u64 (hi % y), .int .u64 lo, .int .u64 y] (.tuple #[.int .u64 q, .int .u64 r])) :
    Ans 151 #[.int .u64 hi, .int .u64 lo, .int .u64 y] (.int .u64 r) := by
  intro w
  go_enter Tryz.func151, Tryz.ntmps151
  go_wp2_with fail
  refine Ans.use HD _ fun n1 => ?_
  go_wp2
  go_ret
  exact ⟨rfl, _, rfl⟩

theorem rem_any (hi lo y : Int) (hhi : Wd hi) (hlo : Wd lo) (hy : Wd y) (hy0 : 0 < y) :
    Ans 151 #[.int .u64 hi, .int .u64 lo, .int .u64 y] (.int .u64 ((hi * 18446744073709551616 + lo) % y)) := by
  have h := wd_mod (x := hi) hy hy0
  refine ans_int (rem_walk hi lo y _ _ hy0 hy.2 hhi.1 hhi.2 (fun w => div_any (hi % y) lo y hy0 hy.2 (Int.emod_lt_of_pos _ hy0) h.1 hlo.1 hlo.2 w)) ?_
  rw [Int.add_emod, Int.mul_emod, Int.emod_emod_of_dvd _ (Int.dvd_refl y), ← Int.mul_emod, ← Int.add_emod]

/-! ### modular.Add -/
theorem add_zero (a b : Int) : Ans 156 #[.int .u64 a, .int .u64 b, .int .u64 0] (.int .u64 0) := by
  intro w
  go_enter Tryz.func156, Tryz.ntmps156
  go_wp2
  go_ret
  exact ⟨rfl, 0, rfl⟩

theorem add_walk (a b m s c r : Int) (hm0 : 0 < m) (hm : m < 18446744073709551616)
    (hs : ∀ w, (callFunc 146 #[.int .u64 a, .int .u64 b, .int .u64 0]).run Tryz.prog w = .ok (.value (.tuple #[.int .u64 s, .int .u64 c])) w)
    (HD : Ans 151 #[.int .u64 c, .int .u64 s, .int .u64 m] (.int .u64 r)) :
    Ans 156 #[.int .u64 a, .int .u64 b, .int .u64 m] (.int .u64 r) := by
  intro w
  go_enter Tryz.func156, Tryz.ntmps156
  go_wp2_with (first | (go_at_call 151; with_reducible refine Ans.use HD _ fun n1 => ?_))
  go_ret
  exact ⟨rfl, _, rfl⟩

/-- A sum's rest. -/
theorem add_any (a b m : Int) (ha : Wd a) (hb : Wd b) (hm : Wd m) (hm0 : 0 < m) : Ans 156 #[.int .u64 a, .int .u64 b, .int .u64 m] (.int .u64 ((a + b) % m)) := by
  obtain ⟨s, k, hs, hk, e, h⟩ := add64 a b 0 ha hb (Or.inl rfl)
  refine ans_int (add_walk a b m s k _ hm0 hm.2 h (rem_any k s m ⟨by omega, by omega⟩ hs hm hm0)) ?_
  rw [show k * 18446744073709551616 + s = a + b by omega]

/-! ### modular.Neg -/
theorem neg_zero (a : Int) : Ans 157 #[.int .u64 a, .int .u64 0] (.int .u64 0) := by
  intro w
  go_enter Tryz.func157, Tryz.ntmps157
  go_wp2
  go_ret
  exact ⟨rfl, 0, rfl⟩
theorem neg_walk0 (a m : Int) (ha0 : 0 ≤ a) (ha : a < 18446744073709551616) (hm0 : 0 < m) (hm : m < 18446744073709551616) (h : a % m = 0) : Ans 157 #[.int .u64 a, .int .u64 m] (.int .u64 0) := by
  intro w
  go_enter Tryz.func157, Tryz.ntmps157
  go_wp2
  go_ret
  exact ⟨rfl, 0, rfl⟩
theorem neg_walk1 (a m r : Int) (ha0 : 0 ≤ a) (ha : a < 18446744073709551616) (hm0 : 0 < m) (hm : m < 18446744073709551616) (h : a % m = r) (hr : 0 < r) (hr' : r < m) : Ans 157 #[.int .u64 a, .int .u64 m] (.int .u64 (m - r)) := by
  intro w
  have e1 : (m == 0) = false := by simp; omega
  have e2 : (r == 0) = false := by simp; omega
  go_enter Tryz.func157, Tryz.ntmps157
  go_wp2
  go_ret
  exact ⟨rfl, 0, rfl⟩
/-- An opposite's rest. -/
theorem neg_any (a m : Int) (ha : Wd a) (hm : Wd m) (hm0 : 0 < m) : Ans 157 #[.int .u64 a, .int .u64 m] (.int .u64 ((-a) % m)) := by
  have h1 := Int.emod_nonneg a (show m ≠ 0 by omega)
  have h2 := Int.emod_lt_of_pos a hm0
  rw [neg_mod a m hm0]
  split
  · next h => exact neg_walk0 a m ha.1 ha.2 hm0 hm.2 h
  · next h => exact neg_walk1 a m _ ha.1 ha.2 hm0 hm.2 rfl (by omega) h2

/-! ### modular.Sub -/
theorem sub_walk (a b m n r : Int) (HN : Ans 157 #[.int .u64 b, .int .u64 m] (.int .u64 n)) (HA : Ans 156 #[.int .u64 a, .int .u64 n, .int .u64 m] (.int .u64 r)) :
    Ans 150 #[.int .u64 a, .int .u64 b, .int .u64 m] (.int .u64 r) := by
  intro w
  go_enter Tryz.func150, Tryz.ntmps150
  go_wp2_with (first | (go_at_call 157; with_reducible refine Ans.use HN _ fun n1 => ?_) | (go_at_call 156; with_reducible refine Ans.use HA _ fun n2 => ?_))
  go_ret
  exact ⟨rfl, _, rfl⟩
theorem sub_zero (a b : Int) : Ans 150 #[.int .u64 a, .int .u64 b, .int .u64 0] (.int .u64 0) :=
  sub_walk a b 0 0 0 (neg_zero b) (add_zero a 0)
/-- A difference's rest. -/
theorem sub_any (a b m : Int) (ha : Wd a) (hb : Wd b) (hm : Wd m) (hm0 : 0 < m) : Ans 150 #[.int .u64 a, .int .u64 b, .int .u64 m] (.int .u64 ((a - b) % m)) := by
  refine ans_int (sub_walk a b m _ _ (neg_any b m hb hm hm0) (add_any a _ m ha (wd_mod hm hm0) hm hm0)) ?_
  rw [Int.add_emod_emod, Int.sub_eq_add_neg]

/-! ### modular.Mul -/
theorem mul_zero (a b : Int) : Ans 139 #[.int .u64 a, .int .u64 b, .int .u64 0] (.int .u64 0) := by
  intro w
  go_enter Tryz.func139, Tryz.ntmps139
  go_wp2
  go_ret
  exact ⟨rfl, 0, rfl⟩
theorem mul_walk (a b m h l r : Int) (hm0 : 0 < m) (hm : m < 18446744073709551616) (HM : Ans 128 #[.int .u64 a, .int .u64 b] (.tuple #[.int .u64 h, .int .u64 l]))
    (HD : Ans 151 #[.int .u64 h, .int .u64 l, .int .u64 m] (.int .u64 r)) :
    Ans 139 #[.int .u64 a, .int .u64 b, .int .u64 m] (.int .u64 r) := by
  intro w
  go_enter Tryz.func139, Tryz.ntmps139
  go_wp2_with (first | (go_at_call 128; with_reducible refine Ans.use HM _ fun n1 => ?_) | (go_at_call 151; with_reducible refine Ans.use HD _ fun n2 => ?_))
  go_ret
  exact ⟨rfl, _, rfl⟩
/-- bits.Mul64: both halves of a product. -/
theorem mul64_any (a b : Int) (ha : Wd a) (hb : Wd b) : ∃ h l : Int, Wd h ∧ Wd l ∧ h * 18446744073709551616 + l = a * b ∧ Ans 128 #[.int .u64 a, .int .u64 b] (.tuple #[.int .u64 h, .int .u64 l]) := by
  obtain ⟨a, rfl, ka⟩ := wd_nat ha
  obtain ⟨b, rfl, kb⟩ := wd_nat hb
  have hp : a * b ≤ 18446744073709551615 * 18446744073709551615 := Nat.mul_le_mul (by omega) (by omega)
  refine ⟨((a * b / 18446744073709551616 : Nat) : Int), ((a * b % 18446744073709551616 : Nat) : Int), ⟨by omega, by omega⟩, ⟨by omega, by omega⟩, ?_, fun w => (Tryz.bits_Mul64 a b ka kb w).mono fun e w' ⟨he, hw⟩ => ⟨he, 0, hw⟩⟩
  rw [← Int.natCast_mul]
  omega
/-- A product's rest. -/
theorem mul_any (a b m : Int) (ha : Wd a) (hb : Wd b) (hm : Wd m) (hm0 : 0 < m) : Ans 139 #[.int .u64 a, .int .u64 b, .int .u64 m] (.int .u64 (a * b % m)) := by
  obtain ⟨h, l, hh, hl, e, t⟩ := mul64_any a b ha hb
  refine ans_int (mul_walk a b m h l _ hm0 hm.2 t (rem_any h l m hh hl hm hm0)) ?_
  rw [e]
theorem mul_nat (a b m : Nat) (ha : a < 18446744073709551616) (hb : b < 18446744073709551616) (hm : m < 18446744073709551616) (hm0 : 0 < m) :
    Ans 139 #[.int .u64 a, .int .u64 b, .int .u64 m] (.int .u64 ((a * b % m : Nat) : Int)) :=
  ans_int (mul_any a b m ⟨by omega, by omega⟩ ⟨by omega, by omega⟩ ⟨by omega, by omega⟩ (by omega)) (by simp)

/-- What the document's Gcd is. -/
theorem gcd_step (a b : Nat) : Nat.gcd b (a % b) = Nat.gcd a b := by
  rw [Nat.gcd_comm b, ← Nat.gcd_rec, Nat.gcd_comm]


theorem inv_small (a m : Int) (hm0 : 0 ≤ m) (hm : m < 2) : Ans 137 #[.int .u64 a, .int .u64 m] (.tuple #[.int .u64 0, .bool false]) := by
  intro w
  go_enter Tryz.func137, Tryz.ntmps137
  go_wp2
  go_ret2
  exact ⟨rfl, 0, rfl⟩

/-- What Euclid's row keeps: two rests, each a factor of a, modulo m; their greatest common divisor. -/
def Row (a m rest next f g : Nat) : Prop := (m : Int) ∣ (rest : Int) - f * a ∧ (m : Int) ∣ (next : Int) - g * a ∧ Nat.gcd rest next = Nat.gcd a m
theorem Row.start (a m : Nat) : Row a m m (a % m) 0 1 := by
  refine ⟨⟨1, by simp⟩, ?_, ?_⟩
  · have := Plain.dvd_emod_sub m a
    simpa using this
  · rw [gcd_step]
theorem Row.step {a m rest next f g t s u : Nat} (h : Row a m rest next f g) (ht : rest / next = t) (hs : t * g % m = s) (hu : ((f : Int) - s) % m = u) : Row a m next (rest % next) g u := by
  obtain ⟨h1, h2, h3⟩ := h
  refine ⟨h2, ?_, by rw [gcd_step, h3]⟩
  have := Plain.row_step m a rest next f g t h1 h2
  have e1 : ((t : Int) * g) % m = s := by exact_mod_cast hs
  rw [e1, hu] at this
  have e2 : (rest : Int) - t * next = ((rest % next : Nat) : Int) := by
    have := Nat.mod_add_div rest next
    rw [ht] at this
    have e : ((rest % next : Nat) : Int) + next * t = rest := by exact_mod_cast this
    rw [Int.mul_comm (t : Int)]; omega
  rw [e2] at this
  exact this

set_option maxHeartbeats 2000000 in
theorem inv_walk (a m : Nat) (ha : a < 18446744073709551616) (hm : m < 18446744073709551616) (hm2 : 2 ≤ m) (w : World) :
    Calls Tryz.prog 137 #[.int .u64 a, .int .u64 m] w fun e w' => ∃ (x : Nat) (ok : Bool), e = .returned (.tuple #[.int .u64 x, .bool ok]) ∧ (if ok then x < m ∧ Nat.gcd a m = 1 ∧ a * x % m = 1 else x = 0 ∧ Nat.gcd a m ≠ 1) ∧ ∃ n, w' = w.drewN n := by
  have hm1 : ((m : Int) == 0) = false := by simp; omega
  have hm3 : ¬ ((m : Int) < 2) := by omega
  have hlt := Nat.mod_lt a (show 0 < m by omega)
  have HS := Row.start a m
  go_enter Tryz.func137, Tryz.ntmps137
  go_wp2
  go_region
  go_wp2
  go_loopw [6, 7, 8, 9] (fun x y z v W => ∃ r s f g n : Nat, x = .int .u64 r ∧ y = .int .u64 s ∧ z = .int .u64 f ∧ v = .int .u64 g ∧ r < 18446744073709551616 ∧ s < 18446744073709551616 ∧ f < m ∧ g < m ∧ Row a m r s f g ∧ W = w.drewN n) (fun _ y _ _ _ => (intOf y).toNat)
  case atStart => exact ⟨m, a % m, 0, 1, 1, rfl, by go_num, rfl, rfl, hm, by omega, by omega, by omega, HS, rfl⟩
  case round =>
    obtain ⟨r, s, f, g, n, rfl, rfl, rfl, rfl, hr, hs, hf, hg, HR, HW⟩ := hrel
    clear HS
    by_cases h0 : 0 < s
    · have h1 : ((s : Int) == 0) = false := by simp; omega
      have hl := Nat.mod_lt r h0
      have hdl : r / s ≤ r := Nat.div_le_self r s
      have hd : (r : Int) / s = ((r / s : Nat) : Int) := by simp
      obtain ⟨t, ht⟩ : ∃ t, r / s = t := ⟨_, rfl⟩
      obtain ⟨q, hq⟩ : ∃ q, t * g % m = q := ⟨_, rfl⟩
      have hql : q < m := hq ▸ Nat.mod_lt _ (by omega)
      have u0 := Int.emod_nonneg ((f : Int) - q) (show (m : Int) ≠ 0 by omega)
      have u1 := Int.emod_lt_of_pos ((f : Int) - q) (show (0 : Int) < m by omega)
      obtain ⟨u, hu⟩ := Int.eq_ofNat_of_zero_le u0
      have HM : Ans 139 #[.int .u64 t, .int .u64 g, .int .u64 m] (.int .u64 (q : Int)) := hq ▸ mul_nat t g m (by omega) (by omega) hm (by omega)
      have HB : Ans 150 #[.int .u64 f, .int .u64 q, .int .u64 m] (.int .u64 (u : Int)) := hu ▸ sub_any f q m ⟨by omega, by omega⟩ ⟨by omega, by omega⟩ ⟨by omega, by omega⟩ (by omega)
      have HR' : Row a m s (r % s) g u := HR.step ht hq hu
      have hul : u < m := by omega
      rw [ht] at hd
      clear ht hq hu u0 u1 HR
      go_wp2_with fail
      go_region
      go_wp2_with (first | (go_at_call 139; with_reducible refine Ans.use HM _ fun n1 => ?_) | (go_at_call 150; with_reducible refine Ans.use HB _ fun n2 => ?_))
      go_roundw
      case rel => exact ⟨s, r % s, g, u, n + 1 + n1 + n2, rfl, by go_num, rfl, rfl, hs, by omega, hg, hul, HR', rfl⟩
      case measure => simp [intOf]; omega
    · obtain rfl : s = 0 := by omega
      obtain ⟨h1, h2, h3⟩ := HR
      rw [Nat.gcd_zero_right] at h3
      have H3 : Hid (r = Nat.gcd a m) := h3
      clear h3 h2
      by_cases hr1 : r = 1
      · subst hr1
        have H1 : Hid ((m : Int) ∣ ((1 : Nat) : Int) - f * a) := h1
        clear h1
        go_wp2
        go_ret2
        exact ⟨f, true, rfl, by rw [if_pos rfl]; exact ⟨hf, H3.out.symm, Plain.one_of_dvd m f a hm2 H1.out⟩, n, rfl⟩
      · have hr2 : ((r : Int) == 1) = false := by simp; omega
        clear h1
        go_wp2
        go_ret2
        exact ⟨0, false, rfl, by rw [if_neg (by simp)]; exact ⟨rfl, fun h => hr1 (H3.out.trans h)⟩, n, rfl⟩

theorem row_ends (a m : Nat) (hm : 0 < m) : ∀ (s r f g : Nat), f < m → g < m → Row a m r s f g → ∃ x, x < m ∧ (m : Int) ∣ ((Nat.gcd a m : Nat) : Int) - x * a := by
  intro s
  induction s using Nat.strongRecOn with
  | ind s ih =>
    intro r f g hf hg h
    by_cases h0 : s = 0
    · subst h0
      obtain ⟨h1, h2, h3⟩ := h
      rw [Nat.gcd_zero_right] at h3
      rw [h3] at h1
      exact ⟨f, hf, h1⟩
    · have u0 := Int.emod_nonneg ((f : Int) - ((r / s * g % m : Nat) : Int)) (show (m : Int) ≠ 0 by omega)
      have u1 := Int.emod_lt_of_pos ((f : Int) - ((r / s * g % m : Nat) : Int)) (show (0 : Int) < m by omega)
      obtain ⟨u, hu⟩ := Int.eq_ofNat_of_zero_le u0
      exact ih (r % s) (Nat.mod_lt _ (by omega)) s g u hg (by omega) (h.step rfl rfl hu)
theorem inverse (a m : Nat) (hm : 2 ≤ m) (hg : Nat.gcd a m = 1) : ∃ x, x < m ∧ a * x % m = 1 := by
  obtain ⟨x, hx, h⟩ := row_ends a m (by omega) (a % m) m 0 1 (by omega) (by omega) (Row.start a m)
  rw [hg] at h
  exact ⟨x, hx, Plain.one_of_dvd m x a hm h⟩
theorem inverse_one (a m x y : Nat) (hx : x < m) (hy : y < m) (h1 : a * x % m = 1) (h2 : a * y % m = 1) : x = y := by
  have e1 : x * (a * y % m) % m = x := by rw [h2, Nat.mul_one, Nat.mod_eq_of_lt hx]
  have e2 : y * (a * x % m) % m = y := by rw [h1, Nat.mul_one, Nat.mod_eq_of_lt hy]
  rw [Nat.mul_mod_mod] at e1 e2
  have : x * (a * y) = y * (a * x) := by rw [Nat.mul_left_comm, Nat.mul_left_comm y, Nat.mul_comm x]
  rw [this] at e1
  exact e1.symm.trans e2

/-- There is an inverse, and Inv answers it. -/
theorem inv_yes (a m : Nat) (ha : a < 18446744073709551616) (hm : m < 18446744073709551616) (hm2 : 2 ≤ m) (hg : Nat.gcd a m = 1) :
    ∃ x : Nat, x < m ∧ a * x % m = 1 ∧ Ans 137 #[.int .u64 a, .int .u64 m] (.tuple #[.int .u64 (x : Int), .bool true]) := by
  obtain ⟨x, hx, h⟩ := inverse a m hm2 hg
  refine ⟨x, hx, h, fun w => (inv_walk a m ha hm hm2 w).mono ?_⟩
  rintro e w' ⟨y, ok, rfl, hy, hw⟩
  cases ok
  · simp [hg] at hy
  · rw [if_pos rfl] at hy
    rw [inverse_one a m x y hx hy.1 h hy.2.2]
    exact ⟨rfl, hw⟩
/-- There is no inverse, and Inv says so. -/
theorem inv_no (a m : Nat) (ha : a < 18446744073709551616) (hm : m < 18446744073709551616) (hm2 : 2 ≤ m) (hg : Nat.gcd a m ≠ 1) :
    Ans 137 #[.int .u64 a, .int .u64 m] (.tuple #[.int .u64 0, .bool false]) := by
  refine fun w => (inv_walk a m ha hm hm2 w).mono ?_
  rintro e w' ⟨y, ok, rfl, hy, hw⟩
  cases ok
  · rw [if_neg (by simp)] at hy
    rw [hy.1]
    exact ⟨rfl, hw⟩
  · exact absurd hy.2.1 hg

end Go.Proofs.YtpjfapibjihbbaaGreatDoor.Md
/-
  A field's calls: what they answer, of every number, in a world that holds the field; and of a nil field.
-/
namespace Go.Proofs.YtpjfapibjihbbaaGreatDoor
set_option linter.unusedVariables false
open Go.RowKit

theorem reck_nil (w : World) : AnsW w 100 #[.pointer none] (.pointer none) := by
  intro n
  go_enter Tryz.func100, Tryz.ntmps100
  go_wp2
  go_ret
  exact ⟨rfl, 0, rfl⟩
theorem reck_some (w : World) (b : Nat) (c : Option Addr) (h : w.cell? ⟨b, 0, none⟩ = some (.pointer c)) : AnsW w 100 #[.pointer (some ⟨b, 0, none⟩)] (.pointer c) := by
  intro n
  go_enter Tryz.func100, Tryz.ntmps100
  go_wp2
  go_ret
  exact ⟨rfl, 0, rfl⟩

theorem fP_walk (w : World) (v c : Option Addr) ( r : Int) (HR : AnsW w 100 #[.pointer v] (.pointer c)) (HM : AnsW w 101 #[.pointer c] (.int .u64 r)) :
    AnsW w 80 #[.pointer v] (.int .u64 r) := by
  intro n
  go_enter Tryz.func80, Tryz.ntmps80
  go_wp2_with (first | (go_at_call 100; with_reducible refine AnsW.use HR _ fun n1 => ?_) | (go_at_call 101; with_reducible refine AnsW.use HM _ fun n2 => ?_))
  go_ret
  exact ⟨rfl, _, by rw [Nat.add_assoc]⟩

theorem fAdd_walk (w : World) (v c : Option Addr) (x y r : Int) (HR : AnsW w 100 #[.pointer v] (.pointer c)) (HM : AnsW w 138 #[.pointer c, .int .u64 x, .int .u64 y] (.int .u64 r)) :
    AnsW w 110 #[.pointer v, .int .u64 x, .int .u64 y] (.int .u64 r) := by
  intro n
  go_enter Tryz.func110, Tryz.ntmps110
  go_wp2_with (first | (go_at_call 100; with_reducible refine AnsW.use HR _ fun n1 => ?_) | (go_at_call 138; with_reducible refine AnsW.use HM _ fun n2 => ?_))
  go_ret
  exact ⟨rfl, _, by rw [Nat.add_assoc]⟩

theorem fLift_walk (w : World) (v c : Option Addr) (x r : Int) (HR : AnsW w 100 #[.pointer v] (.pointer c)) (HM : AnsW w 95 #[.pointer c, .int .u64 x] (.int .u64 r)) :
    AnsW w 103 #[.pointer v, .int .u64 x] (.int .u64 r) := by
  intro n
  go_enter Tryz.func103, Tryz.ntmps103
  go_wp2_with (first | (go_at_call 100; with_reducible refine AnsW.use HR _ fun n1 => ?_) | (go_at_call 95; with_reducible refine AnsW.use HM _ fun n2 => ?_))
  go_ret
  exact ⟨rfl, _, by rw [Nat.add_assoc]⟩

theorem fTimes_walk (w : World) (v c : Option Addr) (x y r : Int) (HR : AnsW w 100 #[.pointer v] (.pointer c)) (HM : AnsW w 129 #[.pointer c, .int .u64 x, .int .u64 y] (.int .u64 r)) :
    AnsW w 109 #[.pointer v, .int .u64 x, .int .u64 y] (.int .u64 r) := by
  intro n
  go_enter Tryz.func109, Tryz.ntmps109
  go_wp2_with (first | (go_at_call 100; with_reducible refine AnsW.use HR _ fun n1 => ?_) | (go_at_call 129; with_reducible refine AnsW.use HM _ fun n2 => ?_))
  go_ret
  exact ⟨rfl, _, by rw [Nat.add_assoc]⟩

theorem fPow_walk (w : World) (v c : Option Addr) (x e l k r : Int) (HR : AnsW w 100 #[.pointer v] (.pointer c)) (HI : AnsW w 95 #[.pointer c, .int .u64 x] (.int .u64 l))
    (HP : AnsW w 96 #[.pointer c, .int .u64 l, .int .u64 e] (.int .u64 k)) (HO : AnsW w 153 #[.pointer c, .int .u64 k] (.int .u64 r)) :
    AnsW w 154 #[.pointer v, .int .u64 x, .int .u64 e] (.int .u64 r) := by
  intro n
  go_enter Tryz.func154, Tryz.ntmps154
  go_wp2_with (first | (go_at_call 100; with_reducible refine AnsW.use HR _ fun n1 => ?_) | (go_at_call 95; with_reducible refine AnsW.use HI _ fun n2 => ?_) | (go_at_call 96; with_reducible refine AnsW.use HP _ fun n3 => ?_) | (go_at_call 153; with_reducible refine AnsW.use HO _ fun n4 => ?_))
  go_ret
  exact ⟨rfl, n1 + n2 + n3 + n4, by simp [Nat.add_assoc]⟩
theorem fInv_walk (w : World) (v : Option Addr) (x p r : Int) (b : Bool) (HP : AnsW w 80 #[.pointer v] (.int .u64 p)) (HI : Ans 137 #[.int .u64 x, .int .u64 p] (.tuple #[.int .u64 r, .bool b])) :
    AnsW w 108 #[.pointer v, .int .u64 x] (.int .u64 r) := by
  intro n
  go_enter Tryz.func108, Tryz.ntmps108
  go_wp2_with (first | (go_at_call 80; with_reducible refine AnsW.use HP _ fun n1 => ?_) | (go_at_call 137; with_reducible refine Ans.use HI _ fun n2 => ?_))
  go_ret
  exact ⟨rfl, n1 + n2, by simp [Nat.add_assoc]⟩
theorem fGood_walk (w : World) (v : Option Addr) (x p : Int) (HP : AnsW w 80 #[.pointer v] (.int .u64 p)) :
    AnsW w 64 #[.pointer v, .int .u64 x] (.bool (decide (x < p))) := by
  intro n
  go_enter Tryz.func64, Tryz.ntmps64
  go_wp2_with (first | (go_at_call 80; with_reducible refine AnsW.use HP _ fun n1 => ?_))
  go_ret
  exact ⟨rfl, _, rfl⟩
theorem fG_nil (w : World) : AnsW w 155 #[.pointer none] (.int .u64 0) := by
  intro n
  go_enter Tryz.func155, Tryz.ntmps155
  go_wp2
  go_ret
  exact ⟨rfl, 0, rfl⟩
theorem fG_some (w : World) (b : Nat) (g : Int) (h : w.cell? ⟨b, 2, none⟩ = some (.int .u64 g)) : AnsW w 155 #[.pointer (some ⟨b, 0, none⟩)] (.int .u64 g) := by
  intro n
  go_enter Tryz.func155, Tryz.ntmps155
  go_wp2
  go_ret
  exact ⟨rfl, 0, rfl⟩
theorem fDiv_nil (w : World) (z : Int) : AnsW w 63 #[.pointer none, .int .i64 z] (.bool false) := by
  intro n
  go_enter Tryz.func63, Tryz.ntmps63
  go_wp2
  go_ret
  exact ⟨rfl, 0, rfl⟩
theorem fDiv_less (w : World) (a : Addr) (z : Int) (hz : z < 1) : AnsW w 63 #[.pointer (some a), .int .i64 z] (.bool false) := by
  intro n
  go_enter Tryz.func63, Tryz.ntmps63
  go_wp2
  go_ret
  exact ⟨rfl, 0, rfl⟩
theorem fDiv_walk (w : World) (a : Addr) (z p r : Int) (hz : 1 ≤ z) (hz2 : z < 9223372036854775808) (hp : 1 ≤ p) (hp2 : p < 18446744073709551616) (hr : (p - 1) % z = r) (HP : AnsW w 80 #[.pointer (some a)] (.int .u64 p)) : AnsW w 63 #[.pointer (some a), .int .i64 z] (.bool (r == 0)) := by
  intro n
  have h0 : (z == 0) = false := by simp; omega
  go_enter Tryz.func63, Tryz.ntmps63
  go_wp2_with (first | (go_at_call 80; with_reducible refine AnsW.use HP _ fun n1 => ?_))
  go_ret
  exact ⟨rfl, _, rfl⟩
theorem fRoot_nil (w : World) (z : Int) : AnsW w 148 #[.pointer none, .int .i64 z] (.tuple #[.int .u64 0, .int .i64 2]) := by
  intro n
  go_enter Tryz.func148, Tryz.ntmps148
  go_wp2
  go_ret2
  exact ⟨rfl, 0, rfl⟩
theorem fRoot_no (w : World) (a : Addr) (z : Int) (HD : AnsW w 63 #[.pointer (some a), .int .i64 z] (.bool false)) : AnsW w 148 #[.pointer (some a), .int .i64 z] (.tuple #[.int .u64 0, .int .i64 4]) := by
  intro n
  go_enter Tryz.func148, Tryz.ntmps148
  go_wp2_with (first | (go_at_call 63; with_reducible refine AnsW.use HD _ fun n1 => ?_))
  go_ret2
  exact ⟨rfl, _, rfl⟩
theorem fRoot_yes (w : World) (a : Addr) (z p g k r : Int) (hz : 1 ≤ z) (hz2 : z < 9223372036854775808) (hp : 1 ≤ p) (hp2 : p < 18446744073709551616) (hk : (p - 1) / z = k) (HD : AnsW w 63 #[.pointer (some a), .int .i64 z] (.bool true))
    (HP : AnsW w 80 #[.pointer (some a)] (.int .u64 p)) (HG : AnsW w 155 #[.pointer (some a)] (.int .u64 g)) (HW : AnsW w 154 #[.pointer (some a), .int .u64 g, .int .u64 k] (.int .u64 r)) :
    AnsW w 148 #[.pointer (some a), .int .i64 z] (.tuple #[.int .u64 r, .int .i64 0]) := by
  intro n
  have h0 : (z == 0) = false := by simp; omega
  go_enter Tryz.func148, Tryz.ntmps148
  go_wp2_with (first | (go_at_call 63; with_reducible refine AnsW.use HD _ fun n1 => ?_) | (go_at_call 80; with_reducible refine AnsW.use HP _ fun n2 => ?_) | (go_at_call 155; with_reducible refine AnsW.use HG _ fun n3 => ?_) | (go_at_call 154; with_reducible refine AnsW.use HW _ fun n4 => ?_))
  go_ret2
  exact ⟨rfl, n1 + n3 + n2 + n4, by simp [Nat.add_assoc]⟩
end Go.Proofs.YtpjfapibjihbbaaGreatDoor
/-
  A field's calls, over the numbers: sums, products, powers, inverses, roots modulo its prime.
-/
namespace Go.Proofs.YtpjfapibjihbbaaGreatDoor
set_option linter.unusedVariables false
open Go.RowKit

abbrev pt (b : Nat) : Value := .pointer (some ⟨b, 0, none⟩)
theorem FieldAt.num {w : World} {b : Nat} {x : En} (F : FieldAt w b x) : x.p % 2 = 1 ∧ 1 < x.p ∧ x.p < 9223372036854775808 := by
  obtain ⟨c, m, h0, C⟩ := F.ctx
  exact ⟨C.odd, C.one, C.lt⟩
theorem fP_any {w : World} {b : Nat} {x : En} (F : FieldAt w b x) : AnsW w 80 #[pt b] (.int .u64 (x.p : Int)) := by
  obtain ⟨c, m, h0, C⟩ := F.ctx
  exact fP_walk w _ _ _ (reck_some w b _ h0) (modulus_walk w c _ C.c0)
theorem fG_any {w : World} {b : Nat} {x : En} (F : FieldAt w b x) : AnsW w 155 #[pt b] (.int .u64 (x.g : Int)) := fG_some w b _ F.g
theorem fAdd_any {w : World} {b : Nat} {x : En} (F : FieldAt w b x) (a c : Nat) (ha : a < 18446744073709551616) (hc : c < 18446744073709551616) : AnsW w 110 #[pt b, .int .u64 a, .int .u64 c] (.int .u64 (((a + c) % x.p : Nat) : Int)) := by
  obtain ⟨d, m, h0, C⟩ := F.ctx
  exact fAdd_walk w _ _ _ _ _ (reck_some w b _ h0) (madd_any C a c ha hc)
theorem fLift_any {w : World} {b : Nat} {x : En} (F : FieldAt w b x) (a : Nat) (ha : a < 18446744073709551616) : AnsW w 103 #[pt b, .int .u64 a] (.int .u64 ((up a x.p : Nat) : Int)) := by
  obtain ⟨d, m, h0, C⟩ := F.ctx
  exact fLift_walk w _ _ _ _ (reck_some w b _ h0) (in_any C a ha)
theorem fTimes_any {w : World} {b : Nat} {x : En} (F : FieldAt w b x) (a c : Nat) (ha : a < 18446744073709551616) (hc : c < 18446744073709551616) : AnsW w 109 #[pt b, .int .u64 a, .int .u64 c] (.int .u64 ((dn (a * c) x.p : Nat) : Int)) := by
  obtain ⟨d, m, h0, C⟩ := F.ctx
  exact fTimes_walk w _ _ _ _ _ (reck_some w b _ h0) (mmul_any C a c ha hc)
theorem fTimes_lift {w : World} {b : Nat} {x : En} (F : FieldAt w b x) (a c : Nat) (ha : a < 18446744073709551616) (hc : c < 18446744073709551616) : AnsW w 109 #[pt b, .int .u64 ((up a x.p : Nat) : Int), .int .u64 c] (.int .u64 ((a * c % x.p : Nat) : Int)) := by
  obtain ⟨h1, h2, h3⟩ := F.num
  have hu := up_lt a x.p (by omega)
  refine ansW_int (fTimes_any F (up a x.p) c (by omega) hc) ?_
  rw [dn_mul', dn_up a x.p h1 h2, Nat.mod_mul_mod]
theorem fPow_any {w : World} {b : Nat} {x : En} (F : FieldAt w b x) (a e : Nat) (ha : a < 18446744073709551616) (he : e < 18446744073709551616) : AnsW w 154 #[pt b, .int .u64 a, .int .u64 e] (.int .u64 ((a ^ e % x.p : Nat) : Int)) := by
  obtain ⟨h1, h2, h3⟩ := F.num
  obtain ⟨d, m, h0, C⟩ := F.ctx
  have hu := up_lt a x.p (by omega)
  have HP := mpow_any C (up a x.p) e (by omega) he
  have hu2 := up_lt (dn (up a x.p) x.p ^ e) x.p (by omega)
  refine ansW_int (fPow_walk w _ _ _ _ _ _ _ (reck_some w b _ h0) (in_any C a ha) HP (out_any C _ (by omega))) ?_
  rw [dn_up _ x.p h1 h2, dn_up _ x.p h1 h2, ← Nat.pow_mod]
theorem fGood_any {w : World} {b : Nat} {x : En} (F : FieldAt w b x) (a : Nat) : AnsW w 64 #[pt b, .int .u64 a] (.bool (decide ((a : Int) < (x.p : Int)))) := fGood_walk w _ _ _ (fP_any F)
/-- What makes 1 with a, modulo p; 0 of a multiple of p. -/
structure IsInv (a p v : Nat) : Prop where
  lt : v < p
  yes : a % p ≠ 0 → a * v % p = 1
  no : a % p = 0 → v = 0
theorem coprime_of {p a : Nat} (hp : Prm p) (h : a % p ≠ 0) : Nat.gcd a p = 1 := by
  have := hp.coprime (m := a) (fun h' => h (Nat.mod_eq_zero_of_dvd h'))
  rwa [Nat.coprime_comm] at this
theorem fInv_any {x : En} (hp : Prm x.p) (h2 : x.p < 9223372036854775808) (a : Nat) (ha : a < 18446744073709551616) : ∃ v, IsInv a x.p v ∧ ∀ (w : World) (b : Nat), FieldAt w b x → AnsW w 108 #[pt b, .int .u64 a] (.int .u64 (v : Int)) := by
  have h1 := hp.1
  by_cases h : a % x.p = 0
  · refine ⟨0, ⟨by omega, fun h' => absurd h h', fun _ => rfl⟩, fun w b F => ?_⟩
    have hg : Nat.gcd a x.p ≠ 1 := by
      obtain ⟨k, rfl⟩ := Nat.dvd_of_mod_eq_zero h
      rw [Nat.gcd_mul_right_left]; omega
    exact fInv_walk w _ _ _ _ _ (fP_any F) (Md.inv_no a x.p ha (by omega) (by omega) hg)
  · obtain ⟨v, hv, h3, HI⟩ := Md.inv_yes a x.p ha (by omega) (by omega) (coprime_of hp h)
    exact ⟨v, ⟨hv, fun _ => h3, fun h' => absurd h' h⟩, fun w b F => fInv_walk w _ _ _ _ _ (fP_any F) HI⟩
/-- Whether n is from 1 on, and divides p - 1. -/
def dvB (p : Nat) (z : Int) : Bool := decide (1 ≤ z) && decide ((p - 1) % z.toNat = 0)
theorem fDiv_any {w : World} {b : Nat} {x : En} (F : FieldAt w b x) (z : Int) (hz : z < 9223372036854775808) : AnsW w 63 #[pt b, .int .i64 z] (.bool (dvB x.p z)) := by
  obtain ⟨h1, h2, h3⟩ := F.num
  by_cases h : z < 1
  · refine (fDiv_less w _ z h).to ?_
    unfold dvB; rw [decide_eq_false (by omega)]; rfl
  · obtain ⟨n, rfl⟩ := Int.eq_ofNat_of_zero_le (show 0 ≤ z by omega)
    refine (fDiv_walk w _ (n : Int) x.p (((x.p - 1) % n : Nat) : Int) (by omega) hz (by omega) (by omega) ?_ (fP_any F)).to ?_
    · rw [show (x.p : Int) - 1 = ((x.p - 1 : Nat) : Int) by omega]; rfl
    · unfold dvB
      rw [decide_eq_true (show 1 ≤ (n : Int) by omega), Bool.true_and, Int.toNat_natCast]
      congr 1
      by_cases e : (x.p - 1) % n = 0
      · rw [e]; rfl
      · rw [decide_eq_false e]; simp; omega
theorem dvB_nat {p n : Nat} (h1 : 1 ≤ n) (h : (p - 1) % n = 0) : dvB p (n : Int) = true := by
  unfold dvB
  rw [decide_eq_true (show 1 ≤ (n : Int) by omega), Bool.true_and, Int.toNat_natCast, decide_eq_true h]
theorem dvB_true {p : Nat} {z : Int} (h : dvB p z = true) : ∃ n : Nat, z = n ∧ 1 ≤ n ∧ (p - 1) % n = 0 := by
  unfold dvB at h
  simp only [Bool.and_eq_true, decide_eq_true_eq] at h
  exact ⟨z.toNat, by omega, by omega, h.2⟩
theorem fRoot_bad {w : World} {b : Nat} {x : En} (F : FieldAt w b x) (z : Int) (hz : z < 9223372036854775808) (h : dvB x.p z = false) : AnsW w 148 #[pt b, .int .i64 z] (.tuple #[.int .u64 0, .int .i64 4]) :=
  fRoot_no w _ z ((fDiv_any F z hz).to (by rw [h]))
theorem fRoot_any {w : World} {b : Nat} {x : En} (F : FieldAt w b x) (hg : x.g < 18446744073709551616) (n : Nat) (hn : n < 9223372036854775808) (h1 : 1 ≤ n) (h : (x.p - 1) % n = 0) : AnsW w 148 #[pt b, .int .i64 (n : Int)] (.tuple #[.int .u64 ((x.g ^ ((x.p - 1) / n) % x.p : Nat) : Int), .int .i64 0]) := by
  obtain ⟨k1, k2, k3⟩ := F.num
  have hk : (x.p - 1) / n ≤ x.p - 1 := Nat.div_le_self _ _
  refine fRoot_yes w _ (n : Int) x.p x.g (((x.p - 1) / n : Nat) : Int) _ (by omega) (by omega) (by omega) (by omega) ?_ ((fDiv_any F _ (by omega)).to (by rw [dvB_nat h1 h])) (fP_any F) (fG_any F) (fPow_any F x.g _ hg (by omega))
  rw [show (x.p : Int) - 1 = ((x.p - 1 : Nat) : Int) by omega]; rfl
end Go.Proofs.YtpjfapibjihbbaaGreatDoor

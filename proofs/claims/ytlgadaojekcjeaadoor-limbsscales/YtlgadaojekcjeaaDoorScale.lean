/-
  Contracts of limbs.Times and limbs.Scale.
-/
import Derived.Test.YtlgadaojekcjeaaDoorA
import Derived.Test.YtlgadaojekcjeaaDoorLib
namespace Go.Proofs.YtlgadaojekcjeaaDoor
open Go.RowKit

theorem mul_walk (a b h l : Int) (t : ∀ w, Calls Tryd.prog 37 #[.int .u64 a, .int .u64 b] w fun e w' => e = .returned (.tuple #[.int .u64 h, .int .u64 l]) ∧ w' = w) (w : World) :
    Calls Tryd.prog 22 #[.int .u64 a, .int .u64 b] w fun e w' => e = .returned (.tuple #[.int .u64 h, .int .u64 l]) ∧ w' = w := by
  have T : Hid (∀ w, Calls Tryd.prog 37 #[.int .u64 a, .int .u64 b] w fun e w' => e = .returned (.tuple #[.int .u64 h, .int .u64 l]) ∧ w' = w) := t
  clear t
  go_enter Tryd.func22, Tryd.ntmps22
  go_wp2_with fail
  refine (T.out _).mono ?_
  rintro e w1 ⟨rfl, rfl⟩
  go_wp2
  go_ret2
  exact ⟨rfl, rfl⟩

/-- limbs.Times: the product, its high half and its low one. -/
theorem times_any (a b : Int) (ha : Wd a) (hb : Wd b) : ∃ h l : Int, Wd h ∧ h ≤ 18446744073709551614 ∧ Wd l ∧ h * 18446744073709551616 + l = a * b ∧
    ∀ w, Calls Tryd.prog 22 #[.int .u64 a, .int .u64 b] w fun e w' => e = .returned (.tuple #[.int .u64 h, .int .u64 l]) ∧ w' = w := by
  obtain ⟨ha0, ha1⟩ := ha
  obtain ⟨hb0, hb1⟩ := hb
  obtain ⟨a, rfl⟩ := Int.eq_ofNat_of_zero_le ha0
  obtain ⟨b, rfl⟩ := Int.eq_ofNat_of_zero_le hb0
  have hp : a * b ≤ 18446744073709551615 * 18446744073709551615 := Nat.mul_le_mul (by omega) (by omega)
  refine ⟨((a * b / 18446744073709551616 : Nat) : Int), ((a * b % 18446744073709551616 : Nat) : Int), ⟨by omega, by omega⟩, by omega, ⟨by omega, by omega⟩, ?_, fun w => mul_walk a b _ _ (fun w => Tryd.bits_Mul64 a b (by omega) (by omega) w) w⟩
  rw [← Int.natCast_mul]
  omega

set_option maxHeartbeats 2000000 in
theorem scale_walk (a0 a1 a2 k h0 l0 h1 l1 h2 l2 s0 c0 s1 c1 s2 c2 : Int) (w : World)
    (t0 : ∀ w, Calls Tryd.prog 22 #[.int .u64 a0, .int .u64 k] w fun e w' => e = .returned (.tuple #[.int .u64 h0, .int .u64 l0]) ∧ w' = w)
    (t1 : ∀ w, Calls Tryd.prog 22 #[.int .u64 a1, .int .u64 k] w fun e w' => e = .returned (.tuple #[.int .u64 h1, .int .u64 l1]) ∧ w' = w)
    (t2 : ∀ w, Calls Tryd.prog 22 #[.int .u64 a2, .int .u64 k] w fun e w' => e = .returned (.tuple #[.int .u64 h2, .int .u64 l2]) ∧ w' = w)
    (u0 : ∀ w, (callFunc 34 #[.int .u64 l0, .int .u64 0, .int .u64 0]).run Tryd.prog w = .ok (.value (.tuple #[.int .u64 s0, .int .u64 c0])) w)
    (u1 : ∀ w, (callFunc 34 #[.int .u64 l1, .int .u64 (h0 + c0), .int .u64 0]).run Tryd.prog w = .ok (.value (.tuple #[.int .u64 s1, .int .u64 c1])) w)
    (u2 : ∀ w, (callFunc 34 #[.int .u64 l2, .int .u64 (h1 + c1), .int .u64 0]).run Tryd.prog w = .ok (.value (.tuple #[.int .u64 s2, .int .u64 c2])) w)
    (b0 : 0 ≤ h0 + c0) (b0' : h0 + c0 < 18446744073709551616) (b1 : 0 ≤ h1 + c1) (b1' : h1 + c1 < 18446744073709551616) (b2 : 0 ≤ h2 + c2) (b2' : h2 + c2 < 18446744073709551616) :
    Calls Tryd.prog 21 #[.agg #[.int .u64 a0, .int .u64 a1, .int .u64 a2], .int .u64 k] w fun e w' => e = .returned (.tuple #[.agg #[.int .u64 s0, .int .u64 s1, .int .u64 s2], .int .u64 (h2 + c2)]) ∧ Below w.heap.size w w' := by
  have T0 : Hid (∀ w, Calls Tryd.prog 22 #[.int .u64 a0, .int .u64 k] w fun e w' => e = .returned (.tuple #[.int .u64 h0, .int .u64 l0]) ∧ w' = w) := t0
  have T1 : Hid (∀ w, Calls Tryd.prog 22 #[.int .u64 a1, .int .u64 k] w fun e w' => e = .returned (.tuple #[.int .u64 h1, .int .u64 l1]) ∧ w' = w) := t1
  have T2 : Hid (∀ w, Calls Tryd.prog 22 #[.int .u64 a2, .int .u64 k] w fun e w' => e = .returned (.tuple #[.int .u64 h2, .int .u64 l2]) ∧ w' = w) := t2
  clear t0 t1 t2
  go_enter Tryd.func21, Tryd.ntmps21
  go_wp2_with fail
  refine wp_loop_rounds 4 ?_
  rw [rounds_succ]
  go_wp2_with fail
  refine (T0.out _).mono ?_
  rintro e w1 ⟨rfl, rfl⟩
  go_wp2
  rw [rounds_succ]
  go_wp2_with fail
  refine (T1.out _).mono ?_
  rintro e w2 ⟨rfl, rfl⟩
  go_wp2
  rw [rounds_succ]
  go_wp2_with fail
  refine (T2.out _).mono ?_
  rintro e w3 ⟨rfl, rfl⟩
  go_wp2
  rw [rounds_succ]
  go_wp2
  exact bodyPost_ret (v := .tuple #[.agg #[.int .u64 s0, .int .u64 s1, .int .u64 s2], .int .u64 (h2 + c2)]) (by simp [results, Tryd.results21, go_sem]) rfl ⟨rfl, (by repeat' (first | with_reducible exact Below.refl _ _ | with_reducible refine Below.drew ?_ | with_reducible refine below_drewN ?_ _ | with_reducible refine Below.setCell ?_ ?_ _ | with_reducible refine Below.alloc ?_ ?_ _ | omega | (simp; done) | (simp; omega)))⟩

/-- What Scale answers: the product's lowest three words, and the one above. -/
def ScaleR (a0 a1 a2 k s0 s1 s2 t : Int) : Prop := Wd s0 ∧ Wd s1 ∧ Wd s2 ∧ Wd t ∧ val s0 s1 s2 + 6277101735386680763835789423207666416102355444464034512896 * t = val a0 a1 a2 * k

theorem scale_any (a0 a1 a2 k : Int) (ha0 : Wd a0) (ha1 : Wd a1) (ha2 : Wd a2) (hk : Wd k) (w : World) :
    Calls Tryd.prog 21 #[.agg #[.int .u64 a0, .int .u64 a1, .int .u64 a2], .int .u64 k] w fun e w' => ∃ s0 s1 s2 t, e = .returned (.tuple #[.agg #[.int .u64 s0, .int .u64 s1, .int .u64 s2], .int .u64 t]) ∧ ScaleR a0 a1 a2 k s0 s1 s2 t ∧ Below w.heap.size w w' := by
  obtain ⟨h0, l0, wh0, m0, wl0, e0, t0⟩ := times_any a0 k ha0 hk
  obtain ⟨h1, l1, wh1, m1, wl1, e1, t1⟩ := times_any a1 k ha1 hk
  obtain ⟨h2, l2, wh2, m2, wl2, e2, t2⟩ := times_any a2 k ha2 hk
  obtain ⟨s0, c0, ws0, wc0, f0, u0⟩ := add64 l0 0 0 wl0 ⟨by omega, by omega⟩ (Or.inl rfl)
  have wA0 : Wd (h0 + c0) := by obtain ⟨_, _⟩ := wh0; exact ⟨by omega, by omega⟩
  obtain ⟨s1, c1, ws1, wc1, f1, u1⟩ := add64 l1 (h0 + c0) 0 wl1 wA0 (Or.inl rfl)
  have wA1 : Wd (h1 + c1) := by obtain ⟨_, _⟩ := wh1; exact ⟨by omega, by omega⟩
  obtain ⟨s2, c2, ws2, wc2, f2, u2⟩ := add64 l2 (h1 + c1) 0 wl2 wA1 (Or.inl rfl)
  have wA2 : Wd (h2 + c2) := by obtain ⟨_, _⟩ := wh2; exact ⟨by omega, by omega⟩
  refine (scale_walk a0 a1 a2 k h0 l0 h1 l1 h2 l2 s0 c0 s1 c1 s2 c2 w t0 t1 t2 u0 u1 u2 wA0.1 wA0.2 wA1.1 wA1.2 wA2.1 wA2.2).mono fun e w' ⟨he, hb⟩ => ⟨s0, s1, s2, _, he, ⟨ws0, ws1, ws2, wA2, ?_⟩, hb⟩
  unfold val
  rw [Int.add_mul, Int.add_mul, Int.mul_assoc, Int.mul_assoc, ← e0, ← e1, ← e2]
  omega
end Go.Proofs.YtlgadaojekcjeaaDoor

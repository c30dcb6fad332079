/-
  What limbs' products and rests are in terms of the document's bits.
-/
import Derived.Test.YtlgadaojekcjeaaDoorScale
import Derived.Test.YtlgadaojekcjeaaDoorAddsP
import Derived.Test.YtlgadaojekcjeaaDoorBRest
namespace Go.Proofs.YtlgadaojekcjeaaDoor
open Go.RowKit

theorem four_wrd (s0 s1 s2 t : Int) (h0 : Wd s0) (h1 : Wd s1) (h2 : Wd s2) (h3 : Wd t) (V : Nat) (e : (V : Int) = val s0 s1 s2 + 6277101735386680763835789423207666416102355444464034512896 * t) : s0 = wrd V 0 ∧ s1 = wrd V 64 ∧ s2 = wrd V 128 ∧ t = wrd V 192 := by
  obtain ⟨_, _⟩ := h0; obtain ⟨_, _⟩ := h1; obtain ⟨_, _⟩ := h2; obtain ⟨_, _⟩ := h3
  unfold wrd
  unfold val at e
  simp only [Nat.reducePow, Nat.div_one]
  refine ⟨?_, ?_, ?_, ?_⟩ <;> omega

theorem scale_bits (a0 a1 a2 : Int) (k : Nat) (ha0 : Wd a0) (ha1 : Wd a1) (ha2 : Wd a2) (hk : Wd k) (w : World) :
    Calls Tryd.prog 21 #[.agg #[.int .u64 a0, .int .u64 a1, .int .u64 a2], .int .u64 k] w fun e w' => e = .returned (.tuple #[.agg #[.int .u64 (wrd (nat3 a0 a1 a2 * k) 0), .int .u64 (wrd (nat3 a0 a1 a2 * k) 64), .int .u64 (wrd (nat3 a0 a1 a2 * k) 128)], .int .u64 (wrd (nat3 a0 a1 a2 * k) 192)]) ∧ Below w.heap.size w w' := by
  refine (scale_any a0 a1 a2 k ha0 ha1 ha2 hk w).mono ?_
  rintro e w' ⟨s0, s1, s2, t, rfl, ⟨k0, k1, k2, k3, e⟩, hb⟩
  obtain ⟨e0, e1, e2, e3⟩ := four_wrd s0 s1 s2 t k0 k1 k2 k3 (nat3 a0 a1 a2 * k) (by rw [e, Int.natCast_mul, nat3_val ha0 ha1 ha2])
  rw [← e0, ← e1, ← e2, ← e3]
  exact ⟨rfl, hb⟩

theorem times_bits (a k : Nat) (ha : Wd a) (hk : Wd k) (w : World) :
    Calls Tryd.prog 22 #[.int .u64 a, .int .u64 k] w fun e w' => e = .returned (.tuple #[.int .u64 (wrd (a * k) 64), .int .u64 (wrd (a * k) 0)]) ∧ Below w.heap.size w w' := by
  obtain ⟨h, l, k0, _, k1, e, hC⟩ := times_any a k ha hk
  have e2 : ((a * k : Nat) : Int) = h * 18446744073709551616 + l := by rw [e, Int.natCast_mul]
  obtain ⟨_, _⟩ := k0
  obtain ⟨_, _⟩ := k1
  have e3 : h = wrd (a * k) 64 := by
    unfold wrd
    simp only [Nat.reducePow]
    omega
  have e4 : l = wrd (a * k) 0 := by
    unfold wrd
    simp only [Nat.reducePow, Nat.div_one]
    omega
  rw [← e3, ← e4]
  exact (hC w).mono fun _ _ ⟨he, hw⟩ => ⟨he, by rw [hw]; exact Below.refl _ _⟩

set_option maxHeartbeats 1000000 in
set_option maxRecDepth 100000 in
theorem lrest_zero (a0 a1 a2 : Int) (w : World) : Calls Tryd.prog 24 #[.agg #[.int .u64 a0, .int .u64 a1, .int .u64 a2], .int .u64 0] w fun e w' => e = .returned (.int .u64 0) ∧ Below w.heap.size w w' := by
  go_enter Tryd.func24, Tryd.ntmps24
  go_wp2
  go_ret
  exact ⟨rfl, (by repeat' (first | with_reducible exact Below.refl _ _ | with_reducible refine Below.drew ?_ | with_reducible refine below_drewN ?_ _ | with_reducible refine Below.setCell ?_ ?_ _ | with_reducible refine Below.alloc ?_ ?_ _ | omega | (simp; done) | (simp; omega)))⟩
set_option maxHeartbeats 1000000 in
set_option maxRecDepth 100000 in
theorem lrest_walk (a0 a1 a2 m : Int) (ha0 : Wd a0) (ha1 : Wd a1) (ha2 : Wd a2) (hm : Wd m) (hm0 : 0 < m) (w : World) :
    Calls Tryd.prog 24 #[.agg #[.int .u64 a0, .int .u64 a1, .int .u64 a2], .int .u64 m] w fun e w' => e = .returned (.int .u64 (val a0 a1 a2 % m)) ∧ Below w.heap.size w w' := by
  have hmb : (m == 0) = false := by simp; omega
  go_enter Tryd.func24, Tryd.ntmps24
  go_wp2_with fail
  refine (divide_any a0 a1 a2 m ha0 ha1 ha2 hm hm0 _).mono ?_
  rintro e w1 ⟨q0, q1, q2, r, rfl, ⟨_, _, _, r0, r1, e⟩, hb1⟩
  have hr : r = val a0 a1 a2 % m := by
    rw [e, Int.mul_comm, Int.add_comm, Int.add_mul_emod_self_left, Int.emod_eq_of_lt r0 r1]
  clear e
  subst hr
  have hz1 : w.heap.size + 1 ≤ w1.heap.size := by simpa using hb1.size
  go_wp2
  go_ret
  exact ⟨rfl, (by repeat' (first | with_reducible exact Below.refl _ _ | with_reducible refine Below.drew ?_ | with_reducible refine below_drewN ?_ _ | with_reducible refine Below.setCell ?_ ?_ _ | with_reducible refine Below.alloc ?_ ?_ _ | with_reducible refine Below.trans ?_ (hb1.mono ?_) | omega | (simp; done) | (simp; omega)))⟩
/-- limbs.Rest. -/
theorem lrest_bits (a0 a1 a2 : Int) (m : Nat) (ha0 : Wd a0) (ha1 : Wd a1) (ha2 : Wd a2) (hm : Wd m) (w : World) :
    Calls Tryd.prog 24 #[.agg #[.int .u64 a0, .int .u64 a1, .int .u64 a2], .int .u64 m] w fun e w' => e = .returned (.int .u64 (if m = 0 then 0 else ((nat3 a0 a1 a2 % m : Nat) : Int))) ∧ Below w.heap.size w w' := by
  by_cases h : m = 0
  · subst h
    exact lrest_zero a0 a1 a2 w
  · have := lrest_walk a0 a1 a2 m ha0 ha1 ha2 hm (by omega) w
    rw [if_neg h, Int.natCast_emod, nat3_val ha0 ha1 ha2]
    exact this

set_option maxHeartbeats 1000000 in
set_option maxRecDepth 100000 in
theorem rrest_zero (f : Nat → Bool) (w : World) : Calls Tryd.prog 25 #[.agg (bv f), .int .u64 0] w fun e w' => e = .returned (.int .u64 0) ∧ Below w.heap.size w w' := by
  go_enter Tryd.func25, Tryd.ntmps25
  go_wp2
  go_ret
  exact ⟨rfl, (by repeat' (first | with_reducible exact Below.refl _ _ | with_reducible refine Below.drew ?_ | with_reducible refine below_drewN ?_ _ | with_reducible refine Below.setCell ?_ ?_ _ | with_reducible refine Below.alloc ?_ ?_ _ | omega | (simp; done) | (simp; omega)))⟩
/-- The document's Rest. -/
theorem rrest_bits (V m : Nat) (hV : V < 2 ^ 256) (hm : Wd m) (w : World) :
    Calls Tryd.prog 25 #[.agg (bv V.testBit), .int .u64 m] w fun e w' => e = .returned (.int .u64 (if m = 0 then 0 else ((V % m : Nat) : Int))) ∧ Below w.heap.size w w' := by
  by_cases h : m = 0
  · subst h
    exact rrest_zero _ w
  · rw [if_neg h]
    exact rrest_walk V m m _ hV rfl rfl (by omega) hm.2 w
end Go.Proofs.YtlgadaojekcjeaaDoor

/-
  The contract of limbs.divide: three words divided by one that isn't 0.
-/
import Derived.Test.YtlgadaojekcjeaaDoorDiv2
namespace Go.Proofs.YtlgadaojekcjeaaDoor
open Go.RowKit

set_option maxHeartbeats 2000000 in
theorem divide_walk (a0 a1 a2 m q2 r2 q1 r1 q0 r0 : Int)
    (d2 : ∀ w, Calls Tryd.prog 42 #[.int .u64 0, .int .u64 a2, .int .u64 m] w fun e w' => e = .returned (.tuple #[.int .u64 q2, .int .u64 r2]) ∧ ∃ n, w' = w.drewN n)
    (d1 : ∀ w, Calls Tryd.prog 42 #[.int .u64 r2, .int .u64 a1, .int .u64 m] w fun e w' => e = .returned (.tuple #[.int .u64 q1, .int .u64 r1]) ∧ ∃ n, w' = w.drewN n)
    (d0 : ∀ w, Calls Tryd.prog 42 #[.int .u64 r1, .int .u64 a0, .int .u64 m] w fun e w' => e = .returned (.tuple #[.int .u64 q0, .int .u64 r0]) ∧ ∃ n, w' = w.drewN n) (w : World) :
    Calls Tryd.prog 38 #[.agg #[.int .u64 a0, .int .u64 a1, .int .u64 a2], .int .u64 m] w fun e w' => e = .returned (.tuple #[.agg #[.int .u64 q0, .int .u64 q1, .int .u64 q2], .int .u64 r0]) ∧ Below w.heap.size w w' := by
  have D2 : Hid (∀ w, Calls Tryd.prog 42 #[.int .u64 0, .int .u64 a2, .int .u64 m] w fun e w' => e = .returned (.tuple #[.int .u64 q2, .int .u64 r2]) ∧ ∃ n, w' = w.drewN n) := d2
  have D1 : Hid (∀ w, Calls Tryd.prog 42 #[.int .u64 r2, .int .u64 a1, .int .u64 m] w fun e w' => e = .returned (.tuple #[.int .u64 q1, .int .u64 r1]) ∧ ∃ n, w' = w.drewN n) := d1
  have D0 : Hid (∀ w, Calls Tryd.prog 42 #[.int .u64 r1, .int .u64 a0, .int .u64 m] w fun e w' => e = .returned (.tuple #[.int .u64 q0, .int .u64 r0]) ∧ ∃ n, w' = w.drewN n) := d0
  clear d2 d1 d0
  go_enter Tryd.func38, Tryd.ntmps38
  go_wp2_with fail
  refine wp_loop_rounds 4 ?_
  rw [rounds_succ]
  go_wp2_with fail
  refine (D2.out _).mono ?_
  rintro e w2 ⟨rfl, n2, rfl⟩
  go_wp2_with fail
  rw [rounds_succ]
  go_wp2_with fail
  refine (D1.out _).mono ?_
  rintro e w1 ⟨rfl, n1, rfl⟩
  go_wp2_with fail
  rw [rounds_succ]
  go_wp2_with fail
  refine (D0.out _).mono ?_
  rintro e w0 ⟨rfl, n0, rfl⟩
  go_wp2_with fail
  rw [rounds_succ]
  go_wp2_with fail
  exact bodyPost_ret (v := .tuple #[.agg #[.int .u64 q0, .int .u64 q1, .int .u64 q2], .int .u64 r0]) (by simp [results, Tryd.results38, go_sem]) rfl ⟨rfl, (by repeat' (first | with_reducible exact Below.refl _ _ | with_reducible refine Below.drew ?_ | with_reducible refine below_drewN ?_ _ | with_reducible refine Below.setCell ?_ ?_ _ | with_reducible refine Below.alloc ?_ ?_ _ | omega | (simp; done) | (simp; omega)))⟩

/-- What divide answers. -/
def DivR (a0 a1 a2 m q0 q1 q2 r : Int) : Prop := Wd q0 ∧ Wd q1 ∧ Wd q2 ∧ 0 ≤ r ∧ r < m ∧ val a0 a1 a2 = val q0 q1 q2 * m + r

theorem step_le (r a m : Int) (hr : r < m) (hr0 : 0 ≤ r) (hm : 0 < m) (ha : Wd a) : Wd ((r * 18446744073709551616 + a) / m) ∧ 0 ≤ (r * 18446744073709551616 + a) % m ∧ (r * 18446744073709551616 + a) % m < m ∧ r * 18446744073709551616 + a = (r * 18446744073709551616 + a) / m * m + (r * 18446744073709551616 + a) % m := by
  obtain ⟨a0, a1⟩ := ha
  refine ⟨⟨Int.ediv_nonneg (by omega) (by omega), ?_⟩, Int.emod_nonneg _ (by omega), Int.emod_lt_of_pos _ hm, (Int.ediv_mul_add_emod _ _).symm⟩
  exact Int.ediv_lt_of_lt_mul hm (by omega)

theorem divide_any (a0 a1 a2 m : Int) (ha0 : Wd a0) (ha1 : Wd a1) (ha2 : Wd a2) (hm : Wd m) (hm0 : 0 < m) (w : World) :
    Calls Tryd.prog 38 #[.agg #[.int .u64 a0, .int .u64 a1, .int .u64 a2], .int .u64 m] w fun e w' => ∃ q0 q1 q2 r, e = .returned (.tuple #[.agg #[.int .u64 q0, .int .u64 q1, .int .u64 q2], .int .u64 r]) ∧ DivR a0 a1 a2 m q0 q1 q2 r ∧ Below w.heap.size w w' := by
  obtain ⟨x1, x2, x3, x4⟩ := step_le 0 a2 m hm0 (by omega) hm0 ha2
  have d2 := fun w => div_any 0 a2 m hm0 hm.2 hm0 (by omega) ha2.1 ha2.2 w
  generalize (0 * 18446744073709551616 + a2) / m = q2 at *
  generalize (0 * 18446744073709551616 + a2) % m = r2 at *
  obtain ⟨y1, y2, y3, y4⟩ := step_le r2 a1 m x3 x2 hm0 ha1
  have d1 := fun w => div_any r2 a1 m hm0 hm.2 x3 x2 ha1.1 ha1.2 w
  generalize (r2 * 18446744073709551616 + a1) / m = q1 at *
  generalize (r2 * 18446744073709551616 + a1) % m = r1 at *
  obtain ⟨z1, z2, z3, z4⟩ := step_le r1 a0 m y3 y2 hm0 ha0
  have d0 := fun w => div_any r1 a0 m hm0 hm.2 y3 y2 ha0.1 ha0.2 w
  generalize (r1 * 18446744073709551616 + a0) / m = q0 at *
  generalize (r1 * 18446744073709551616 + a0) % m = r0 at *
  refine (divide_walk a0 a1 a2 m q2 r2 q1 r1 q0 r0 d2 d1 d0 w).mono fun e w' ⟨he, hb⟩ => ⟨q0, q1, q2, r0, he, ⟨z1, y1, x1, z2, z3, ?_⟩, hb⟩
  unfold val
  rw [Int.add_mul, Int.add_mul, Int.mul_assoc, Int.mul_assoc]
  omega
end Go.Proofs.YtlgadaojekcjeaaDoor

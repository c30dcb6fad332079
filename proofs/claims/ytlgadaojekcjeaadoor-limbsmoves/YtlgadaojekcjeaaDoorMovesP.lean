/-
  limbs.split, Left and Right.
-/
import Derived.Test.YtlgadaojekcjeaaDoorAddsP
namespace Go.Proofs.YtlgadaojekcjeaaDoor
open Go.RowKit
/-- By how much. -/
def clip (n : Int) : Nat := if n < 0 then 0 else if 192 < n then 192 else n.toNat
theorem clip_le (n : Int) : clip n ≤ 192 := by unfold clip; split <;> (try split) <;> omega

set_option maxHeartbeats 1000000 in
set_option maxRecDepth 100000 in
theorem split_walk (n : Int) (c : Nat) (h : (n < 0 ∧ c = 0) ∨ (192 < n ∧ c = 192) ∨ (0 ≤ n ∧ n ≤ 192 ∧ n = c)) (w : World) : Calls Tryd.prog 39 #[.int .i64 n] w fun e w' => e = .returned (.tuple #[.int .i64 (c / 64 : Nat), .int .u64 (c % 64 : Nat)]) ∧ w' = w := by
  rcases h with ⟨h, rfl⟩ | ⟨h, rfl⟩ | ⟨h, h', rfl⟩
  · go_enter Tryd.func39, Tryd.ntmps39
    go_wp2
    go_ret2
    exact ⟨rfl, rfl⟩
  · have h' : ¬ n < 0 := by omega
    go_enter Tryd.func39, Tryd.ntmps39
    go_wp2
    go_ret2
    exact ⟨rfl, rfl⟩
  · have h' : ¬ (c : Int) < 0 := by omega
    have h'' : ¬ 192 < (c : Int) := by omega
    go_enter Tryd.func39, Tryd.ntmps39
    go_wp2
    go_ret2
    exact ⟨rfl, rfl⟩


set_option maxHeartbeats 4000000 in
set_option maxRecDepth 100000 in
theorem left0 (a0 a1 a2 n p : Int) (p0 : 0 ≤ p) (p1 : p < 64) (HS : Hid (∀ w, Calls Tryd.prog 39 #[.int .i64 n] w fun e w' => e = .returned (.tuple #[.int .i64 0, .int .u64 p]) ∧ w' = w)) (w : World) :
    Calls Tryd.prog 26 #[.agg #[.int .u64 a0, .int .u64 a1, .int .u64 a2], .int .i64 n] w fun e w' => e = .returned (.agg #[.int .u64 (IntKind.u64.wrap (a0 * 2 ^ p.toNat)), .int .u64 (bits .or .u64 (IntKind.u64.wrap (a1 * 2 ^ p.toNat)) (a0 / 2 ^ (64 - p).toNat)), .int .u64 (bits .or .u64 (IntKind.u64.wrap (a2 * 2 ^ p.toNat)) (a1 / 2 ^ (64 - p).toNat))]) ∧ Below w.heap.size w w' := by
  go_enter Tryd.func26, Tryd.ntmps26
  go_wp2_with fail
  refine (HS.out _).mono ?_
  rintro e w1 ⟨rfl, rfl⟩
  go_wp2_with fail
  refine wp_loop_rounds 4 ?_
  rw [rounds_succ]
  go_wp2
  rw [rounds_succ]
  go_wp2
  go_region
  go_wp2
  rw [rounds_succ]
  go_wp2
  go_region
  go_wp2
  rw [rounds_succ]
  go_wp2
  exact bodyPost_ret (v := .agg #[.int .u64 (IntKind.u64.wrap (a0 * 2 ^ p.toNat)), .int .u64 (bits .or .u64 (IntKind.u64.wrap (a1 * 2 ^ p.toNat)) (a0 / 2 ^ (64 - p).toNat)), .int .u64 (bits .or .u64 (IntKind.u64.wrap (a2 * 2 ^ p.toNat)) (a1 / 2 ^ (64 - p).toNat))]) (by simp [results, Tryd.results26, go_sem]) rfl ⟨rfl, (by repeat' (first | with_reducible exact Below.refl _ _ | with_reducible refine Below.drew ?_ | with_reducible refine below_drewN ?_ _ | with_reducible refine Below.setCell ?_ ?_ _ | with_reducible refine Below.alloc ?_ ?_ _ | omega | (simp; done) | (simp; omega)))⟩

set_option maxHeartbeats 4000000 in
set_option maxRecDepth 100000 in
theorem left1 (a0 a1 a2 n p : Int) (p0 : 0 ≤ p) (p1 : p < 64) (HS : Hid (∀ w, Calls Tryd.prog 39 #[.int .i64 n] w fun e w' => e = .returned (.tuple #[.int .i64 1, .int .u64 p]) ∧ w' = w)) (w : World) :
    Calls Tryd.prog 26 #[.agg #[.int .u64 a0, .int .u64 a1, .int .u64 a2], .int .i64 n] w fun e w' => e = .returned (.agg #[.int .u64 0, .int .u64 (IntKind.u64.wrap (a0 * 2 ^ p.toNat)), .int .u64 (bits .or .u64 (IntKind.u64.wrap (a1 * 2 ^ p.toNat)) (a0 / 2 ^ (64 - p).toNat))]) ∧ Below w.heap.size w w' := by
  go_enter Tryd.func26, Tryd.ntmps26
  go_wp2_with fail
  refine (HS.out _).mono ?_
  rintro e w1 ⟨rfl, rfl⟩
  go_wp2_with fail
  refine wp_loop_rounds 3 ?_
  rw [rounds_succ]
  go_wp2
  rw [rounds_succ]
  go_wp2
  go_region
  go_wp2
  rw [rounds_succ]
  go_wp2
  exact bodyPost_ret (v := .agg #[.int .u64 0, .int .u64 (IntKind.u64.wrap (a0 * 2 ^ p.toNat)), .int .u64 (bits .or .u64 (IntKind.u64.wrap (a1 * 2 ^ p.toNat)) (a0 / 2 ^ (64 - p).toNat))]) (by simp [results, Tryd.results26, go_sem]) rfl ⟨rfl, (by repeat' (first | with_reducible exact Below.refl _ _ | with_reducible refine Below.drew ?_ | with_reducible refine below_drewN ?_ _ | with_reducible refine Below.setCell ?_ ?_ _ | with_reducible refine Below.alloc ?_ ?_ _ | omega | (simp; done) | (simp; omega)))⟩

set_option maxHeartbeats 4000000 in
set_option maxRecDepth 100000 in
theorem left2 (a0 a1 a2 n p : Int) (p0 : 0 ≤ p) (p1 : p < 64) (HS : Hid (∀ w, Calls Tryd.prog 39 #[.int .i64 n] w fun e w' => e = .returned (.tuple #[.int .i64 2, .int .u64 p]) ∧ w' = w)) (w : World) :
    Calls Tryd.prog 26 #[.agg #[.int .u64 a0, .int .u64 a1, .int .u64 a2], .int .i64 n] w fun e w' => e = .returned (.agg #[.int .u64 0, .int .u64 0, .int .u64 (IntKind.u64.wrap (a0 * 2 ^ p.toNat))]) ∧ Below w.heap.size w w' := by
  go_enter Tryd.func26, Tryd.ntmps26
  go_wp2_with fail
  refine (HS.out _).mono ?_
  rintro e w1 ⟨rfl, rfl⟩
  go_wp2_with fail
  refine wp_loop_rounds 2 ?_
  rw [rounds_succ]
  go_wp2
  rw [rounds_succ]
  go_wp2
  exact bodyPost_ret (v := .agg #[.int .u64 0, .int .u64 0, .int .u64 (IntKind.u64.wrap (a0 * 2 ^ p.toNat))]) (by simp [results, Tryd.results26, go_sem]) rfl ⟨rfl, (by repeat' (first | with_reducible exact Below.refl _ _ | with_reducible refine Below.drew ?_ | with_reducible refine below_drewN ?_ _ | with_reducible refine Below.setCell ?_ ?_ _ | with_reducible refine Below.alloc ?_ ?_ _ | omega | (simp; done) | (simp; omega)))⟩

set_option maxHeartbeats 4000000 in
set_option maxRecDepth 100000 in
theorem left3 (a0 a1 a2 n p : Int) (_p0 : 0 ≤ p) (_p1 : p < 64) (HS : Hid (∀ w, Calls Tryd.prog 39 #[.int .i64 n] w fun e w' => e = .returned (.tuple #[.int .i64 3, .int .u64 p]) ∧ w' = w)) (w : World) :
    Calls Tryd.prog 26 #[.agg #[.int .u64 a0, .int .u64 a1, .int .u64 a2], .int .i64 n] w fun e w' => e = .returned (.agg #[.int .u64 0, .int .u64 0, .int .u64 0]) ∧ Below w.heap.size w w' := by
  go_enter Tryd.func26, Tryd.ntmps26
  go_wp2_with fail
  refine (HS.out _).mono ?_
  rintro e w1 ⟨rfl, rfl⟩
  go_wp2_with fail
  refine wp_loop_rounds 1 ?_
  rw [rounds_succ]
  go_wp2
  exact bodyPost_ret (v := .agg #[.int .u64 0, .int .u64 0, .int .u64 0]) (by simp [results, Tryd.results26, go_sem]) rfl ⟨rfl, (by repeat' (first | with_reducible exact Below.refl _ _ | with_reducible refine Below.drew ?_ | with_reducible refine below_drewN ?_ _ | with_reducible refine Below.setCell ?_ ?_ _ | with_reducible refine Below.alloc ?_ ?_ _ | omega | (simp; done) | (simp; omega)))⟩

set_option maxHeartbeats 4000000 in
set_option maxRecDepth 100000 in
theorem right0 (a0 a1 a2 n p : Int) (p0 : 0 ≤ p) (p1 : p < 64) (HS : Hid (∀ w, Calls Tryd.prog 39 #[.int .i64 n] w fun e w' => e = .returned (.tuple #[.int .i64 0, .int .u64 p]) ∧ w' = w)) (w : World) :
    Calls Tryd.prog 27 #[.agg #[.int .u64 a0, .int .u64 a1, .int .u64 a2], .int .i64 n] w fun e w' => e = .returned (.agg #[.int .u64 (bits .or .u64 (a0 / 2 ^ p.toNat) (IntKind.u64.wrap (a1 * 2 ^ (64 - p).toNat))), .int .u64 (bits .or .u64 (a1 / 2 ^ p.toNat) (IntKind.u64.wrap (a2 * 2 ^ (64 - p).toNat))), .int .u64 (a2 / 2 ^ p.toNat)]) ∧ Below w.heap.size w w' := by
  go_enter Tryd.func27, Tryd.ntmps27
  go_wp2_with fail
  refine (HS.out _).mono ?_
  rintro e w1 ⟨rfl, rfl⟩
  go_wp2_with fail
  refine wp_loop_rounds 4 ?_
  rw [rounds_succ]
  go_wp2
  go_region
  go_wp2
  rw [rounds_succ]
  go_wp2
  go_region
  go_wp2
  rw [rounds_succ]
  go_wp2
  rw [rounds_succ]
  go_wp2
  exact bodyPost_ret (v := .agg #[.int .u64 (bits .or .u64 (a0 / 2 ^ p.toNat) (IntKind.u64.wrap (a1 * 2 ^ (64 - p).toNat))), .int .u64 (bits .or .u64 (a1 / 2 ^ p.toNat) (IntKind.u64.wrap (a2 * 2 ^ (64 - p).toNat))), .int .u64 (a2 / 2 ^ p.toNat)]) (by simp [results, Tryd.results27, go_sem]) rfl ⟨rfl, (by repeat' (first | with_reducible exact Below.refl _ _ | with_reducible refine Below.drew ?_ | with_reducible refine below_drewN ?_ _ | with_reducible refine Below.setCell ?_ ?_ _ | with_reducible refine Below.alloc ?_ ?_ _ | omega | (simp; done) | (simp; omega)))⟩

set_option maxHeartbeats 4000000 in
set_option maxRecDepth 100000 in
theorem right1 (a0 a1 a2 n p : Int) (p0 : 0 ≤ p) (p1 : p < 64) (HS : Hid (∀ w, Calls Tryd.prog 39 #[.int .i64 n] w fun e w' => e = .returned (.tuple #[.int .i64 1, .int .u64 p]) ∧ w' = w)) (w : World) :
    Calls Tryd.prog 27 #[.agg #[.int .u64 a0, .int .u64 a1, .int .u64 a2], .int .i64 n] w fun e w' => e = .returned (.agg #[.int .u64 (bits .or .u64 (a1 / 2 ^ p.toNat) (IntKind.u64.wrap (a2 * 2 ^ (64 - p).toNat))), .int .u64 (a2 / 2 ^ p.toNat), .int .u64 0]) ∧ Below w.heap.size w w' := by
  go_enter Tryd.func27, Tryd.ntmps27
  go_wp2_with fail
  refine (HS.out _).mono ?_
  rintro e w1 ⟨rfl, rfl⟩
  go_wp2_with fail
  refine wp_loop_rounds 3 ?_
  rw [rounds_succ]
  go_wp2
  go_region
  go_wp2
  rw [rounds_succ]
  go_wp2
  rw [rounds_succ]
  go_wp2
  exact bodyPost_ret (v := .agg #[.int .u64 (bits .or .u64 (a1 / 2 ^ p.toNat) (IntKind.u64.wrap (a2 * 2 ^ (64 - p).toNat))), .int .u64 (a2 / 2 ^ p.toNat), .int .u64 0]) (by simp [results, Tryd.results27, go_sem]) rfl ⟨rfl, (by repeat' (first | with_reducible exact Below.refl _ _ | with_reducible refine Below.drew ?_ | with_reducible refine below_drewN ?_ _ | with_reducible refine Below.setCell ?_ ?_ _ | with_reducible refine Below.alloc ?_ ?_ _ | omega | (simp; done) | (simp; omega)))⟩

set_option maxHeartbeats 4000000 in
set_option maxRecDepth 100000 in
theorem right2 (a0 a1 a2 n p : Int) (p0 : 0 ≤ p) (p1 : p < 64) (HS : Hid (∀ w, Calls Tryd.prog 39 #[.int .i64 n] w fun e w' => e = .returned (.tuple #[.int .i64 2, .int .u64 p]) ∧ w' = w)) (w : World) :
    Calls Tryd.prog 27 #[.agg #[.int .u64 a0, .int .u64 a1, .int .u64 a2], .int .i64 n] w fun e w' => e = .returned (.agg #[.int .u64 (a2 / 2 ^ p.toNat), .int .u64 0, .int .u64 0]) ∧ Below w.heap.size w w' := by
  go_enter Tryd.func27, Tryd.ntmps27
  go_wp2_with fail
  refine (HS.out _).mono ?_
  rintro e w1 ⟨rfl, rfl⟩
  go_wp2_with fail
  refine wp_loop_rounds 2 ?_
  rw [rounds_succ]
  go_wp2
  rw [rounds_succ]
  go_wp2
  exact bodyPost_ret (v := .agg #[.int .u64 (a2 / 2 ^ p.toNat), .int .u64 0, .int .u64 0]) (by simp [results, Tryd.results27, go_sem]) rfl ⟨rfl, (by repeat' (first | with_reducible exact Below.refl _ _ | with_reducible refine Below.drew ?_ | with_reducible refine below_drewN ?_ _ | with_reducible refine Below.setCell ?_ ?_ _ | with_reducible refine Below.alloc ?_ ?_ _ | omega | (simp; done) | (simp; omega)))⟩

set_option maxHeartbeats 4000000 in
set_option maxRecDepth 100000 in
theorem right3 (a0 a1 a2 n p : Int) (_p0 : 0 ≤ p) (_p1 : p < 64) (HS : Hid (∀ w, Calls Tryd.prog 39 #[.int .i64 n] w fun e w' => e = .returned (.tuple #[.int .i64 3, .int .u64 p]) ∧ w' = w)) (w : World) :
    Calls Tryd.prog 27 #[.agg #[.int .u64 a0, .int .u64 a1, .int .u64 a2], .int .i64 n] w fun e w' => e = .returned (.agg #[.int .u64 0, .int .u64 0, .int .u64 0]) ∧ Below w.heap.size w w' := by
  go_enter Tryd.func27, Tryd.ntmps27
  go_wp2_with fail
  refine (HS.out _).mono ?_
  rintro e w1 ⟨rfl, rfl⟩
  go_wp2_with fail
  refine wp_loop_rounds 1 ?_
  rw [rounds_succ]
  go_wp2
  exact bodyPost_ret (v := .agg #[.int .u64 0, .int .u64 0, .int .u64 0]) (by simp [results, Tryd.results27, go_sem]) rfl ⟨rfl, (by repeat' (first | with_reducible exact Below.refl _ _ | with_reducible refine Below.drew ?_ | with_reducible refine below_drewN ?_ _ | with_reducible refine Below.setCell ?_ ?_ _ | with_reducible refine Below.alloc ?_ ?_ _ | omega | (simp; done) | (simp; omega)))⟩

end Go.Proofs.YtlgadaojekcjeaaDoor

/-
  The document's Product.
-/
import Derived.Test.YtlgadaojekcjeaaDoorBMove
import Derived.Test.YtlgadaojekcjeaaDoorBPow
import Derived.Test.YtlgadaojekcjeaaDoorRegB
namespace Go.Proofs.YtlgadaojekcjeaaDoor
open Go.RowKit

theorem movedF_up (V i : Nat) (_hi : i ≤ 63) : bv (movedF V.testBit i (256 : Nat)) = bv (V * 2 ^ i).testBit := by
  refine bv_congr fun j hj => ?_
  rw [← Nat.shiftLeft_eq, Nat.testBit_shiftLeft]
  unfold movedF
  by_cases h : i ≤ j
  · rw [if_pos (by omega), show ((j : Int) - (i : Int)).toNat = j - i by omega]
    simp [h]
  · rw [if_neg (by omega)]
    simp [h]
theorem moved_up (V i : Nat) (hi : i ≤ 63) (w : World) : Calls Tryd.prog 28 #[.agg (bv V.testBit), .int .i64 i, .int .i64 256] w fun e w' => e = .returned (.agg (bv (V * 2 ^ i).testBit)) ∧ Below w.heap.size w w' := by
  rw [← movedF_up V i hi]
  exact moved_any V.testBit i 256 (by omega) (by omega) (by omega) w
theorem mul_step (V k i : Nat) : V * (k % 2 ^ (i + 1)) = V * (k % 2 ^ i) + (if k / 2 ^ i % 2 = 1 then V * 2 ^ i else 0) := by
  rw [Nat.mod_pow_succ]
  rcases Nat.mod_two_eq_zero_or_one (k / 2 ^ i) with h | h
  · simp [h]
  · simp [h, Nat.mul_add]

set_option maxHeartbeats 1000000 in
set_option maxRecDepth 100000 in
theorem product_any (V k : Nat) (hk : k < 2 ^ 64) (w : World) : Calls Tryd.prog 20 #[.agg (bv V.testBit), .int .u64 k] w fun e w' => e = .returned (.agg (bv (V * k).testBit)) ∧ Below w.heap.size w w' := by
  have HK : Hid (k < 2 ^ 64) := hk
  obtain ⟨z, hz⟩ : ∃ z : Int, z = k := ⟨_, rfl⟩
  rw [← hz]
  have HZ : Hid (z = k) := hz
  have z0 : 0 ≤ z := by omega
  have z1 : z < 18446744073709551616 := by rw [hz]; have : k < 18446744073709551616 := hk; omega
  clear hz hk
  obtain ⟨R, hR⟩ : ∃ R, R = V * k := ⟨_, rfl⟩
  rw [← hR]
  have HR : Hid (R = V * k) := hR
  clear hR
  go_enter Tryd.func20, Tryd.ntmps20
  go_wp2_with fail
  rw [zero_bv]
  go_loopg [6] 64 (fun g i wr => ∃ j U : Nat, j ≤ 64 ∧ g = 64 - j ∧ i = .int .i64 j ∧ Blk wr w.heap.size V.testBit ∧ Blk wr (w.heap.size + 1) (fun _ => false) ∧ Blk wr (w.heap.size + 1 + 1) U.testBit ∧ Below w.heap.size w wr ∧ Hid (U = V * (k % 2 ^ j)))
  case atStart =>
    refine ⟨0, 0, by omega, rfl, rfl, ((Blk.new w _).old _).old _, ?_, ?_, ?_, ?_⟩
    · have := (Blk.new (w.alloc (.cells (bv V.testBit) 27)) (fun _ => false)).old (.cells (bv fun _ => false) 27)
      simpa using this
    · have := Blk.new ((w.alloc (.cells (bv V.testBit) 27)).alloc (.cells (bv fun _ => false) 27)) (fun _ => false)
      have h0 : (fun _ => false) = Nat.testBit 0 := by funext i; simp
      rw [← h0]
      simpa using this
    · exact (((Below.refl _ _).alloc (Nat.le_refl _) _).alloc (by simp) _).alloc (by simp; omega) _
    · show 0 = V * (k % 2 ^ 0)
      simp [Nat.mod_one]
  case round =>
    obtain ⟨j, U, hj, rfl, rfl, hA, hR, hO, hW, HU⟩ := hrel
    by_cases hlt : j < 64
    · have hlti : (j : Int) < 64 := by omega
      have hpow := fun w => power_any j (by omega) w
      obtain ⟨P, hP⟩ : ∃ P : Int, P = 2 ^ j := ⟨_, rfl⟩
      have hP0 : 0 < P := by rw [hP]; exact Int.pow_pos (by omega)
      rw [← hP] at hpow
      have HP : Hid (∀ w, Calls Tryd.prog 36 #[.int .i64 j] w fun e w' => e = .returned (.int .u64 P) ∧ w' = w) := hpow
      obtain ⟨q, hq⟩ : ∃ q : Nat, q = k / 2 ^ j := ⟨_, rfl⟩
      have hd : z / P = q := by rw [HZ.out, hP, hq]; simp
      have hdt : z.tdiv P = q := by rw [Int.tdiv_eq_ediv_of_nonneg z0]; exact hd
      have hq1 : (q : Int) < 18446744073709551616 := by rw [← hd]; exact Int.lt_of_le_of_lt (Int.ediv_le_self _ z0) z1
      have hPn : ¬ P = 0 := by omega
      have hPb : (P == 0) = false := by simp [hPn]
      have hwq : IntKind.u64.wrap (q : Int) = q := by rw [IntKind.wrap_u64]; omega
      have HQ : Hid (q = k / 2 ^ j) := hq
      clear hpow hP hq
      go_wp2_with fail
      refine (HP.out _).mono ?_
      rintro e w1 ⟨rfl, rfl⟩
      rcases Nat.mod_two_eq_zero_or_one q with h2 | h2
      · have hq2 : (q : Int) % 2 = 0 := by omega
        have hq2t : (q : Int).tmod 2 = 0 := by rw [Int.tmod_eq_emod_of_nonneg (by omega)]; exact hq2
        have HU' : Hid (U = V * (k % 2 ^ (j + 1))) := by
          show U = _
          rw [mul_step, ← HQ.out, h2, HU.out]; simp
        go_wp2
        go_roundg (64 - (j + 1))
        case measure => omega
        case rel => exact ⟨j + 1, U, by omega, rfl, by go_num, hA, hR, hO, hW, HU'⟩
      · have hq2 : (q : Int) % 2 = 1 := by omega
        have hq2t : (q : Int).tmod 2 = 1 := by rw [Int.tmod_eq_emod_of_nonneg (by omega)]; exact hq2
        have HU' : Hid (U + V * 2 ^ j = V * (k % 2 ^ (j + 1))) := by
          show U + V * 2 ^ j = _
          rw [mul_step, ← HQ.out, h2, HU.out]; simp
        go_wp2_with fail
        refine wp_region_tail 5 (by kernel_rfl) (by kernel_rfl) ?_
        simp only [List.take_succ_cons, List.take_zero, List.drop_succ_cons, List.drop_zero]
        refine wpQuiet_bits _ rfl rfl rfl (blk_regrown hO) ?_
        simp only [Act.put, List.setIfInBounds_toArray, List.set_cons_zero, List.set_cons_succ]
        refine wpQuiet_bits _ rfl rfl rfl (blk_regrown hA) ?_
        simp only [Act.put, List.setIfInBounds_toArray, List.set_cons_zero, List.set_cons_succ]
        go_big_quiet_step (fail)
        go_big_quiet_step ((exact Calls.regrown_of (moved_up V j (by omega) _)))
        go_big_quiet_step ((exact Calls.regrown_of (sum_any U (V * 2 ^ j) _)))
        refine wpQuiet_nil ?_
        rintro _ ⟨⟨d, os⟩, rfl⟩
        have hb := below_regrown w1 d os
        generalize Sort.grow (redrawn w1 d) os = w2 at hb ⊢
        have hA2 := hA.below hb hA.lt
        have hR2 := hR.below hb hR.lt
        have hO2 := hO.below hb hO.lt
        have hW2 : Below w.heap.size w w2 := hW.trans (hb.mono hW.size)
        have hA3 : Blk (w2.setRow (w.heap.size + 1 + 1) (bv (U + V * 2 ^ j).testBit)) w.heap.size V.testBit := (setRow_other w2 _ _ _ (by omega)).trans hA2
        have hR3 : Blk (w2.setRow (w.heap.size + 1 + 1) (bv (U + V * 2 ^ j).testBit)) (w.heap.size + 1) (fun _ => false) := (setRow_other w2 _ _ _ (by omega)).trans hR2
        have hO3 : Blk (w2.setRow (w.heap.size + 1 + 1) (bv (U + V * 2 ^ j).testBit)) (w.heap.size + 1 + 1) (U + V * 2 ^ j).testBit := hO2.row
        have hW3 : Below w.heap.size w (w2.setRow (w.heap.size + 1 + 1) (bv (U + V * 2 ^ j).testBit)) := below_setRow hW2 (by omega) _
        clear hA hR hO hW hA2 hR2 hW2 hb
        go_wp2_with (refine wpList_plain rfl fun _ hK => wp_store_row 27 _ _ rfl _ _ rfl rfl 27 _ hO2 (info27 _) (by rw [bv_size, bv_size]) (bv_one _) (hK _ _ ?_))
        go_roundg (64 - (j + 1))
        case measure => omega
        case rel => exact ⟨j + 1, U + V * 2 ^ j, by omega, rfl, by go_num, hA3, hR3, hO3, hW3, HU'⟩
    · obtain rfl : j = 64 := by omega
      have e : U = R := by rw [HU.out, HR.out, Nat.mod_eq_of_lt HK.out]
      clear HU
      subst e
      go_wp2_with (first
        | (refine wpList_load_row rfl 27 _ rfl _ rfl 27 _ (0, 0) _ hO Tryd.underlying27 rfl (info27 _) ?_)
        | (refine wpList_plain rfl fun _ hK => wp_store_row 27 _ _ rfl _ _ rfl rfl 27 _ hR (info27 _) (by rw [bv_size, bv_size]) (bv_one _) (hK _ _ ?_)))
      refine bodyPost_ret (v := .agg (bv U.testBit)) (results_cell_row rfl _ _ (w.heap.size + 1) 27 _ (0, 0) _ rfl hR.row Tryd.underlying27 rfl (info27 _)) rfl ⟨rfl, below_setRow hW (by omega) _⟩
end Go.Proofs.YtlgadaojekcjeaaDoor

/-
  The contract of Turned: the opposite of a row of bits, within 192.
-/
import Derived.Test.YtlgadaojekcjeaaDoorBSumV
import Derived.Test.YtlgadaojekcjeaaDoorBPow
import Derived.Test.YtlgadaojekcjeaaDoorRegB
namespace Go.Proofs.YtlgadaojekcjeaaDoor
open Go.RowKit

theorem turn_bit (V : Nat) (hV : V < 2 ^ 192) (i : Nat) : (2 ^ 192 - 1 - V).testBit i = if i < 192 then !V.testBit i else false := by
  rw [show 2 ^ 192 - 1 - V = 2 ^ 192 - (V + 1) by omega, Nat.testBit_two_pow_sub_succ hV]
  by_cases h : i < 192 <;> simp [h]

theorem turn_end (V : Nat) (hV : V < 2 ^ 192) (i : Nat) : (if i = 192 then false else (2 ^ 192 - 1 - V + 1).testBit i) = ((2 ^ 192 - V) % 2 ^ 192).testBit i := by
  rw [Nat.testBit_mod_two_pow, show 2 ^ 192 - 1 - V + 1 = 2 ^ 192 - V by omega]
  by_cases h : i < 192
  · rw [if_neg (by omega)]; simp [h]
  · by_cases h2 : i = 192
    · simp [h2]
    · rw [if_neg h2]
      have : (2 ^ 192 - V).testBit i = false := Nat.testBit_lt_two_pow (Nat.lt_of_lt_of_le (show 2 ^ 192 - V < 2 ^ 193 by rw [Nat.pow_succ]; omega) (Nat.pow_le_pow_right (by omega) (by omega)))
      rw [this]; simp [h]

theorem one_bv : Tryd.zeroCells27.setIfInBounds 0 (.bool true) = bv (Nat.testBit 1) := by
  rw [zero_bv, bv_set]
  refine bv_congr fun i _ => ?_
  cases i with
  | zero => rfl
  | succ i => simp [Nat.testBit_succ]

set_option maxHeartbeats 1000000 in
set_option maxRecDepth 100000 in
theorem turn_any (V : Nat) (hV : V < 2 ^ 192) (w : World) : Calls Tryd.prog 17 #[.agg (bv V.testBit)] w fun e w' => e = .returned (.agg (bv ((2 ^ 192 - V) % 2 ^ 192).testBit)) ∧ Below w.heap.size w w' := by
  have HV : Hid (V < 2 ^ 192) := hV
  obtain ⟨R, hR⟩ : ∃ R, R = (2 ^ 192 - V) % 2 ^ 192 := ⟨_, rfl⟩
  rw [← hR]
  have HR : Hid (R = (2 ^ 192 - V) % 2 ^ 192) := hR
  clear hV hR
  go_enter Tryd.func17, Tryd.ntmps17
  go_wp2_with fail
  rw [zero_bv]
  go_loopg [4] 192 (fun g i wr => ∃ k : Nat, k ≤ 192 ∧ g = 192 - k ∧ i = .int .i64 k ∧ Blk wr w.heap.size V.testBit ∧ Blk wr (w.heap.size + 1) (fun _ => false) ∧ Blk wr (w.heap.size + 1 + 1) (fun j => if j < k then !V.testBit j else false) ∧ Below w.heap.size w wr)
  case atStart =>
    refine ⟨0, by omega, rfl, rfl, ((Blk.new w _).old _).old _, ?_, ?_, ?_⟩
    · have := (Blk.new (w.alloc (.cells (bv V.testBit) 27)) (fun _ => false)).old (.cells (bv fun _ => false) 27)
      simpa using this
    · have := Blk.new ((w.alloc (.cells (bv V.testBit) 27)).alloc (.cells (bv fun _ => false) 27)) (fun _ => false)
      simpa using this
    · exact (((Below.refl _ _).alloc (Nat.le_refl _) _).alloc (by simp) _).alloc (by simp; omega) _
  case round =>
    obtain ⟨k, hk, rfl, rfl, hA, hR, hO, hW⟩ := hrel
    by_cases hlt : k < 192
    · have a1 := hA.cell k (by omega)
      have o1 := hO.cell k (by omega)
      have f1 := hO.frozen k
      simp only [Nat.lt_irrefl, if_false] at o1
      have hlti : (k : Int) < 192 := by omega
      have hk1 : (k : Int) < 256 := by omega
      go_wp2
      go_roundg (192 - (k + 1))
      case measure => omega
      case rel =>
        refine ⟨k + 1, by omega, rfl, by go_num, hA.other _ _ (by show _ ≠ _ + 1 + 1; omega), hR.other _ _ (by show _ ≠ _ + 1 + 1; omega), (hO.set k _).congr (fun i _ => ?_), hW.setCell (by show _ ≤ _ + 1 + 1; omega) _⟩
        by_cases h1 : i = k
        · subst h1; simp
        · have h2 : (i < k + 1) = (i < k) := by simp; omega
          simp [h1, h2]
    · obtain rfl : k = 192 := by omega
      obtain ⟨U, hU⟩ : ∃ U, U = 2 ^ 192 - 1 - V := ⟨_, rfl⟩
      have hO1 : Blk wr (w.heap.size + 1 + 1) U.testBit := hO.congr (fun i _ => by rw [hU]; exact (turn_bit V HV.out i).symm)
      have HU : Hid (U = 2 ^ 192 - 1 - V) := hU
      have hz := hO1.lt
      have hO2 : Blk (wr.alloc (.cells (Tryd.zeroCells27.setIfInBounds 0 (.bool true)) 27)) (w.heap.size + 1 + 1) U.testBit := hO1.old _
      have hOne : Blk (wr.alloc (.cells (Tryd.zeroCells27.setIfInBounds 0 (.bool true)) 27)) wr.heap.size (Nat.testBit 1) := by rw [one_bv]; exact Blk.new wr _
      have hR2 : Blk (wr.alloc (.cells (Tryd.zeroCells27.setIfInBounds 0 (.bool true)) 27)) (w.heap.size + 1) (fun _ => false) := hR.old _
      have z0 : Tryd.zeroCells27[0]? = some (.bool false) := by rw [zero_bv]; exact bv_get _ 0 (by omega)
      clear hO hA hU hO1 hR
      go_wp2_with (first
        | (refine wpList_load_row rfl 27 _ rfl _ rfl 27 _ (0, 0) _ hO2 Tryd.underlying27 rfl (info27 _) ?_)
        | (refine wpList_load_row rfl 27 _ rfl _ rfl 27 _ (0, 0) _ hOne Tryd.underlying27 rfl (info27 _) ?_)
        | (refine wp_load_row 27 _ rfl _ rfl 27 _ (0, 0) _ hO2 Tryd.underlying27 rfl (info27 _) ?_))
      refine (sum_any U 1 _).mono ?_
      rintro e w1 ⟨rfl, hb1⟩
      have hO3 : Blk w1 (w.heap.size + 1 + 1) U.testBit := hO2.below hb1 hO2.lt
      have hR3 : Blk w1 (w.heap.size + 1) (fun _ => false) := hR2.below hb1 hR2.lt
      have hW1 : Below w.heap.size w w1 := (hW.alloc hW.size _).trans (hb1.mono (by have := hW.size; simp; omega))
      have hO4 : Blk (w1.setRow (w.heap.size + 1 + 1) (bv (U + 1).testBit)) (w.heap.size + 1 + 1) (U + 1).testBit := hO3.row
      have o1 := hO4.cell 192 (by omega)
      have f1 := hO4.frozen 192
      clear hO2 hOne hR2 hb1 z0
      have hO5 : Blk ((w1.setRow (w.heap.size + 1 + 1) (bv (U + 1).testBit)).setCell ⟨w.heap.size + 1 + 1, 192, none⟩ (.bool false)) (w.heap.size + 1 + 1) R.testBit :=
        (hO4.set 192 false).congr (fun i _ => by rw [HR.out, HU.out]; exact turn_end V HV.out i)
      have hR5 : Blk ((w1.setRow (w.heap.size + 1 + 1) (bv (U + 1).testBit)).setCell ⟨w.heap.size + 1 + 1, 192, none⟩ (.bool false)) (w.heap.size + 1) (fun _ => false) :=
        Blk.other ((setRow_other w1 _ _ _ (by omega)).trans hR3) _ _ (by show _ ≠ _ + 1 + 1; omega)
      go_wp2_with (first
        | (refine wpList_plain rfl fun _ hK => wp_store_row 27 _ _ rfl _ _ rfl rfl 27 _ hO3 (info27 _) (by rw [bv_size, bv_size]) (bv_one _) (hK _ _ ?_))
        | (refine wpList_load_row rfl 27 _ rfl _ rfl 27 _ (0, 0) _ hO5 Tryd.underlying27 rfl (info27 _) ?_)
        | (refine wpList_plain rfl fun _ hK => wp_store_row 27 _ _ rfl _ _ rfl rfl 27 _ hR5 (info27 _) (by rw [bv_size, bv_size]) (bv_one _) (hK _ _ ?_)))
      refine bodyPost_ret (v := .agg (bv R.testBit)) (results_cell_row rfl _ _ (w.heap.size + 1) 27 _ (0, 0) _ rfl hR5.row Tryd.underlying27 rfl (info27 _)) rfl ⟨rfl, below_setRow ((below_setRow hW1 (by omega) _).setCell (by show _ ≤ _ + 1 + 1; omega) _) (by omega) _⟩
end Go.Proofs.YtlgadaojekcjeaaDoor

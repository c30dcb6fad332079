/-
  The walk of the statement LimbsMoves.
-/
import Derived.Test.YtlgadaojekcjeaaDoorAlive
import Derived.Test.YtlgadaojekcjeaaDoorMovesR
import Derived.Test.YtlgadaojekcjeaaDoorBMove
import Derived.Test.YtlgadaojekcjeaaDoorRegA3
import Derived.Test.YtlgadaojekcjeaaDoorRegB
namespace Go.Proofs.YtlgadaojekcjeaaDoor
open Go.RowKit

attribute [local go_sem] eq24 guard24 eq23 guard23
set_option maxHeartbeats 4000000 in
set_option maxRecDepth 100000 in
theorem moves_walk (a0 a1 a2 n k : Int) (x l r b : Nat) (hmin : min (max n 0) 192 = k) (k0 : 0 ≤ k) (k1 : k ≤ 192)
    (HBa : Hid (∀ w, Calls Tryd.prog 11 #[.agg #[.int .u64 a0, .int .u64 a1, .int .u64 a2]] w fun e w' => e = .returned (.agg (bv x.testBit)) ∧ Below w.heap.size w w'))
    (HLe : Hid (∀ w, Calls Tryd.prog 26 #[.agg #[.int .u64 a0, .int .u64 a1, .int .u64 a2], .int .i64 n] w fun e w' => e = .returned (.agg #[.int .u64 (wrd (l) 0), .int .u64 (wrd (l) 64), .int .u64 (wrd (l) 128)]) ∧ Below w.heap.size w w'))
    (HRi : Hid (∀ w, Calls Tryd.prog 27 #[.agg #[.int .u64 a0, .int .u64 a1, .int .u64 a2], .int .i64 n] w fun e w' => e = .returned (.agg #[.int .u64 (wrd (r) 0), .int .u64 (wrd (r) 64), .int .u64 (wrd (r) 128)]) ∧ Below w.heap.size w w'))
    (HMl : Hid (∀ w, Calls Tryd.prog 28 #[.agg (bv x.testBit), .int .i64 k, .int .i64 192] w fun e w' => e = .returned (.agg (bv l.testBit)) ∧ Below w.heap.size w w'))
    (HMr : Hid (∀ w, Calls Tryd.prog 28 #[.agg (bv x.testBit), .int .i64 (-k), .int .i64 192] w fun e w' => e = .returned (.agg (bv r.testBit)) ∧ Below w.heap.size w w'))
    (HBk : Hid (∀ w, Calls Tryd.prog 27 #[.agg #[.int .u64 (wrd (l) 0), .int .u64 (wrd (l) 64), .int .u64 (wrd (l) 128)], .int .i64 n] w fun e w' => e = .returned (.agg #[.int .u64 (wrd (b) 0), .int .u64 (wrd (b) 64), .int .u64 (wrd (b) 128)]) ∧ Below w.heap.size w w'))
    (HBb : Hid (∀ w, Calls Tryd.prog 11 #[.agg #[.int .u64 (wrd (b) 0), .int .u64 (wrd (b) 64), .int .u64 (wrd (b) 128)]] w fun e w' => e = .returned (.agg (bv b.testBit)) ∧ Below w.heap.size w w'))
    (hfin : Hid (∀ i, i < 256 → b.testBit i = (decide ((i : Int) + k < 192) && x.testBit i)))
    (w : World) (htab : Tab w) :
    Calls Tryd.prog 5 #[.agg #[.int .u64 a0, .int .u64 a1, .int .u64 a2], .int .i64 n] w fun e w' => e = .returned (.bool true) ∧ Below w.heap.size w w' := by
  have HT : Hid (Tab w) := htab
  clear htab
  go_enter Tryd.func5, Tryd.ntmps5
  go_wp2_with fail
  refine (alive_any _ (by exact tab_below HT.out (by repeat' (first | with_reducible exact Below.refl _ _ | with_reducible refine Below.drew ?_ | with_reducible refine below_drewN ?_ _ | with_reducible refine Below.setCell ?_ ?_ _ | with_reducible refine Below.alloc ?_ ?_ _ | omega | (simp; done) | (simp; omega))))).mono ?_
  rintro e w1 ⟨rfl, hb1⟩
  have hA1 : Below w.heap.size w w1 := (by repeat' (first | with_reducible exact Below.refl _ _ | with_reducible refine Below.drew ?_ | with_reducible refine below_drewN ?_ _ | with_reducible refine Below.setCell ?_ ?_ _ | with_reducible refine Below.alloc ?_ ?_ _ | with_reducible refine below_setRow ?_ ?_ _ | with_reducible refine Below.trans ?_ (hb1.mono ?_) | omega | (simp; done) | (simp; omega)))
  have hz1 : w.heap.size + 1 ≤ w1.heap.size := by simpa using hb1.size
  have s1_a : w.heap.size < w1.heap.size := by omega
  have c1_a_0 : w1.cell? ⟨w.heap.size, 0, none⟩ = some (.int .u64 a0) := (hb1.cell (p := ⟨w.heap.size, 0, none⟩) (by first | (simp; done) | (simp; omega))).trans (by simp [go_sem])
  have c1_a_1 : w1.cell? ⟨w.heap.size, 1, none⟩ = some (.int .u64 a1) := (hb1.cell (p := ⟨w.heap.size, 1, none⟩) (by first | (simp; done) | (simp; omega))).trans (by simp [go_sem])
  have c1_a_2 : w1.cell? ⟨w.heap.size, 2, none⟩ = some (.int .u64 a2) := (hb1.cell (p := ⟨w.heap.size, 2, none⟩) (by first | (simp; done) | (simp; omega))).trans (by simp [go_sem])
  have ba1 : w1.heap[w.heap.size]? = some (.cells #[.int .u64 a0, .int .u64 a1, .int .u64 a2] 24 (0, 0)) := (hb1.block _ (by simp)).trans (_root_.Go.heap_alloc_new w _)
  clear hb1
  go_wp2_with fail
  refine wp_region_lays 8 (fun i => if i = 6 ∨ i = 7 then some (.cells #[.int .u64 0, .int .u64 0, .int .u64 0] 24) else none) (by kernel_rfl) (by kernel_rfl) ?_ ?_ ?_
  · intro i o ob ho hi
    have : i = 6 ∨ i = 7 := Classical.byContradiction fun h => (by simp [h] at hi)
    rcases this with rfl | rfl
    all_goals
      simp at ho hi
      subst ho hi
      exact ⟨rfl, fun a w => lay24 _ _ rfl w⟩
  · intro i j hij hj hi
    have : i = 6 ∨ i = 7 := Classical.byContradiction fun h => (by simp [h] at hi)
    have : j = 6 ∨ j = 7 := by omega
    simp [this]
  refine headL_firm _ rfl rfl rfl (firm_load _ rfl rfl ba1 (fun w h => run_loadVar_row w _ 24 24 _ (0, 0) _ h Tryd.underlying24 rfl (info24 _ _ _))) ?_
  simp only [Act.put, List.getElem_toArray, List.getElem_cons_zero, List.setIfInBounds_toArray, List.set_cons_succ, List.set_cons_zero, Nat.zero_add]
  refine headL_firm (.int .i64 n) rfl rfl rfl (firm_move (.tmp 1) rfl rfl) ?_
  simp only [Act.put, List.getElem_toArray, List.getElem_cons_zero, List.getElem_cons_succ, List.setIfInBounds_toArray, List.set_cons_succ, List.set_cons_zero, Nat.reduceAdd]
  refine headL_firm (.agg #[.int .u64 (wrd l 0), .int .u64 (wrd l 64), .int .u64 (wrd l 128)]) rfl rfl rfl (firm_call (f := 26) (args := #[.agg #[.int .u64 a0, .int .u64 a1, .int .u64 a2], .int .i64 n]) (fun w => run_call2 (f := 26) (x := .tmp 16) (y := .tmp 17) (u := .agg #[.int .u64 a0, .int .u64 a1, .int .u64 a2]) (v := .int .i64 n) (ts := #[24, 3]) call26 rfl rfl rfl w) HLe.out) ?_
  simp only [Act.put, List.getElem_toArray, List.getElem_cons_zero, List.getElem_cons_succ, List.setIfInBounds_toArray, List.set_cons_succ, List.set_cons_zero, Nat.reduceAdd]
  refine headL_firm _ rfl rfl rfl (firm_load _ rfl rfl ba1 (fun w h => run_loadVar_row w _ 24 24 _ (0, 0) _ h Tryd.underlying24 rfl (info24 _ _ _))) ?_
  simp only [Act.put, List.getElem_toArray, List.getElem_cons_zero, List.getElem_cons_succ, List.setIfInBounds_toArray, List.set_cons_succ, List.set_cons_zero, Nat.reduceAdd]
  refine headL_firm (.int .i64 n) rfl rfl rfl (firm_move (.tmp 1) rfl rfl) ?_
  simp only [Act.put, List.getElem_toArray, List.getElem_cons_zero, List.getElem_cons_succ, List.setIfInBounds_toArray, List.set_cons_succ, List.set_cons_zero, Nat.reduceAdd]
  refine headL_firm (.agg #[.int .u64 (wrd r 0), .int .u64 (wrd r 64), .int .u64 (wrd r 128)]) rfl rfl rfl (firm_call (f := 27) (args := #[.agg #[.int .u64 a0, .int .u64 a1, .int .u64 a2], .int .i64 n]) (fun w => run_call2 (f := 27) (x := .tmp 19) (y := .tmp 20) (u := .agg #[.int .u64 a0, .int .u64 a1, .int .u64 a2]) (v := .int .i64 n) (ts := #[24, 3]) call27 rfl rfl rfl w) HRi.out) ?_
  simp only [Act.put, List.getElem_toArray, List.getElem_cons_zero, List.getElem_cons_succ, List.setIfInBounds_toArray, List.set_cons_succ, List.set_cons_zero, Nat.reduceAdd]
  refine headL_lay _ rfl rfl ?_
  intro gl hgl _
  simp only [Act.put, ptr, List.getElem_toArray, List.getElem_cons_zero, List.getElem_cons_succ, List.setIfInBounds_toArray, List.set_cons_succ, List.set_cons_zero, Nat.reduceAdd]
  refine headL_lay _ rfl rfl ?_
  intro gr hgr hne
  simp only [Act.put, ptr, List.getElem_toArray, List.getElem_cons_zero, List.getElem_cons_succ, List.setIfInBounds_toArray, List.set_cons_succ, List.set_cons_zero, Nat.reduceAdd]
  intro v2 hOk
  have hne' : gr ≠ gl := fun e => by simp [upd, e] at hne
  have hX : v2.heap[gl]? = some (.cells #[.int .u64 0, .int .u64 0, .int .u64 0] 24 (0, 0)) := hOk.2 gl _ (by simp [upd, Ne.symm hne'])
  have hY : v2.heap[gr]? = some (.cells #[.int .u64 0, .int .u64 0, .int .u64 0] 24 (0, 0)) := hOk.2 gr _ (by simp [upd])
  have hC : Below w1.heap.size w1 v2 := hOk.1
  clear hOk hne
  have hX1 : (v2.setRow gl #[.int .u64 (wrd l 0), .int .u64 (wrd l 64), .int .u64 (wrd l 128)]).heap[gl]? = some (.cells #[.int .u64 (wrd l 0), .int .u64 (wrd l 64), .int .u64 (wrd l 128)] 24 (0, 0)) := setRow_heap v2 gl _ _ _ _ hX
  have hY1 : (v2.setRow gl #[.int .u64 (wrd l 0), .int .u64 (wrd l 64), .int .u64 (wrd l 128)]).heap[gr]? = some (.cells #[.int .u64 0, .int .u64 0, .int .u64 0] 24 (0, 0)) := (setRow_other v2 _ _ _ hne').trans hY
  simp only [List.drop]
  refine wpList_plain rfl fun _ hK => wp_store_row 24 _ _ rfl gl #[.int .u64 (wrd l 0), .int .u64 (wrd l 64), .int .u64 (wrd l 128)] rfl rfl 24 _ hX (info24 _ _ _) rfl (by simp [Value.oneCell']) (hK _ _ ?_)
  refine wpList_plain rfl fun _ hK => wp_store_row 24 _ _ rfl gr #[.int .u64 (wrd r 0), .int .u64 (wrd r 64), .int .u64 (wrd r 128)] rfl rfl 24 _ hY1 (info24 _ _ _) rfl (by simp [Value.oneCell']) (hK _ _ ?_)
  obtain ⟨w2, hw2⟩ : ∃ w2, w2 = (v2.setRow gl #[.int .u64 (wrd l 0), .int .u64 (wrd l 64), .int .u64 (wrd l 128)]).setRow gr #[.int .u64 (wrd r 0), .int .u64 (wrd r 64), .int .u64 (wrd r 128)] := ⟨_, rfl⟩
  rw [← hw2]
  have hA2 : Below w1.heap.size w1 w2 := by rw [hw2]; exact below_setRow (below_setRow hC hgl _) hgr _
  have bl2 : w2.heap[gl]? = some (.cells #[.int .u64 (wrd l 0), .int .u64 (wrd l 64), .int .u64 (wrd l 128)] 24 (0, 0)) := by rw [hw2]; exact (setRow_other _ _ _ _ (Ne.symm hne')).trans hX1
  have br2 : w2.heap[gr]? = some (.cells #[.int .u64 (wrd r 0), .int .u64 (wrd r 64), .int .u64 (wrd r 128)] 24 (0, 0)) := by rw [hw2]; exact setRow_heap _ gr _ _ _ _ hY1
  have hz2 : w1.heap.size ≤ w2.heap.size := hA2.size
  clear hw2 hX hY hX1 hY1 hC ba1
  have s2_l : gl < w2.heap.size := (Array.getElem?_eq_some_iff.1 bl2).1
  have s2_r : gr < w2.heap.size := (Array.getElem?_eq_some_iff.1 br2).1
  have c2_l_0 : w2.cell? ⟨gl, 0, none⟩ = some (.int .u64 (wrd l 0)) := by rw [cell_of_row w2 gl 0 _ _ _ bl2]; rfl
  have c2_l_1 : w2.cell? ⟨gl, 1, none⟩ = some (.int .u64 (wrd l 64)) := by rw [cell_of_row w2 gl 1 _ _ _ bl2]; rfl
  have c2_l_2 : w2.cell? ⟨gl, 2, none⟩ = some (.int .u64 (wrd l 128)) := by rw [cell_of_row w2 gl 2 _ _ _ bl2]; rfl
  have c2_r_0 : w2.cell? ⟨gr, 0, none⟩ = some (.int .u64 (wrd r 0)) := by rw [cell_of_row w2 gr 0 _ _ _ br2]; rfl
  have c2_r_1 : w2.cell? ⟨gr, 1, none⟩ = some (.int .u64 (wrd r 64)) := by rw [cell_of_row w2 gr 1 _ _ _ br2]; rfl
  have c2_r_2 : w2.cell? ⟨gr, 2, none⟩ = some (.int .u64 (wrd r 128)) := by rw [cell_of_row w2 gr 2 _ _ _ br2]; rfl
  have s2_a : w.heap.size < w2.heap.size := by omega
  have c2_a_0 : w2.cell? ⟨w.heap.size, 0, none⟩ = some (.int .u64 a0) := (hA2.cell (p := ⟨w.heap.size, 0, none⟩) s1_a).trans c1_a_0
  have c2_a_1 : w2.cell? ⟨w.heap.size, 1, none⟩ = some (.int .u64 a1) := (hA2.cell (p := ⟨w.heap.size, 1, none⟩) s1_a).trans c1_a_1
  have c2_a_2 : w2.cell? ⟨w.heap.size, 2, none⟩ = some (.int .u64 a2) := (hA2.cell (p := ⟨w.heap.size, 2, none⟩) s1_a).trans c1_a_2
  clear bl2 br2 s1_a c1_a_0 c1_a_1 c1_a_2
  go_wp2_with fail
  have k_a_0 := cell_regrown c2_a_0
  have k_a_1 := cell_regrown c2_a_1
  have k_a_2 := cell_regrown c2_a_2
  have k_l_0 := cell_regrown c2_l_0
  have k_l_1 := cell_regrown c2_l_1
  have k_l_2 := cell_regrown c2_l_2
  have k_r_0 := cell_regrown c2_r_0
  have k_r_1 := cell_regrown c2_r_1
  have k_r_2 := cell_regrown c2_r_2
  refine wp_region_quiet_below (by kernel_rfl) (by kernel_rfl) ?_
  go_big_quiet_step (fail)
  go_big_quiet_step (fail)
  go_big_quiet_step ((exact Calls.regrown_of (HBa.out _)))
  go_big_quiet_step (fail)
  go_big_quiet_step ((exact Calls.regrown_of (HMl.out _)))
  go_big_quiet_step ((exact Calls.regrown_of (whole_any _ _)))
  go_big_quiet_step (fail)
  go_big_quiet_step (fail)
  go_big_quiet_step (fail)
  go_big_quiet_step (fail)
  go_big_quiet_step ((exact Calls.regrown_of (HBa.out _)))
  go_big_quiet_step (fail)
  go_big_quiet_step (fail)
  go_big_quiet_step ((exact Calls.regrown_of (HMr.out _)))
  go_big_quiet_step ((exact Calls.regrown_of (whole_any _ _)))
  go_big_quiet_step (fail)
  go_big_quiet_step (fail)
  refine wpQuiet_nil ?_
  rintro _ ⟨⟨dq, osq⟩, rfl⟩
  have hq3 := below_regrown w2 dq osq
  generalize Sort.grow (redrawn w2 dq) osq = w3 at hq3 ⊢
  clear k_a_0 k_a_1 k_a_2 k_l_0 k_l_1 k_l_2 k_r_0 k_r_1 k_r_2
  have hA3 : Below w2.heap.size w2 w3 := hq3
  have hz3 : w2.heap.size + 0 ≤ w3.heap.size := by have := hA3.size; omega
  have s3_a : w.heap.size < w3.heap.size := Nat.lt_of_lt_of_le s2_a hA3.size
  have c3_a_0 : w3.cell? ⟨w.heap.size, 0, none⟩ = some (.int .u64 a0) := (hA3.cell (p := ⟨w.heap.size, 0, none⟩) s2_a).trans c2_a_0
  have c3_a_1 : w3.cell? ⟨w.heap.size, 1, none⟩ = some (.int .u64 a1) := (hA3.cell (p := ⟨w.heap.size, 1, none⟩) s2_a).trans c2_a_1
  have c3_a_2 : w3.cell? ⟨w.heap.size, 2, none⟩ = some (.int .u64 a2) := (hA3.cell (p := ⟨w.heap.size, 2, none⟩) s2_a).trans c2_a_2
  have s3_l : gl < w3.heap.size := Nat.lt_of_lt_of_le s2_l hA3.size
  have c3_l_0 : w3.cell? ⟨gl, 0, none⟩ = some (.int .u64 (wrd l 0)) := (hA3.cell (p := ⟨gl, 0, none⟩) s2_l).trans c2_l_0
  have c3_l_1 : w3.cell? ⟨gl, 1, none⟩ = some (.int .u64 (wrd l 64)) := (hA3.cell (p := ⟨gl, 1, none⟩) s2_l).trans c2_l_1
  have c3_l_2 : w3.cell? ⟨gl, 2, none⟩ = some (.int .u64 (wrd l 128)) := (hA3.cell (p := ⟨gl, 2, none⟩) s2_l).trans c2_l_2
  have s3_r : gr < w3.heap.size := Nat.lt_of_lt_of_le s2_r hA3.size
  have c3_r_0 : w3.cell? ⟨gr, 0, none⟩ = some (.int .u64 (wrd r 0)) := (hA3.cell (p := ⟨gr, 0, none⟩) s2_r).trans c2_r_0
  have c3_r_1 : w3.cell? ⟨gr, 1, none⟩ = some (.int .u64 (wrd r 64)) := (hA3.cell (p := ⟨gr, 1, none⟩) s2_r).trans c2_r_1
  have c3_r_2 : w3.cell? ⟨gr, 2, none⟩ = some (.int .u64 (wrd r 128)) := (hA3.cell (p := ⟨gr, 2, none⟩) s2_r).trans c2_r_2
  clear c2_a_0 c2_a_1 c2_a_2 s2_a c2_l_0 c2_l_1 c2_l_2 s2_l c2_r_0 c2_r_1 c2_r_2 s2_r
  go_wp2_with fail
  refine (HBk.out _).mono ?_
  rintro e w4 ⟨rfl, hb4⟩
  have hA4 : Below w3.heap.size w3 w4 := (by repeat' (first | with_reducible exact Below.refl _ _ | with_reducible refine Below.drew ?_ | with_reducible refine below_drewN ?_ _ | with_reducible refine Below.setCell ?_ ?_ _ | with_reducible refine Below.alloc ?_ ?_ _ | with_reducible refine below_setRow ?_ ?_ _ | with_reducible refine Below.trans ?_ (hb4.mono ?_) | omega | (simp; done) | (simp; omega)))
  have hz4 : w3.heap.size + 0 ≤ w4.heap.size := by simpa using hb4.size
  have s4_a : w.heap.size < w4.heap.size := by omega
  have c4_a_0 : w4.cell? ⟨w.heap.size, 0, none⟩ = some (.int .u64 a0) := (hA4.cell (p := ⟨w.heap.size, 0, none⟩) s3_a).trans c3_a_0
  have c4_a_1 : w4.cell? ⟨w.heap.size, 1, none⟩ = some (.int .u64 a1) := (hA4.cell (p := ⟨w.heap.size, 1, none⟩) s3_a).trans c3_a_1
  have c4_a_2 : w4.cell? ⟨w.heap.size, 2, none⟩ = some (.int .u64 a2) := (hA4.cell (p := ⟨w.heap.size, 2, none⟩) s3_a).trans c3_a_2
  clear c3_a_0 c3_a_1 c3_a_2 s3_a c3_l_0 c3_l_1 c3_l_2 s3_l c3_r_0 c3_r_1 c3_r_2 s3_r
  go_wp2_with fail
  refine (HBb.out _).mono ?_
  rintro e w5 ⟨rfl, hb5⟩
  have hA5 : Below w4.heap.size w4 w5 := (by repeat' (first | with_reducible exact Below.refl _ _ | with_reducible refine Below.drew ?_ | with_reducible refine below_drewN ?_ _ | with_reducible refine Below.setCell ?_ ?_ _ | with_reducible refine Below.alloc ?_ ?_ _ | with_reducible refine below_setRow ?_ ?_ _ | with_reducible refine Below.trans ?_ (hb5.mono ?_) | omega | (simp; done) | (simp; omega)))
  have hz5 : w4.heap.size + 1 ≤ w5.heap.size := by simpa using hb5.size
  have s5_a : w.heap.size < w5.heap.size := by omega
  have c5_a_0 : w5.cell? ⟨w.heap.size, 0, none⟩ = some (.int .u64 a0) := (hA5.cell (p := ⟨w.heap.size, 0, none⟩) s4_a).trans c4_a_0
  have c5_a_1 : w5.cell? ⟨w.heap.size, 1, none⟩ = some (.int .u64 a1) := (hA5.cell (p := ⟨w.heap.size, 1, none⟩) s4_a).trans c4_a_1
  have c5_a_2 : w5.cell? ⟨w.heap.size, 2, none⟩ = some (.int .u64 a2) := (hA5.cell (p := ⟨w.heap.size, 2, none⟩) s4_a).trans c4_a_2
  have s5_bk : w4.heap.size < w5.heap.size := by omega
  have c5_bk_0 : w5.cell? ⟨w4.heap.size, 0, none⟩ = some (.int .u64 (wrd b 0)) := (hb5.cell (p := ⟨w4.heap.size, 0, none⟩) (by first | (simp; done) | (simp; omega))).trans (by simp [go_sem])
  have c5_bk_1 : w5.cell? ⟨w4.heap.size, 1, none⟩ = some (.int .u64 (wrd b 64)) := (hb5.cell (p := ⟨w4.heap.size, 1, none⟩) (by first | (simp; done) | (simp; omega))).trans (by simp [go_sem])
  have c5_bk_2 : w5.cell? ⟨w4.heap.size, 2, none⟩ = some (.int .u64 (wrd b 128)) := (hb5.cell (p := ⟨w4.heap.size, 2, none⟩) (by first | (simp; done) | (simp; omega))).trans (by simp [go_sem])
  clear c4_a_0 c4_a_1 c4_a_2 s4_a
  go_wp2_with fail
  have hBz : Below w.heap.size w w5 := by
    have z1 := hA1.size
    have z2 := hA2.size
    have z3 := hA3.size
    have z4 := hA4.size
    exact hA1.trans ((hA2.mono (by omega)).trans ((hA3.mono (by omega)).trans ((hA4.mono (by omega)).trans (hA5.mono (by omega)))))
  go_loopg [44] 256 (fun g i wr => ∃ j : Nat, j ≤ 256 ∧ g = 256 - j ∧ i = .int .i64 j ∧ w.heap.size < wr.heap.size ∧ wr.cell? ⟨w.heap.size, 0, none⟩ = some (.int .u64 a0) ∧ wr.cell? ⟨w.heap.size, 1, none⟩ = some (.int .u64 a1) ∧ wr.cell? ⟨w.heap.size, 2, none⟩ = some (.int .u64 a2) ∧ Below w.heap.size w wr)
  case atStart => exact ⟨0, by omega, rfl, rfl, s5_a, c5_a_0, c5_a_1, c5_a_2, hBz⟩
  case round =>
    obtain ⟨j, hj, rfl, rfl, sz, g0, g1, g2, hW⟩ := hrel
    clear c5_a_0 c5_a_1 c5_a_2 c5_bk_0 c5_bk_1 c5_bk_2 hBz hA1 hA2 hA3 hA4 hA5
    by_cases hlt : j < 256
    · have hlti : (j : Int) < 256 := by omega
      have hj0 : (0 : Int) ≤ j := by omega
      have hjk : (j : Int) + k < 9223372036854775808 := by omega
      obtain ⟨p, hp⟩ : ∃ p, b.testBit j = p := ⟨_, rfl⟩
      have b1 : ∀ w, (Instr.index 27 (.agg (bv b.testBit)) (.int .i64 j)).run Tryd.prog w = .ok (.bool p) w := by rw [← hp]; exact index27 _ j hlt
      have hf := hfin.out j hlt
      rw [hp] at hf
      clear hp
      by_cases hk : (j : Int) + k < 192
      · have x1 : ∀ w, (Instr.index 27 (.agg (bv x.testBit)) (.int .i64 j)).run Tryd.prog w = .ok (.bool p) w := by rw [hf, decide_eq_true hk]; exact index27 _ j hlt
        clear hf
        go_wp2_with fail
        refine (HBa.out _).mono ?_
        rintro e w6 ⟨rfl, hb6⟩
        have g0' := (hb6.cell (p := ⟨w.heap.size, 0, none⟩) sz).trans g0
        have g1' := (hb6.cell (p := ⟨w.heap.size, 1, none⟩) sz).trans g1
        have g2' := (hb6.cell (p := ⟨w.heap.size, 2, none⟩) sz).trans g2
        have sz' : w.heap.size < w6.heap.size := Nat.lt_of_lt_of_le sz hb6.size
        have hW' : Below w.heap.size w w6 := hW.trans (hb6.mono hW.size)
        clear g0 g1 g2 hW hb6
        go_wp2
        go_roundg (256 - (j + 1))
        case measure => omega
        case rel => exact ⟨j + 1, by omega, rfl, by go_num, sz', g0', g1', g2', hW'⟩
      · rw [decide_eq_false hk, Bool.false_and] at hf
        subst hf
        go_wp2
        go_roundg (256 - (j + 1))
        case measure => omega
        case rel => exact ⟨j + 1, by omega, rfl, by go_num, sz, g0, g1, g2, hW⟩
    · obtain rfl : j = 256 := by omega
      go_wp2
      go_ret
      exact ⟨rfl, hW⟩

theorem wrd_mod (X : Nat) : wrd (X % 2 ^ 192) 0 = wrd X 0 ∧ wrd (X % 2 ^ 192) 64 = wrd X 64 ∧ wrd (X % 2 ^ 192) 128 = wrd X 128 := by
  have e1 : X % 2 ^ 192 / 2 ^ 0 % 2 ^ 64 = X / 2 ^ 0 % 2 ^ 64 := by simp only [Nat.reducePow, Nat.div_one]; omega
  have e2 : X % 2 ^ 192 / 2 ^ 64 % 2 ^ 64 = X / 2 ^ 64 % 2 ^ 64 := by simp only [Nat.reducePow]; omega
  have e3 : X % 2 ^ 192 / 2 ^ 128 % 2 ^ 64 = X / 2 ^ 128 % 2 ^ 64 := by simp only [Nat.reducePow]; omega
  unfold wrd
  rw [e1, e2, e3]
  exact ⟨rfl, rfl, rfl⟩
theorem nat3_wrd (X : Nat) (h : X < 2 ^ 192) : nat3 (wrd X 0) (wrd X 64) (wrd X 128) = X := by
  rw [show (2 : Nat) ^ 192 = 6277101735386680763835789423207666416102355444464034512896 from rfl] at h
  unfold nat3 val wrd
  simp only [Nat.reducePow, Nat.div_one]
  omega
theorem wrd_lt (X d : Nat) : X / 2 ^ d % 2 ^ 64 < 18446744073709551616 := Nat.mod_lt _ (by decide)
theorem wd_wrd (X d : Nat) : Wd (wrd X d) := wd_nat (wrd_lt X d)
theorem moved_left (V c : Nat) : bv (movedF V.testBit c (192 : Nat)) = bv (V * 2 ^ c % 2 ^ 192).testBit := by
  refine bv_congr fun i _ => ?_
  rw [Nat.testBit_mod_two_pow, ← Nat.shiftLeft_eq, Nat.testBit_shiftLeft]
  unfold movedF
  by_cases h1 : i < 192
  · by_cases h2 : c ≤ i
    · rw [if_pos (by omega), show ((i : Int) - (c : Int)).toNat = i - c by omega]
      simp [h1, h2]
    · rw [if_neg (by omega)]
      simp [h2]
  · rw [if_neg (by omega)]
    simp [h1]
theorem moved_right (V c : Nat) (hV : V < 2 ^ 192) : bv (movedF V.testBit (-(c : Int)) (192 : Nat)) = bv (V / 2 ^ c).testBit := by
  refine bv_congr fun i _ => ?_
  rw [Nat.testBit_div_two_pow]
  unfold movedF
  by_cases h1 : i + c < 192
  · rw [if_pos (by omega), show ((i : Int) - -(c : Int)).toNat = i + c by omega]
  · rw [if_neg (by omega)]
    exact (Nat.testBit_lt_two_pow (Nat.lt_of_lt_of_le hV (Nat.pow_le_pow_right (by omega) (by omega)))).symm
theorem back_bit (V c i : Nat) : (V * 2 ^ c % 2 ^ 192 / 2 ^ c).testBit i = (decide ((i : Int) + (c : Int) < 192) && V.testBit i) := by
  rw [Nat.testBit_div_two_pow, Nat.testBit_mod_two_pow, ← Nat.shiftLeft_eq, Nat.testBit_shiftLeft]
  have e : decide ((i : Int) + (c : Int) < 192) = decide (i + c < 192) := by rw [decide_eq_decide]; omega
  rw [e]
  simp

/-- THE WALK of LimbsMoves. -/
theorem moves_any (a0 a1 a2 n : Int) (ka0 : Wd a0) (ka1 : Wd a1) (ka2 : Wd a2) (w : World) (htab : Tab w) :
    Calls Tryd.prog 5 #[.agg #[.int .u64 a0, .int .u64 a1, .int .u64 a2], .int .i64 n] w fun e w' => e = .returned (.bool true) ∧ Below w.heap.size w w' := by
  obtain ⟨n0, rfl⟩ : ∃ m : Nat, a0 = m := ⟨a0.toNat, (Int.toNat_of_nonneg ka0.1).symm⟩
  obtain ⟨n1, rfl⟩ : ∃ m : Nat, a1 = m := ⟨a1.toNat, (Int.toNat_of_nonneg ka1.1).symm⟩
  obtain ⟨n2, rfl⟩ : ∃ m : Nat, a2 = m := ⟨a2.toNat, (Int.toNat_of_nonneg ka2.1).symm⟩
  have l0 : n0 < 18446744073709551616 := by have := ka0.2; omega
  have l1 : n1 < 18446744073709551616 := by have := ka1.2; omega
  have l2 : n2 < 18446744073709551616 := by have := ka2.2; omega
  have hx := nat3_lt n0 n1 n2 ka0 ka1 ka2
  obtain ⟨c, hc, hmin⟩ : ∃ c : Nat, ((n < 0 ∧ c = 0) ∨ (192 < n ∧ c = 192) ∨ (0 ≤ n ∧ n ≤ 192 ∧ n = c)) ∧ min (max n 0) 192 = (c : Int) := by
    by_cases h1 : n < 0
    · exact ⟨0, .inl ⟨h1, rfl⟩, by omega⟩
    · by_cases h2 : 192 < n
      · exact ⟨192, .inr (.inl ⟨h2, rfl⟩), by omega⟩
      · exact ⟨n.toNat, .inr (.inr ⟨by omega, by omega, by omega⟩), by omega⟩
  have hL := fun w => left_bits n0 n1 n2 l0 l1 l2 n c hc w
  obtain ⟨m0, m1, m2⟩ := wrd_mod (nat3 n0 n1 n2 * 2 ^ c)
  rw [← m0, ← m1, ← m2] at hL
  have hl : nat3 n0 n1 n2 * 2 ^ c % 2 ^ 192 < 2 ^ 192 := Nat.mod_lt _ (pw_pos _)
  have hM1 := fun w => moved_any (nat3 n0 n1 n2).testBit c 192 (by omega) (by omega) (by omega) w
  rw [moved_left] at hM1
  have hM2 := fun w => moved_any (nat3 n0 n1 n2).testBit (-(c : Int)) 192 (by omega) (by omega) (by omega) w
  rw [moved_right _ _ hx] at hM2
  generalize hlE : nat3 n0 n1 n2 * 2 ^ c % 2 ^ 192 = l at *
  have hB := fun w => right_bits (l / 2 ^ 0 % 2 ^ 64) (l / 2 ^ 64 % 2 ^ 64) (l / 2 ^ 128 % 2 ^ 64) (wrd_lt l 0) (wrd_lt l 64) (wrd_lt l 128) n c hc w
  have e3 : nat3 ((l / 2 ^ 0 % 2 ^ 64 : Nat) : Int) ((l / 2 ^ 64 % 2 ^ 64 : Nat) : Int) ((l / 2 ^ 128 % 2 ^ 64 : Nat) : Int) = l := nat3_wrd l hl
  rw [e3] at hB
  have hb : l / 2 ^ c < 2 ^ 192 := Nat.lt_of_le_of_lt (Nat.div_le_self _ _) hl
  have hBb := fun w => bit_any (wrd (l / 2 ^ c) 0) (wrd (l / 2 ^ c) 64) (wrd (l / 2 ^ c) 128) (wd_wrd _ _) (wd_wrd _ _) (wd_wrd _ _) w
  rw [nat3_wrd _ hb] at hBb
  exact moves_walk n0 n1 n2 n c (nat3 n0 n1 n2) l (nat3 n0 n1 n2 / 2 ^ c) (l / 2 ^ c) hmin (by omega) (by omega) (fun w => bit_any n0 n1 n2 ka0 ka1 ka2 w) hL
    (fun w => right_bits n0 n1 n2 l0 l1 l2 n c hc w) hM1 hM2 hB hBb (fun i _ => by rw [← hlE]; exact back_bit _ c i) w htab
/-- The same, as the statement's row asks for it. -/
theorem moves_card (a0 a1 a2 n : Int) (ka0 : Wd a0) (ka1 : Wd a1) (ka2 : Wd a2) (_kn : Sg n) (w : World) (htab : Tab w) :
    Calls Tryd.prog 5 #[.agg #[.int .u64 a0, .int .u64 a1, .int .u64 a2], .int .i64 n] w fun e w' => e = .returned (.bool true) ∧ Below w.heap.size w w' := moves_any a0 a1 a2 n ka0 ka1 ka2 w htab
end Go.Proofs.YtlgadaojekcjeaaDoor

/-
  The walk of the statement LimbsAdds.
-/
import Derived.Test.YtlgadaojekcjeaaDoorAlive
import Derived.Test.YtlgadaojekcjeaaDoorAddsP
import Derived.Test.YtlgadaojekcjeaaDoorBLess
import Derived.Test.YtlgadaojekcjeaaDoorBTurn
import Derived.Test.YtlgadaojekcjeaaDoorRegA2
namespace Go.Proofs.YtlgadaojekcjeaaDoor
open Go.RowKit

attribute [local go_sem] eq24 guard24 eq23 guard23
set_option maxHeartbeats 4000000 in
set_option maxRecDepth 100000 in
theorem adds_walk (a0 a1 a2 b0 b1 b2 : Int) (x y z : Nat) (lt gt : Bool) (want : Int)
    (HBa : Hid (∀ w, Calls Tryd.prog 11 #[.agg #[.int .u64 a0, .int .u64 a1, .int .u64 a2]] w fun e w' => e = .returned (.agg (bv x.testBit)) ∧ Below w.heap.size w w'))
    (HBb : Hid (∀ w, Calls Tryd.prog 11 #[.agg #[.int .u64 b0, .int .u64 b1, .int .u64 b2]] w fun e w' => e = .returned (.agg (bv y.testBit)) ∧ Below w.heap.size w w'))
    (HAdd : Hid (∀ w, Calls Tryd.prog 13 #[.agg #[.int .u64 a0, .int .u64 a1, .int .u64 a2], .agg #[.int .u64 b0, .int .u64 b1, .int .u64 b2]] w fun e w' => e = .returned (.tuple #[.agg #[.int .u64 (wrd (x + y) 0), .int .u64 (wrd (x + y) 64), .int .u64 (wrd (x + y) 128)], .bool ((x + y).testBit 192)]) ∧ Below w.heap.size w w'))
    (HSub : Hid (∀ w, Calls Tryd.prog 14 #[.agg #[.int .u64 a0, .int .u64 a1, .int .u64 a2], .agg #[.int .u64 b0, .int .u64 b1, .int .u64 b2]] w fun e w' => e = .returned (.tuple #[.agg #[.int .u64 (wrd (x + z) 0), .int .u64 (wrd (x + z) 64), .int .u64 (wrd (x + z) 128)], .bool lt]) ∧ Below w.heap.size w w'))
    (HNeg : Hid (∀ w, Calls Tryd.prog 18 #[.agg #[.int .u64 b0, .int .u64 b1, .int .u64 b2]] w fun e w' => e = .returned (.agg #[.int .u64 (wrd (z) 0), .int .u64 (wrd (z) 64), .int .u64 (wrd (z) 128)]) ∧ Below w.heap.size w w'))
    (HTurn : Hid (∀ w, Calls Tryd.prog 17 #[.agg (bv y.testBit)] w fun e w' => e = .returned (.agg (bv z.testBit)) ∧ Below w.heap.size w w'))
    (HLt : Hid (∀ w, Calls Tryd.prog 15 #[.agg (bv x.testBit), .agg (bv y.testBit)] w fun e w' => e = .returned (.bool lt) ∧ Below w.heap.size w w'))
    (HGt : Hid (∀ w, Calls Tryd.prog 15 #[.agg (bv y.testBit), .agg (bv x.testBit)] w fun e w' => e = .returned (.bool gt) ∧ Below w.heap.size w w'))
    (HCmp : Hid (∀ w, Calls Tryd.prog 19 #[.agg #[.int .u64 a0, .int .u64 a1, .int .u64 a2], .agg #[.int .u64 b0, .int .u64 b1, .int .u64 b2]] w fun e w' => e = .returned (.int .i64 want) ∧ Below w.heap.size w w'))
    (hwant : Hid (want = if gt then 1 else if lt then -1 else 0)) (w : World) (htab : Tab w) :
    Calls Tryd.prog 3 #[.agg #[.int .u64 a0, .int .u64 a1, .int .u64 a2], .agg #[.int .u64 b0, .int .u64 b1, .int .u64 b2]] w fun e w' => e = .returned (.bool true) ∧ Below w.heap.size w w' := by
  have HT : Hid (Tab w) := htab
  clear htab
  go_enter Tryd.func3, Tryd.ntmps3
  go_wp2_with fail
  refine (alive_any _ (by exact tab_below HT.out (by repeat' (first | with_reducible exact Below.refl _ _ | with_reducible refine Below.drew ?_ | with_reducible refine below_drewN ?_ _ | with_reducible refine Below.setCell ?_ ?_ _ | with_reducible refine Below.alloc ?_ ?_ _ | omega | (simp; done) | (simp; omega))))).mono ?_
  rintro e w1 ⟨rfl, hb1⟩
  have hA1 : Below w.heap.size w w1 := (by repeat' (first | with_reducible exact Below.refl _ _ | with_reducible refine Below.drew ?_ | with_reducible refine below_drewN ?_ _ | with_reducible refine Below.setCell ?_ ?_ _ | with_reducible refine Below.alloc ?_ ?_ _ | with_reducible refine below_setRow ?_ ?_ _ | with_reducible refine Below.trans ?_ (hb1.mono ?_) | omega | (simp; done) | (simp; omega)))
  have hz1 : w.heap.size + 2 ≤ w1.heap.size := by simpa using hb1.size
  have s1_a : w.heap.size < w1.heap.size := by omega
  have c1_a_0 : w1.cell? ⟨w.heap.size, 0, none⟩ = some (.int .u64 a0) := (hb1.cell (p := ⟨w.heap.size, 0, none⟩) (by first | (simp; done) | (simp; omega))).trans (by simp [go_sem])
  have c1_a_1 : w1.cell? ⟨w.heap.size, 1, none⟩ = some (.int .u64 a1) := (hb1.cell (p := ⟨w.heap.size, 1, none⟩) (by first | (simp; done) | (simp; omega))).trans (by simp [go_sem])
  have c1_a_2 : w1.cell? ⟨w.heap.size, 2, none⟩ = some (.int .u64 a2) := (hb1.cell (p := ⟨w.heap.size, 2, none⟩) (by first | (simp; done) | (simp; omega))).trans (by simp [go_sem])
  have s1_b : w.heap.size + 1 < w1.heap.size := by omega
  have c1_b_0 : w1.cell? ⟨w.heap.size + 1, 0, none⟩ = some (.int .u64 b0) := (hb1.cell (p := ⟨w.heap.size + 1, 0, none⟩) (by first | (simp; done) | (simp; omega))).trans (by simp [go_sem])
  have c1_b_1 : w1.cell? ⟨w.heap.size + 1, 1, none⟩ = some (.int .u64 b1) := (hb1.cell (p := ⟨w.heap.size + 1, 1, none⟩) (by first | (simp; done) | (simp; omega))).trans (by simp [go_sem])
  have c1_b_2 : w1.cell? ⟨w.heap.size + 1, 2, none⟩ = some (.int .u64 b2) := (hb1.cell (p := ⟨w.heap.size + 1, 2, none⟩) (by first | (simp; done) | (simp; omega))).trans (by simp [go_sem])
  have ba1 : w1.heap[w.heap.size]? = some (.cells #[.int .u64 a0, .int .u64 a1, .int .u64 a2] 24 (0, 0)) := (hb1.block _ (by simp; omega)).trans ((Below.heap_alloc _ _ _ (by simp)).trans (_root_.Go.heap_alloc_new w _))
  have bb1 : w1.heap[w.heap.size + 1]? = some (.cells #[.int .u64 b0, .int .u64 b1, .int .u64 b2] 24 (0, 0)) := (hb1.block _ (by simp)).trans (by have := _root_.Go.heap_alloc_new (w.alloc (.cells #[.int .u64 a0, .int .u64 a1, .int .u64 a2] 24)) (.cells #[.int .u64 b0, .int .u64 b1, .int .u64 b2] 24); simpa using this)
  clear hb1
  go_wp2_with fail
  refine wp_region_lays 6 (fun i => if i = 4 ∨ i = 5 then some (.cells (bv fun _ => false) 27) else none) (by kernel_rfl) (by kernel_rfl) ?_ ?_ ?_
  · intro i o ob ho hi
    have : i = 4 ∨ i = 5 := Classical.byContradiction fun h => (by simp [h] at hi)
    rcases this with rfl | rfl
    all_goals
      simp at ho hi
      subst ho hi
      exact ⟨rfl, fun a w => lay27 _ _ rfl w⟩
  · intro i j hij hj hi
    have : i = 4 ∨ i = 5 := Classical.byContradiction fun h => (by simp [h] at hi)
    have : j = 4 ∨ j = 5 := by omega
    simp [this]
  refine headL_firm _ rfl rfl rfl (firm_load _ rfl rfl ba1 (fun w h => run_loadVar_row w _ 24 24 _ (0, 0) _ h Tryd.underlying24 rfl (info24 _ _ _))) ?_
  simp only [Act.put, List.getElem_toArray, List.getElem_cons_zero, List.setIfInBounds_toArray, List.set_cons_succ, List.set_cons_zero, Nat.zero_add]
  refine headL_firm (.agg (bv x.testBit)) rfl rfl rfl (firm_call (f := 11) (args := #[.agg #[.int .u64 a0, .int .u64 a1, .int .u64 a2]]) (fun w => run_call1 (f := 11) (x := .tmp 17) (u := .agg #[.int .u64 a0, .int .u64 a1, .int .u64 a2]) (ts := #[24]) call11 rfl rfl w) HBa.out) ?_
  simp only [Act.put, List.getElem_toArray, List.getElem_cons_zero, List.getElem_cons_succ, List.setIfInBounds_toArray, List.set_cons_succ, List.set_cons_zero, Nat.reduceAdd]
  refine headL_firm _ rfl rfl rfl (firm_load _ rfl rfl bb1 (fun w h => run_loadVar_row w _ 24 24 _ (0, 0) _ h Tryd.underlying24 rfl (info24 _ _ _))) ?_
  simp only [Act.put, List.getElem_toArray, List.getElem_cons_zero, List.getElem_cons_succ, List.setIfInBounds_toArray, List.set_cons_succ, List.set_cons_zero, Nat.reduceAdd]
  refine headL_firm (.agg (bv y.testBit)) rfl rfl rfl (firm_call (f := 11) (args := #[.agg #[.int .u64 b0, .int .u64 b1, .int .u64 b2]]) (fun w => run_call1 (f := 11) (x := .tmp 19) (u := .agg #[.int .u64 b0, .int .u64 b1, .int .u64 b2]) (ts := #[24]) call11 rfl rfl w) HBb.out) ?_
  simp only [Act.put, List.getElem_toArray, List.getElem_cons_zero, List.getElem_cons_succ, List.setIfInBounds_toArray, List.set_cons_succ, List.set_cons_zero, Nat.reduceAdd]
  refine headL_lay _ rfl rfl ?_
  intro gx hgx _
  simp only [Act.put, ptr, List.getElem_toArray, List.getElem_cons_zero, List.getElem_cons_succ, List.setIfInBounds_toArray, List.set_cons_succ, List.set_cons_zero, Nat.reduceAdd]
  refine headL_lay _ rfl rfl ?_
  intro gy hgy hne
  simp only [Act.put, ptr, List.getElem_toArray, List.getElem_cons_zero, List.getElem_cons_succ, List.setIfInBounds_toArray, List.set_cons_succ, List.set_cons_zero, Nat.reduceAdd]
  intro v2 hOk
  have hne' : gy ≠ gx := fun e => by simp [upd, e] at hne
  have hX : Blk v2 gx (fun _ => false) := hOk.2 gx _ (by simp [upd, Ne.symm hne'])
  have hY : Blk v2 gy (fun _ => false) := hOk.2 gy _ (by simp [upd])
  have hC : Below w1.heap.size w1 v2 := hOk.1
  clear hOk hne
  have hX1 : Blk (v2.setRow gx (bv x.testBit)) gx x.testBit := hX.row
  have hY1 : Blk (v2.setRow gx (bv x.testBit)) gy (fun _ => false) := (setRow_other v2 _ _ _ hne').trans hY
  simp only [List.drop]
  refine wpList_plain rfl fun _ hK => wp_store_row 27 _ _ rfl gx (bv x.testBit) rfl rfl 27 _ hX (info27 _) (by rw [bv_size, bv_size]) (bv_one _) (hK _ _ ?_)
  refine wpList_plain rfl fun _ hK => wp_store_row 27 _ _ rfl gy (bv y.testBit) rfl rfl 27 _ hY1 (info27 _) (by rw [bv_size, bv_size]) (bv_one _) (hK _ _ ?_)
  obtain ⟨w2, hw2⟩ : ∃ w2, w2 = (v2.setRow gx (bv x.testBit)).setRow gy (bv y.testBit) := ⟨_, rfl⟩
  rw [← hw2]
  have hA2 : Below w1.heap.size w1 w2 := by rw [hw2]; exact below_setRow (below_setRow hC hgx _) hgy _
  have B2_x : Blk w2 gx x.testBit := by rw [hw2]; exact (setRow_other _ _ _ _ (Ne.symm hne')).trans hX1
  have B2_y : Blk w2 gy y.testBit := by rw [hw2]; exact hY1.row
  have hz2 : w1.heap.size ≤ w2.heap.size := hA2.size
  clear hw2 hX hY hX1 hY1 hC ba1 bb1
  have s2_a : w.heap.size < w2.heap.size := by omega
  have c2_a_0 : w2.cell? ⟨w.heap.size, 0, none⟩ = some (.int .u64 a0) := (hA2.cell (p := ⟨w.heap.size, 0, none⟩) s1_a).trans c1_a_0
  have c2_a_1 : w2.cell? ⟨w.heap.size, 1, none⟩ = some (.int .u64 a1) := (hA2.cell (p := ⟨w.heap.size, 1, none⟩) s1_a).trans c1_a_1
  have c2_a_2 : w2.cell? ⟨w.heap.size, 2, none⟩ = some (.int .u64 a2) := (hA2.cell (p := ⟨w.heap.size, 2, none⟩) s1_a).trans c1_a_2
  have s2_b : w.heap.size + 1 < w2.heap.size := by omega
  have c2_b_0 : w2.cell? ⟨w.heap.size + 1, 0, none⟩ = some (.int .u64 b0) := (hA2.cell (p := ⟨w.heap.size + 1, 0, none⟩) s1_b).trans c1_b_0
  have c2_b_1 : w2.cell? ⟨w.heap.size + 1, 1, none⟩ = some (.int .u64 b1) := (hA2.cell (p := ⟨w.heap.size + 1, 1, none⟩) s1_b).trans c1_b_1
  have c2_b_2 : w2.cell? ⟨w.heap.size + 1, 2, none⟩ = some (.int .u64 b2) := (hA2.cell (p := ⟨w.heap.size + 1, 2, none⟩) s1_b).trans c1_b_2
  clear s1_a c1_a_0 c1_a_1 c1_a_2 s1_b c1_b_0 c1_b_1 c1_b_2
  go_wp2_with (first | (refine wpList_load_row rfl 27 _ rfl _ rfl 27 _ (0, 0) _ B2_x Tryd.underlying27 rfl (info27 _) ?_) | (refine wpList_load_row rfl 27 _ rfl _ rfl 27 _ (0, 0) _ B2_y Tryd.underlying27 rfl (info27 _) ?_))
  refine (sum_any x y _).mono ?_
  rintro e w3 ⟨rfl, hb3⟩
  have hA3 : Below w2.heap.size w2 w3 := (by repeat' (first | with_reducible exact Below.refl _ _ | with_reducible refine Below.drew ?_ | with_reducible refine below_drewN ?_ _ | with_reducible refine Below.setCell ?_ ?_ _ | with_reducible refine Below.alloc ?_ ?_ _ | with_reducible refine below_setRow ?_ ?_ _ | with_reducible refine Below.trans ?_ (hb3.mono ?_) | omega | (simp; done) | (simp; omega)))
  have hz3 : w2.heap.size + 0 ≤ w3.heap.size := by simpa using hb3.size
  have s3_a : w.heap.size < w3.heap.size := by omega
  have c3_a_0 : w3.cell? ⟨w.heap.size, 0, none⟩ = some (.int .u64 a0) := (hA3.cell (p := ⟨w.heap.size, 0, none⟩) s2_a).trans c2_a_0
  have c3_a_1 : w3.cell? ⟨w.heap.size, 1, none⟩ = some (.int .u64 a1) := (hA3.cell (p := ⟨w.heap.size, 1, none⟩) s2_a).trans c2_a_1
  have c3_a_2 : w3.cell? ⟨w.heap.size, 2, none⟩ = some (.int .u64 a2) := (hA3.cell (p := ⟨w.heap.size, 2, none⟩) s2_a).trans c2_a_2
  have s3_b : w.heap.size + 1 < w3.heap.size := by omega
  have c3_b_0 : w3.cell? ⟨w.heap.size + 1, 0, none⟩ = some (.int .u64 b0) := (hA3.cell (p := ⟨w.heap.size + 1, 0, none⟩) s2_b).trans c2_b_0
  have c3_b_1 : w3.cell? ⟨w.heap.size + 1, 1, none⟩ = some (.int .u64 b1) := (hA3.cell (p := ⟨w.heap.size + 1, 1, none⟩) s2_b).trans c2_b_1
  have c3_b_2 : w3.cell? ⟨w.heap.size + 1, 2, none⟩ = some (.int .u64 b2) := (hA3.cell (p := ⟨w.heap.size + 1, 2, none⟩) s2_b).trans c2_b_2
  have B3_x : Blk w3 gx x.testBit := B2_x.below hA3 B2_x.lt
  have B3_y : Blk w3 gy y.testBit := B2_y.below hA3 B2_y.lt
  clear c2_a_0 c2_a_1 c2_a_2 s2_a c2_b_0 c2_b_1 c2_b_2 s2_b B2_x B2_y
  have hS : Blk (w3.alloc (.cells Tryd.zeroCells27 27)) w3.heap.size (fun _ => false) := by rw [zero_bv]; exact Blk.new w3 _
  have hE : Below w3.heap.size w3 ((w3.alloc (.cells Tryd.zeroCells27 27)).setRow w3.heap.size (bv (x + y).testBit)) := below_setRow ((Below.refl _ _).alloc (Nat.le_refl _) _) (Nat.le_refl _) _
  have hES : Blk ((w3.alloc (.cells Tryd.zeroCells27 27)).setRow w3.heap.size (bv (x + y).testBit)) w3.heap.size (x + y).testBit := hS.row
  have e3_a_0 : ((w3.alloc (.cells Tryd.zeroCells27 27)).setRow w3.heap.size (bv (x + y).testBit)).cell? ⟨w.heap.size, 0, none⟩ = some (.int .u64 a0) := (hE.cell (p := ⟨w.heap.size, 0, none⟩) s3_a).trans c3_a_0
  have e3_a_1 : ((w3.alloc (.cells Tryd.zeroCells27 27)).setRow w3.heap.size (bv (x + y).testBit)).cell? ⟨w.heap.size, 1, none⟩ = some (.int .u64 a1) := (hE.cell (p := ⟨w.heap.size, 1, none⟩) s3_a).trans c3_a_1
  have e3_a_2 : ((w3.alloc (.cells Tryd.zeroCells27 27)).setRow w3.heap.size (bv (x + y).testBit)).cell? ⟨w.heap.size, 2, none⟩ = some (.int .u64 a2) := (hE.cell (p := ⟨w.heap.size, 2, none⟩) s3_a).trans c3_a_2
  have e3_b_0 : ((w3.alloc (.cells Tryd.zeroCells27 27)).setRow w3.heap.size (bv (x + y).testBit)).cell? ⟨w.heap.size + 1, 0, none⟩ = some (.int .u64 b0) := (hE.cell (p := ⟨w.heap.size + 1, 0, none⟩) s3_b).trans c3_b_0
  have e3_b_1 : ((w3.alloc (.cells Tryd.zeroCells27 27)).setRow w3.heap.size (bv (x + y).testBit)).cell? ⟨w.heap.size + 1, 1, none⟩ = some (.int .u64 b1) := (hE.cell (p := ⟨w.heap.size + 1, 1, none⟩) s3_b).trans c3_b_1
  have e3_b_2 : ((w3.alloc (.cells Tryd.zeroCells27 27)).setRow w3.heap.size (bv (x + y).testBit)).cell? ⟨w.heap.size + 1, 2, none⟩ = some (.int .u64 b2) := (hE.cell (p := ⟨w.heap.size + 1, 2, none⟩) s3_b).trans c3_b_2
  go_wp2_with (first | (refine wpList_plain rfl fun _ hK => wp_store_row 27 _ _ rfl _ _ rfl rfl 27 _ hS (info27 _) (by rw [bv_size, bv_size]) (bv_one _) (hK _ _ ?_)))
  refine (HAdd.out _).mono ?_
  rintro e w4 ⟨rfl, hb4⟩
  have hA4 : Below w3.heap.size w3 w4 := (by repeat' (first | with_reducible exact Below.refl _ _ | with_reducible refine Below.drew ?_ | with_reducible refine below_drewN ?_ _ | with_reducible refine Below.setCell ?_ ?_ _ | with_reducible refine Below.alloc ?_ ?_ _ | with_reducible refine below_setRow ?_ ?_ _ | with_reducible refine Below.trans ?_ (hb4.mono ?_) | omega | (simp; done) | (simp; omega)))
  have hz4 : w3.heap.size + 1 ≤ w4.heap.size := by simpa using hb4.size
  have s4_a : w.heap.size < w4.heap.size := by omega
  have c4_a_0 : w4.cell? ⟨w.heap.size, 0, none⟩ = some (.int .u64 a0) := (hA4.cell (p := ⟨w.heap.size, 0, none⟩) s3_a).trans c3_a_0
  have c4_a_1 : w4.cell? ⟨w.heap.size, 1, none⟩ = some (.int .u64 a1) := (hA4.cell (p := ⟨w.heap.size, 1, none⟩) s3_a).trans c3_a_1
  have c4_a_2 : w4.cell? ⟨w.heap.size, 2, none⟩ = some (.int .u64 a2) := (hA4.cell (p := ⟨w.heap.size, 2, none⟩) s3_a).trans c3_a_2
  have s4_b : w.heap.size + 1 < w4.heap.size := by omega
  have c4_b_0 : w4.cell? ⟨w.heap.size + 1, 0, none⟩ = some (.int .u64 b0) := (hA4.cell (p := ⟨w.heap.size + 1, 0, none⟩) s3_b).trans c3_b_0
  have c4_b_1 : w4.cell? ⟨w.heap.size + 1, 1, none⟩ = some (.int .u64 b1) := (hA4.cell (p := ⟨w.heap.size + 1, 1, none⟩) s3_b).trans c3_b_1
  have c4_b_2 : w4.cell? ⟨w.heap.size + 1, 2, none⟩ = some (.int .u64 b2) := (hA4.cell (p := ⟨w.heap.size + 1, 2, none⟩) s3_b).trans c3_b_2
  have B4_x : Blk w4 gx x.testBit := B3_x.below hA4 B3_x.lt
  have B4_y : Blk w4 gy y.testBit := B3_y.below hA4 B3_y.lt
  have B4_s : Blk w4 w3.heap.size (x + y).testBit := hES.below hb4 hES.lt
  clear c3_a_0 c3_a_1 c3_a_2 s3_a c3_b_0 c3_b_1 c3_b_2 s3_b B3_x B3_y
  clear hS hE hES e3_a_0 e3_a_1 e3_a_2 e3_b_0 e3_b_1 e3_b_2
  go_wp2_with fail
  refine (HSub.out _).mono ?_
  rintro e w5 ⟨rfl, hb5⟩
  have hA5 : Below w4.heap.size w4 w5 := (by repeat' (first | with_reducible exact Below.refl _ _ | with_reducible refine Below.drew ?_ | with_reducible refine below_drewN ?_ _ | with_reducible refine Below.setCell ?_ ?_ _ | with_reducible refine Below.alloc ?_ ?_ _ | with_reducible refine below_setRow ?_ ?_ _ | with_reducible refine Below.trans ?_ (hb5.mono ?_) | omega | (simp; done) | (simp; omega)))
  have hz5 : w4.heap.size + 1 ≤ w5.heap.size := by simpa using hb5.size
  have s5_a : w.heap.size < w5.heap.size := by omega
  have c5_a_0 : w5.cell? ⟨w.heap.size, 0, none⟩ = some (.int .u64 a0) := (hA5.cell (p := ⟨w.heap.size, 0, none⟩) s4_a).trans c4_a_0
  have c5_a_1 : w5.cell? ⟨w.heap.size, 1, none⟩ = some (.int .u64 a1) := (hA5.cell (p := ⟨w.heap.size, 1, none⟩) s4_a).trans c4_a_1
  have c5_a_2 : w5.cell? ⟨w.heap.size, 2, none⟩ = some (.int .u64 a2) := (hA5.cell (p := ⟨w.heap.size, 2, none⟩) s4_a).trans c4_a_2
  have s5_b : w.heap.size + 1 < w5.heap.size := by omega
  have c5_b_0 : w5.cell? ⟨w.heap.size + 1, 0, none⟩ = some (.int .u64 b0) := (hA5.cell (p := ⟨w.heap.size + 1, 0, none⟩) s4_b).trans c4_b_0
  have c5_b_1 : w5.cell? ⟨w.heap.size + 1, 1, none⟩ = some (.int .u64 b1) := (hA5.cell (p := ⟨w.heap.size + 1, 1, none⟩) s4_b).trans c4_b_1
  have c5_b_2 : w5.cell? ⟨w.heap.size + 1, 2, none⟩ = some (.int .u64 b2) := (hA5.cell (p := ⟨w.heap.size + 1, 2, none⟩) s4_b).trans c4_b_2
  have s5_sm : w4.heap.size < w5.heap.size := by omega
  have c5_sm_0 : w5.cell? ⟨w4.heap.size, 0, none⟩ = some (.int .u64 (wrd (x + y) 0)) := (hb5.cell (p := ⟨w4.heap.size, 0, none⟩) (by first | (simp; done) | (simp; omega))).trans (by simp [go_sem])
  have c5_sm_1 : w5.cell? ⟨w4.heap.size, 1, none⟩ = some (.int .u64 (wrd (x + y) 64)) := (hb5.cell (p := ⟨w4.heap.size, 1, none⟩) (by first | (simp; done) | (simp; omega))).trans (by simp [go_sem])
  have c5_sm_2 : w5.cell? ⟨w4.heap.size, 2, none⟩ = some (.int .u64 (wrd (x + y) 128)) := (hb5.cell (p := ⟨w4.heap.size, 2, none⟩) (by first | (simp; done) | (simp; omega))).trans (by simp [go_sem])
  have B5_x : Blk w5 gx x.testBit := B4_x.below hA5 B4_x.lt
  have B5_y : Blk w5 gy y.testBit := B4_y.below hA5 B4_y.lt
  have B5_s : Blk w5 w3.heap.size (x + y).testBit := B4_s.below hA5 B4_s.lt
  clear c4_a_0 c4_a_1 c4_a_2 s4_a c4_b_0 c4_b_1 c4_b_2 s4_b B4_x B4_y B4_s
  go_wp2_with fail
  obtain ⟨w6, hw6⟩ : ∃ w6, w6 = (w5.alloc (.cells #[.int .u64 (wrd (x + z) 0), .int .u64 (wrd (x + z) 64), .int .u64 (wrd (x + z) 128)] 24)) := ⟨_, rfl⟩
  rw [← hw6]
  have hA6 : Below w5.heap.size w5 w6 := by rw [hw6]; exact (Below.refl _ _).alloc (Nat.le_refl _) _
  have s6_a : w.heap.size < w6.heap.size := Nat.lt_of_lt_of_le s5_a hA6.size
  have c6_a_0 : w6.cell? ⟨w.heap.size, 0, none⟩ = some (.int .u64 a0) := (hA6.cell (p := ⟨w.heap.size, 0, none⟩) s5_a).trans c5_a_0
  have c6_a_1 : w6.cell? ⟨w.heap.size, 1, none⟩ = some (.int .u64 a1) := (hA6.cell (p := ⟨w.heap.size, 1, none⟩) s5_a).trans c5_a_1
  have c6_a_2 : w6.cell? ⟨w.heap.size, 2, none⟩ = some (.int .u64 a2) := (hA6.cell (p := ⟨w.heap.size, 2, none⟩) s5_a).trans c5_a_2
  have s6_b : w.heap.size + 1 < w6.heap.size := Nat.lt_of_lt_of_le s5_b hA6.size
  have c6_b_0 : w6.cell? ⟨w.heap.size + 1, 0, none⟩ = some (.int .u64 b0) := (hA6.cell (p := ⟨w.heap.size + 1, 0, none⟩) s5_b).trans c5_b_0
  have c6_b_1 : w6.cell? ⟨w.heap.size + 1, 1, none⟩ = some (.int .u64 b1) := (hA6.cell (p := ⟨w.heap.size + 1, 1, none⟩) s5_b).trans c5_b_1
  have c6_b_2 : w6.cell? ⟨w.heap.size + 1, 2, none⟩ = some (.int .u64 b2) := (hA6.cell (p := ⟨w.heap.size + 1, 2, none⟩) s5_b).trans c5_b_2
  have s6_sm : w4.heap.size < w6.heap.size := Nat.lt_of_lt_of_le s5_sm hA6.size
  have c6_sm_0 : w6.cell? ⟨w4.heap.size, 0, none⟩ = some (.int .u64 (wrd (x + y) 0)) := (hA6.cell (p := ⟨w4.heap.size, 0, none⟩) s5_sm).trans c5_sm_0
  have c6_sm_1 : w6.cell? ⟨w4.heap.size, 1, none⟩ = some (.int .u64 (wrd (x + y) 64)) := (hA6.cell (p := ⟨w4.heap.size, 1, none⟩) s5_sm).trans c5_sm_1
  have c6_sm_2 : w6.cell? ⟨w4.heap.size, 2, none⟩ = some (.int .u64 (wrd (x + y) 128)) := (hA6.cell (p := ⟨w4.heap.size, 2, none⟩) s5_sm).trans c5_sm_2
  have s6_d : w5.heap.size < w6.heap.size := by rw [hw6]; simp
  have c6_d_0 : w6.cell? ⟨w5.heap.size, 0, none⟩ = some (.int .u64 (wrd (x + z) 0)) := by rw [hw6]; simp [go_sem]
  have c6_d_1 : w6.cell? ⟨w5.heap.size, 1, none⟩ = some (.int .u64 (wrd (x + z) 64)) := by rw [hw6]; simp [go_sem]
  have c6_d_2 : w6.cell? ⟨w5.heap.size, 2, none⟩ = some (.int .u64 (wrd (x + z) 128)) := by rw [hw6]; simp [go_sem]
  have B6_x : Blk w6 gx x.testBit := B5_x.below hA6 B5_x.lt
  have B6_y : Blk w6 gy y.testBit := B5_y.below hA6 B5_y.lt
  have B6_s : Blk w6 w3.heap.size (x + y).testBit := B5_s.below hA6 B5_s.lt
  clear c5_a_0 c5_a_1 c5_a_2 s5_a c5_b_0 c5_b_1 c5_b_2 s5_b c5_sm_0 c5_sm_1 c5_sm_2 s5_sm B5_x B5_y B5_s
  clear hw6
  refine wp_region_quiet_below (by kernel_rfl) (by kernel_rfl) ?_
  refine wpQuiet_bits _ rfl rfl rfl (blk_regrown B6_x) ?_
  simp only [Act.put, List.setIfInBounds_toArray, List.set_cons_zero, List.set_cons_succ]
  refine wpQuiet_bits _ rfl rfl rfl (blk_regrown B6_y) ?_
  simp only [Act.put, List.setIfInBounds_toArray, List.set_cons_zero, List.set_cons_succ]
  go_big_quiet_step ((exact Calls.regrown_of (HLt.out _)))
  refine wpQuiet_bits _ rfl rfl rfl (blk_regrown B6_y) ?_
  simp only [Act.put, List.setIfInBounds_toArray, List.set_cons_zero, List.set_cons_succ]
  refine wpQuiet_bits _ rfl rfl rfl (blk_regrown B6_x) ?_
  simp only [Act.put, List.setIfInBounds_toArray, List.set_cons_zero, List.set_cons_succ]
  go_big_quiet_step ((exact Calls.regrown_of (HGt.out _)))
  go_big_quiet_step (fail)
  go_big_quiet_step (fail)
  refine wpQuiet_nil ?_
  rintro _ ⟨⟨dq, osq⟩, rfl⟩
  have hq7 := below_regrown w6 dq osq
  generalize Sort.grow (redrawn w6 dq) osq = w7 at hq7 ⊢
  have hA7 : Below w6.heap.size w6 w7 := hq7
  have hz7 : w6.heap.size + 0 ≤ w7.heap.size := by have := hA7.size; omega
  have s7_a : w.heap.size < w7.heap.size := Nat.lt_of_lt_of_le s6_a hA7.size
  have c7_a_0 : w7.cell? ⟨w.heap.size, 0, none⟩ = some (.int .u64 a0) := (hA7.cell (p := ⟨w.heap.size, 0, none⟩) s6_a).trans c6_a_0
  have c7_a_1 : w7.cell? ⟨w.heap.size, 1, none⟩ = some (.int .u64 a1) := (hA7.cell (p := ⟨w.heap.size, 1, none⟩) s6_a).trans c6_a_1
  have c7_a_2 : w7.cell? ⟨w.heap.size, 2, none⟩ = some (.int .u64 a2) := (hA7.cell (p := ⟨w.heap.size, 2, none⟩) s6_a).trans c6_a_2
  have s7_b : w.heap.size + 1 < w7.heap.size := Nat.lt_of_lt_of_le s6_b hA7.size
  have c7_b_0 : w7.cell? ⟨w.heap.size + 1, 0, none⟩ = some (.int .u64 b0) := (hA7.cell (p := ⟨w.heap.size + 1, 0, none⟩) s6_b).trans c6_b_0
  have c7_b_1 : w7.cell? ⟨w.heap.size + 1, 1, none⟩ = some (.int .u64 b1) := (hA7.cell (p := ⟨w.heap.size + 1, 1, none⟩) s6_b).trans c6_b_1
  have c7_b_2 : w7.cell? ⟨w.heap.size + 1, 2, none⟩ = some (.int .u64 b2) := (hA7.cell (p := ⟨w.heap.size + 1, 2, none⟩) s6_b).trans c6_b_2
  have s7_sm : w4.heap.size < w7.heap.size := Nat.lt_of_lt_of_le s6_sm hA7.size
  have c7_sm_0 : w7.cell? ⟨w4.heap.size, 0, none⟩ = some (.int .u64 (wrd (x + y) 0)) := (hA7.cell (p := ⟨w4.heap.size, 0, none⟩) s6_sm).trans c6_sm_0
  have c7_sm_1 : w7.cell? ⟨w4.heap.size, 1, none⟩ = some (.int .u64 (wrd (x + y) 64)) := (hA7.cell (p := ⟨w4.heap.size, 1, none⟩) s6_sm).trans c6_sm_1
  have c7_sm_2 : w7.cell? ⟨w4.heap.size, 2, none⟩ = some (.int .u64 (wrd (x + y) 128)) := (hA7.cell (p := ⟨w4.heap.size, 2, none⟩) s6_sm).trans c6_sm_2
  have s7_d : w5.heap.size < w7.heap.size := Nat.lt_of_lt_of_le s6_d hA7.size
  have c7_d_0 : w7.cell? ⟨w5.heap.size, 0, none⟩ = some (.int .u64 (wrd (x + z) 0)) := (hA7.cell (p := ⟨w5.heap.size, 0, none⟩) s6_d).trans c6_d_0
  have c7_d_1 : w7.cell? ⟨w5.heap.size, 1, none⟩ = some (.int .u64 (wrd (x + z) 64)) := (hA7.cell (p := ⟨w5.heap.size, 1, none⟩) s6_d).trans c6_d_1
  have c7_d_2 : w7.cell? ⟨w5.heap.size, 2, none⟩ = some (.int .u64 (wrd (x + z) 128)) := (hA7.cell (p := ⟨w5.heap.size, 2, none⟩) s6_d).trans c6_d_2
  have B7_x : Blk w7 gx x.testBit := B6_x.below hA7 B6_x.lt
  have B7_y : Blk w7 gy y.testBit := B6_y.below hA7 B6_y.lt
  have B7_s : Blk w7 w3.heap.size (x + y).testBit := B6_s.below hA7 B6_s.lt
  clear c6_a_0 c6_a_1 c6_a_2 s6_a c6_b_0 c6_b_1 c6_b_2 s6_b c6_sm_0 c6_sm_1 c6_sm_2 s6_sm c6_d_0 c6_d_1 c6_d_2 s6_d B6_x B6_y B6_s
  have hBz : Below w.heap.size w w7 := by
    have z1 := hA1.size
    have z2 := hA2.size
    have z3 := hA3.size
    have z4 := hA4.size
    have z5 := hA5.size
    have z6 := hA6.size
    exact hA1.trans ((hA2.mono (by omega)).trans ((hA3.mono (by omega)).trans ((hA4.mono (by omega)).trans ((hA5.mono (by omega)).trans ((hA6.mono (by omega)).trans (hA7.mono (by omega)))))))
  cases lt
  all_goals cases gt
  all_goals
    have hw := hwant.out
    simp only [Bool.false_eq_true, if_false, if_true] at hw
    subst hw
    clear hwant
  all_goals
    go_wp2_with fail
    have k_a_0 := cell_regrown c7_a_0
    have k_a_1 := cell_regrown c7_a_1
    have k_a_2 := cell_regrown c7_a_2
    have k_b_0 := cell_regrown c7_b_0
    have k_b_1 := cell_regrown c7_b_1
    have k_b_2 := cell_regrown c7_b_2
    have k_sm_0 := cell_regrown c7_sm_0
    have k_sm_1 := cell_regrown c7_sm_1
    have k_sm_2 := cell_regrown c7_sm_2
    have k_d_0 := cell_regrown c7_d_0
    have k_d_1 := cell_regrown c7_d_1
    have k_d_2 := cell_regrown c7_d_2
    have k_s := cell_regrown (B7_s.cell 192 (by omega))
    refine wp_region_quiet_below (by kernel_rfl) (by kernel_rfl) ?_
    go_big_quiet_step (fail)
    refine wpQuiet_bits _ rfl rfl rfl (blk_regrown B7_s) ?_
    simp only [Act.put, List.setIfInBounds_toArray, List.set_cons_zero, List.set_cons_succ]
    go_big_quiet_step ((exact Calls.regrown_of (whole_any _ _)))
    go_big_quiet_step (fail)
    go_big_quiet_step (fail)
    go_big_quiet_step (fail)
    go_big_quiet_step (fail)
    go_big_quiet_step (fail)
    go_big_quiet_step (fail)
    go_big_quiet_step (fail)
    go_big_quiet_step (fail)
    go_big_quiet_step (fail)
    refine wpQuiet_bitsG _ rfl rfl rfl (blk_regrown B7_x) ?_
    simp only [Act.put, List.setIfInBounds_toArray, List.set_cons_zero, List.set_cons_succ]
    refine wpQuiet_bitsG _ rfl rfl rfl (blk_regrown B7_y) ?_
    simp only [Act.put, List.setIfInBounds_toArray, List.set_cons_zero, List.set_cons_succ]
    go_big_quiet_step ((exact Calls.regrown_of (HTurn.out _)))
    go_big_quiet_step ((exact Calls.regrown_of (sum_any x z _)))
    go_big_quiet_step ((exact Calls.regrown_of (whole_any _ _)))
    go_big_quiet_step (fail)
    go_big_quiet_step (fail)
    go_big_quiet_step (fail)
    go_big_quiet_step (fail)
    go_big_quiet_step (fail)
    go_big_quiet_step (fail)
    go_big_quiet_step (fail)
    go_big_quiet_step (fail)
    go_big_quiet_step (fail)
    go_big_quiet_step ((exact Calls.regrown_of (HNeg.out _)))
    refine wpQuiet_bitsG _ rfl rfl rfl (blk_regrown B7_y) ?_
    simp only [Act.put, List.setIfInBounds_toArray, List.set_cons_zero, List.set_cons_succ]
    go_big_quiet_step ((exact Calls.regrown_of (HTurn.out _)))
    go_big_quiet_step ((exact Calls.regrown_of (whole_any _ _)))
    go_big_quiet_step (fail)
    go_big_quiet_step (fail)
    go_big_quiet_step (fail)
    go_big_quiet_step (fail)
    go_big_quiet_step (fail)
    go_big_quiet_step ((exact Calls.regrown_of (HCmp.out _)))
    go_big_quiet_step (fail)
    go_big_quiet_step (fail)
    go_big_quiet_step (fail)
    go_big_quiet_step (fail)
    refine wpQuiet_nil ?_
    rintro _ ⟨⟨dr, osr⟩, rfl⟩
    have hq8 := below_regrown w7 dr osr
    generalize Sort.grow (redrawn w7 dr) osr = w8 at hq8 ⊢
    go_wp2
    go_ret
    exact ⟨rfl, hBz.trans (hq8.mono hBz.size)⟩

/-- THE WALK of LimbsAdds. -/
theorem adds_any (a0 a1 a2 b0 b1 b2 : Int) (ka0 : Wd a0) (ka1 : Wd a1) (ka2 : Wd a2) (kb0 : Wd b0) (kb1 : Wd b1) (kb2 : Wd b2) (w : World) (htab : Tab w) :
    Calls Tryd.prog 3 #[.agg #[.int .u64 a0, .int .u64 a1, .int .u64 a2], .agg #[.int .u64 b0, .int .u64 b1, .int .u64 b2]] w fun e w' => e = .returned (.bool true) ∧ Below w.heap.size w w' := by
  have hx := nat3_lt a0 a1 a2 ka0 ka1 ka2
  have hy := nat3_lt b0 b1 b2 kb0 kb1 kb2
  have h256 : (2 : Nat) ^ 192 < 2 ^ 256 := by decide
  refine adds_walk a0 a1 a2 b0 b1 b2 (nat3 a0 a1 a2) (nat3 b0 b1 b2) ((2 ^ 192 - nat3 b0 b1 b2) % 2 ^ 192) (decide (nat3 a0 a1 a2 < nat3 b0 b1 b2)) (decide (nat3 b0 b1 b2 < nat3 a0 a1 a2)) (if nat3 a0 a1 a2 < nat3 b0 b1 b2 then -1 else if nat3 b0 b1 b2 < nat3 a0 a1 a2 then 1 else 0)
    (fun w => bit_any a0 a1 a2 ka0 ka1 ka2 w) (fun w => bit_any b0 b1 b2 kb0 kb1 kb2 w) (fun w => add_bits a0 a1 a2 b0 b1 b2 ka0 ka1 ka2 kb0 kb1 kb2 w) (fun w => sub_bits a0 a1 a2 b0 b1 b2 ka0 ka1 ka2 kb0 kb1 kb2 w)
    (fun w => neg_bits b0 b1 b2 kb0 kb1 kb2 w) (fun w => turn_any _ hy w) (fun w => less_any _ _ (Nat.lt_trans hx h256) (Nat.lt_trans hy h256) w) (fun w => less_any _ _ (Nat.lt_trans hy h256) (Nat.lt_trans hx h256) w)
    (fun w => cmp_bits a0 a1 a2 b0 b1 b2 ka0 ka1 ka2 kb0 kb1 kb2 w) ?_ w htab
  show _ = _
  simp only [decide_eq_true_eq]
  split <;> split <;> (try split) <;> first | rfl | omega
end Go.Proofs.YtlgadaojekcjeaaDoor

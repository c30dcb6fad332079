/-
  The walk of the statement LimbsScales.
-/
import Derived.Test.YtlgadaojekcjeaaDoorAlive
import Derived.Test.YtlgadaojekcjeaaDoorScalesP
import Derived.Test.YtlgadaojekcjeaaDoorBProd
namespace Go.Proofs.YtlgadaojekcjeaaDoor
open Go.RowKit

attribute [local go_sem] eq24 guard24 eq23 guard23
set_option maxHeartbeats 4000000 in
set_option maxRecDepth 100000 in
theorem scales_walk (a0 a1 a2 k m r : Int) (x p q : Nat) (y : Nat)
    (HBa : Hid (∀ w, Calls Tryd.prog 11 #[.agg #[.int .u64 a0, .int .u64 a1, .int .u64 a2]] w fun e w' => e = .returned (.agg (bv x.testBit)) ∧ Below w.heap.size w w'))
    (HB0 : Hid (∀ w, Calls Tryd.prog 11 #[.agg #[.int .u64 a0, .int .u64 0, .int .u64 0]] w fun e w' => e = .returned (.agg (bv y.testBit)) ∧ Below w.heap.size w w'))
    (HPx : Hid (∀ w, Calls Tryd.prog 20 #[.agg (bv x.testBit), .int .u64 k] w fun e w' => e = .returned (.agg (bv p.testBit)) ∧ Below w.heap.size w w'))
    (HPy : Hid (∀ w, Calls Tryd.prog 20 #[.agg (bv y.testBit), .int .u64 k] w fun e w' => e = .returned (.agg (bv q.testBit)) ∧ Below w.heap.size w w'))
    (HSc : Hid (∀ w, Calls Tryd.prog 21 #[.agg #[.int .u64 a0, .int .u64 a1, .int .u64 a2], .int .u64 k] w fun e w' => e = .returned (.tuple #[.agg #[.int .u64 (wrd (p) 0), .int .u64 (wrd (p) 64), .int .u64 (wrd (p) 128)], .int .u64 (wrd p 192)]) ∧ Below w.heap.size w w'))
    (HTi : Hid (∀ w, Calls Tryd.prog 22 #[.int .u64 a0, .int .u64 k] w fun e w' => e = .returned (.tuple #[.int .u64 (wrd q 64), .int .u64 (wrd q 0)]) ∧ Below w.heap.size w w'))
    (HLr : Hid (∀ w, Calls Tryd.prog 24 #[.agg #[.int .u64 a0, .int .u64 a1, .int .u64 a2], .int .u64 m] w fun e w' => e = .returned (.int .u64 r) ∧ Below w.heap.size w w'))
    (HRr : Hid (∀ w, Calls Tryd.prog 25 #[.agg (bv x.testBit), .int .u64 m] w fun e w' => e = .returned (.int .u64 r) ∧ Below w.heap.size w w'))
    (w : World) (htab : Tab w) :
    Calls Tryd.prog 4 #[.agg #[.int .u64 a0, .int .u64 a1, .int .u64 a2], .int .u64 k, .int .u64 m] w fun e w' => e = .returned (.bool true) ∧ Below w.heap.size w w' := by
  have HT : Hid (Tab w) := htab
  clear htab
  go_enter Tryd.func4, Tryd.ntmps4
  go_wp2_with fail
  refine (alive_any _ (by exact tab_below HT.out (by repeat' (first | with_reducible exact Below.refl _ _ | with_reducible refine Below.drew ?_ | with_reducible refine below_drewN ?_ _ | with_reducible refine Below.setCell ?_ ?_ _ | with_reducible refine Below.alloc ?_ ?_ _ | omega | (simp; done) | (simp; omega))))).mono ?_
  rintro e w1 ⟨rfl, hb1⟩
  have hA1 : Below w.heap.size w w1 := (by repeat' (first | with_reducible exact Below.refl _ _ | with_reducible refine Below.drew ?_ | with_reducible refine below_drewN ?_ _ | with_reducible refine Below.setCell ?_ ?_ _ | with_reducible refine Below.alloc ?_ ?_ _ | with_reducible refine below_setRow ?_ ?_ _ | with_reducible refine Below.trans ?_ (hb1.mono ?_) | omega | (simp; done) | (simp; omega)))
  have hz1 : w.heap.size + 1 ≤ w1.heap.size := by simpa using hb1.size
  have s1_a : w.heap.size < w1.heap.size := by omega
  have c1_a_0 : w1.cell? ⟨w.heap.size, 0, none⟩ = some (.int .u64 a0) := (hb1.cell (p := ⟨w.heap.size, 0, none⟩) (by first | (simp; done) | (simp; omega))).trans (by simp [go_sem])
  have c1_a_1 : w1.cell? ⟨w.heap.size, 1, none⟩ = some (.int .u64 a1) := (hb1.cell (p := ⟨w.heap.size, 1, none⟩) (by first | (simp; done) | (simp; omega))).trans (by simp [go_sem])
  have c1_a_2 : w1.cell? ⟨w.heap.size, 2, none⟩ = some (.int .u64 a2) := (hb1.cell (p := ⟨w.heap.size, 2, none⟩) (by first | (simp; done) | (simp; omega))).trans (by simp [go_sem])
  go_wp2_with fail
  refine (HBa.out _).mono ?_
  rintro e w2 ⟨rfl, hb2⟩
  have hA2 : Below w1.heap.size w1 w2 := (by repeat' (first | with_reducible exact Below.refl _ _ | with_reducible refine Below.drew ?_ | with_reducible refine below_drewN ?_ _ | with_reducible refine Below.setCell ?_ ?_ _ | with_reducible refine Below.alloc ?_ ?_ _ | with_reducible refine below_setRow ?_ ?_ _ | with_reducible refine Below.trans ?_ (hb2.mono ?_) | omega | (simp; done) | (simp; omega)))
  have hz2 : w1.heap.size + 0 ≤ w2.heap.size := by simpa using hb2.size
  have s2_a : w.heap.size < w2.heap.size := by omega
  have c2_a_0 : w2.cell? ⟨w.heap.size, 0, none⟩ = some (.int .u64 a0) := (hA2.cell (p := ⟨w.heap.size, 0, none⟩) s1_a).trans c1_a_0
  have c2_a_1 : w2.cell? ⟨w.heap.size, 1, none⟩ = some (.int .u64 a1) := (hA2.cell (p := ⟨w.heap.size, 1, none⟩) s1_a).trans c1_a_1
  have c2_a_2 : w2.cell? ⟨w.heap.size, 2, none⟩ = some (.int .u64 a2) := (hA2.cell (p := ⟨w.heap.size, 2, none⟩) s1_a).trans c1_a_2
  clear c1_a_0 c1_a_1 c1_a_2 s1_a
  go_wp2_with fail
  refine (HPx.out _).mono ?_
  rintro e w3 ⟨rfl, hb3⟩
  have hA3 : Below w2.heap.size w2 w3 := (by repeat' (first | with_reducible exact Below.refl _ _ | with_reducible refine Below.drew ?_ | with_reducible refine below_drewN ?_ _ | with_reducible refine Below.setCell ?_ ?_ _ | with_reducible refine Below.alloc ?_ ?_ _ | with_reducible refine below_setRow ?_ ?_ _ | with_reducible refine Below.trans ?_ (hb3.mono ?_) | omega | (simp; done) | (simp; omega)))
  have hz3 : w2.heap.size + 0 ≤ w3.heap.size := by simpa using hb3.size
  have s3_a : w.heap.size < w3.heap.size := by omega
  have c3_a_0 : w3.cell? ⟨w.heap.size, 0, none⟩ = some (.int .u64 a0) := (hA3.cell (p := ⟨w.heap.size, 0, none⟩) s2_a).trans c2_a_0
  have c3_a_1 : w3.cell? ⟨w.heap.size, 1, none⟩ = some (.int .u64 a1) := (hA3.cell (p := ⟨w.heap.size, 1, none⟩) s2_a).trans c2_a_1
  have c3_a_2 : w3.cell? ⟨w.heap.size, 2, none⟩ = some (.int .u64 a2) := (hA3.cell (p := ⟨w.heap.size, 2, none⟩) s2_a).trans c2_a_2
  clear c2_a_0 c2_a_1 c2_a_2 s2_a
  have hS : Blk (w3.alloc (.cells Tryd.zeroCells27 27)) w3.heap.size (fun _ => false) := by rw [zero_bv]; exact Blk.new w3 _
  have hE : Below w3.heap.size w3 ((w3.alloc (.cells Tryd.zeroCells27 27)).setRow w3.heap.size (bv p.testBit)) := below_setRow ((Below.refl _ _).alloc (Nat.le_refl _) _) (Nat.le_refl _) _
  have hES : Blk ((w3.alloc (.cells Tryd.zeroCells27 27)).setRow w3.heap.size (bv p.testBit)) w3.heap.size p.testBit := hS.row
  have e_a_0 : ((w3.alloc (.cells Tryd.zeroCells27 27)).setRow w3.heap.size (bv p.testBit)).cell? ⟨w.heap.size, 0, none⟩ = some (.int .u64 a0) := (hE.cell (p := ⟨w.heap.size, 0, none⟩) s3_a).trans c3_a_0
  have e_a_1 : ((w3.alloc (.cells Tryd.zeroCells27 27)).setRow w3.heap.size (bv p.testBit)).cell? ⟨w.heap.size, 1, none⟩ = some (.int .u64 a1) := (hE.cell (p := ⟨w.heap.size, 1, none⟩) s3_a).trans c3_a_1
  have e_a_2 : ((w3.alloc (.cells Tryd.zeroCells27 27)).setRow w3.heap.size (bv p.testBit)).cell? ⟨w.heap.size, 2, none⟩ = some (.int .u64 a2) := (hE.cell (p := ⟨w.heap.size, 2, none⟩) s3_a).trans c3_a_2
  go_wp2_with (refine wpList_plain rfl fun _ hK => wp_store_row 27 _ _ rfl _ _ rfl rfl 27 _ hS (info27 _) (by rw [bv_size, bv_size]) (bv_one _) (hK _ _ ?_))
  refine (HSc.out _).mono ?_
  rintro e w4 ⟨rfl, hb4⟩
  have hA4 : Below w3.heap.size w3 w4 := (by repeat' (first | with_reducible exact Below.refl _ _ | with_reducible refine Below.drew ?_ | with_reducible refine below_drewN ?_ _ | with_reducible refine Below.setCell ?_ ?_ _ | with_reducible refine Below.alloc ?_ ?_ _ | with_reducible refine below_setRow ?_ ?_ _ | with_reducible refine Below.trans ?_ (hb4.mono ?_) | omega | (simp; done) | (simp; omega)))
  have hz4 : w3.heap.size + 1 ≤ w4.heap.size := by simpa using hb4.size
  have s4_a : w.heap.size < w4.heap.size := by omega
  have c4_a_0 : w4.cell? ⟨w.heap.size, 0, none⟩ = some (.int .u64 a0) := (hA4.cell (p := ⟨w.heap.size, 0, none⟩) s3_a).trans c3_a_0
  have c4_a_1 : w4.cell? ⟨w.heap.size, 1, none⟩ = some (.int .u64 a1) := (hA4.cell (p := ⟨w.heap.size, 1, none⟩) s3_a).trans c3_a_1
  have c4_a_2 : w4.cell? ⟨w.heap.size, 2, none⟩ = some (.int .u64 a2) := (hA4.cell (p := ⟨w.heap.size, 2, none⟩) s3_a).trans c3_a_2
  have B4_p : Blk w4 w3.heap.size p.testBit := hES.below hb4 hES.lt
  clear c3_a_0 c3_a_1 c3_a_2 s3_a
  clear hS hE hES e_a_0 e_a_1 e_a_2
  go_wp2_with fail
  refine (HTi.out _).mono ?_
  rintro e w5 ⟨rfl, hb5⟩
  have hA5 : Below w4.heap.size w4 w5 := (by repeat' (first | with_reducible exact Below.refl _ _ | with_reducible refine Below.drew ?_ | with_reducible refine below_drewN ?_ _ | with_reducible refine Below.setCell ?_ ?_ _ | with_reducible refine Below.alloc ?_ ?_ _ | with_reducible refine below_setRow ?_ ?_ _ | with_reducible refine Below.trans ?_ (hb5.mono ?_) | omega | (simp; done) | (simp; omega)))
  have hz5 : w4.heap.size + 1 ≤ w5.heap.size := by simpa using hb5.size
  have s5_a : w.heap.size < w5.heap.size := by omega
  have c5_a_0 : w5.cell? ⟨w.heap.size, 0, none⟩ = some (.int .u64 a0) := (hA5.cell (p := ⟨w.heap.size, 0, none⟩) s4_a).trans c4_a_0
  have c5_a_1 : w5.cell? ⟨w.heap.size, 1, none⟩ = some (.int .u64 a1) := (hA5.cell (p := ⟨w.heap.size, 1, none⟩) s4_a).trans c4_a_1
  have c5_a_2 : w5.cell? ⟨w.heap.size, 2, none⟩ = some (.int .u64 a2) := (hA5.cell (p := ⟨w.heap.size, 2, none⟩) s4_a).trans c4_a_2
  have s5_s : w4.heap.size < w5.heap.size := by omega
  have c5_s_0 : w5.cell? ⟨w4.heap.size, 0, none⟩ = some (.int .u64 (wrd p 0)) := (hb5.cell (p := ⟨w4.heap.size, 0, none⟩) (by first | (simp; done) | (simp; omega))).trans (by simp [go_sem])
  have c5_s_1 : w5.cell? ⟨w4.heap.size, 1, none⟩ = some (.int .u64 (wrd p 64)) := (hb5.cell (p := ⟨w4.heap.size, 1, none⟩) (by first | (simp; done) | (simp; omega))).trans (by simp [go_sem])
  have c5_s_2 : w5.cell? ⟨w4.heap.size, 2, none⟩ = some (.int .u64 (wrd p 128)) := (hb5.cell (p := ⟨w4.heap.size, 2, none⟩) (by first | (simp; done) | (simp; omega))).trans (by simp [go_sem])
  have B5_p : Blk w5 w3.heap.size p.testBit := B4_p.below hA5 B4_p.lt
  clear c4_a_0 c4_a_1 c4_a_2 s4_a B4_p
  go_wp2_with fail
  refine (HB0.out _).mono ?_
  rintro e w6 ⟨rfl, hb6⟩
  have hA6 : Below w5.heap.size w5 w6 := (by repeat' (first | with_reducible exact Below.refl _ _ | with_reducible refine Below.drew ?_ | with_reducible refine below_drewN ?_ _ | with_reducible refine Below.setCell ?_ ?_ _ | with_reducible refine Below.alloc ?_ ?_ _ | with_reducible refine below_setRow ?_ ?_ _ | with_reducible refine Below.trans ?_ (hb6.mono ?_) | omega | (simp; done) | (simp; omega)))
  have hz6 : w5.heap.size + 0 ≤ w6.heap.size := by simpa using hb6.size
  have s6_a : w.heap.size < w6.heap.size := by omega
  have c6_a_0 : w6.cell? ⟨w.heap.size, 0, none⟩ = some (.int .u64 a0) := (hA6.cell (p := ⟨w.heap.size, 0, none⟩) s5_a).trans c5_a_0
  have c6_a_1 : w6.cell? ⟨w.heap.size, 1, none⟩ = some (.int .u64 a1) := (hA6.cell (p := ⟨w.heap.size, 1, none⟩) s5_a).trans c5_a_1
  have c6_a_2 : w6.cell? ⟨w.heap.size, 2, none⟩ = some (.int .u64 a2) := (hA6.cell (p := ⟨w.heap.size, 2, none⟩) s5_a).trans c5_a_2
  have s6_s : w4.heap.size < w6.heap.size := by omega
  have c6_s_0 : w6.cell? ⟨w4.heap.size, 0, none⟩ = some (.int .u64 (wrd p 0)) := (hA6.cell (p := ⟨w4.heap.size, 0, none⟩) s5_s).trans c5_s_0
  have c6_s_1 : w6.cell? ⟨w4.heap.size, 1, none⟩ = some (.int .u64 (wrd p 64)) := (hA6.cell (p := ⟨w4.heap.size, 1, none⟩) s5_s).trans c5_s_1
  have c6_s_2 : w6.cell? ⟨w4.heap.size, 2, none⟩ = some (.int .u64 (wrd p 128)) := (hA6.cell (p := ⟨w4.heap.size, 2, none⟩) s5_s).trans c5_s_2
  have B6_p : Blk w6 w3.heap.size p.testBit := B5_p.below hA6 B5_p.lt
  clear c5_a_0 c5_a_1 c5_a_2 s5_a c5_s_0 c5_s_1 c5_s_2 s5_s B5_p
  go_wp2_with fail
  refine (HPy.out _).mono ?_
  rintro e w7 ⟨rfl, hb7⟩
  have hA7 : Below w6.heap.size w6 w7 := (by repeat' (first | with_reducible exact Below.refl _ _ | with_reducible refine Below.drew ?_ | with_reducible refine below_drewN ?_ _ | with_reducible refine Below.setCell ?_ ?_ _ | with_reducible refine Below.alloc ?_ ?_ _ | with_reducible refine below_setRow ?_ ?_ _ | with_reducible refine Below.trans ?_ (hb7.mono ?_) | omega | (simp; done) | (simp; omega)))
  have hz7 : w6.heap.size + 0 ≤ w7.heap.size := by simpa using hb7.size
  have s7_a : w.heap.size < w7.heap.size := by omega
  have c7_a_0 : w7.cell? ⟨w.heap.size, 0, none⟩ = some (.int .u64 a0) := (hA7.cell (p := ⟨w.heap.size, 0, none⟩) s6_a).trans c6_a_0
  have c7_a_1 : w7.cell? ⟨w.heap.size, 1, none⟩ = some (.int .u64 a1) := (hA7.cell (p := ⟨w.heap.size, 1, none⟩) s6_a).trans c6_a_1
  have c7_a_2 : w7.cell? ⟨w.heap.size, 2, none⟩ = some (.int .u64 a2) := (hA7.cell (p := ⟨w.heap.size, 2, none⟩) s6_a).trans c6_a_2
  have s7_s : w4.heap.size < w7.heap.size := by omega
  have c7_s_0 : w7.cell? ⟨w4.heap.size, 0, none⟩ = some (.int .u64 (wrd p 0)) := (hA7.cell (p := ⟨w4.heap.size, 0, none⟩) s6_s).trans c6_s_0
  have c7_s_1 : w7.cell? ⟨w4.heap.size, 1, none⟩ = some (.int .u64 (wrd p 64)) := (hA7.cell (p := ⟨w4.heap.size, 1, none⟩) s6_s).trans c6_s_1
  have c7_s_2 : w7.cell? ⟨w4.heap.size, 2, none⟩ = some (.int .u64 (wrd p 128)) := (hA7.cell (p := ⟨w4.heap.size, 2, none⟩) s6_s).trans c6_s_2
  have B7_p : Blk w7 w3.heap.size p.testBit := B6_p.below hA7 B6_p.lt
  clear c6_a_0 c6_a_1 c6_a_2 s6_a c6_s_0 c6_s_1 c6_s_2 s6_s B6_p
  have hS : Blk (w7.alloc (.cells Tryd.zeroCells27 27)) w7.heap.size (fun _ => false) := by rw [zero_bv]; exact Blk.new w7 _
  have hE : Below w7.heap.size w7 ((w7.alloc (.cells Tryd.zeroCells27 27)).setRow w7.heap.size (bv q.testBit)) := below_setRow ((Below.refl _ _).alloc (Nat.le_refl _) _) (Nat.le_refl _) _
  have hES : Blk ((w7.alloc (.cells Tryd.zeroCells27 27)).setRow w7.heap.size (bv q.testBit)) w7.heap.size q.testBit := hS.row
  have e_a_0 : ((w7.alloc (.cells Tryd.zeroCells27 27)).setRow w7.heap.size (bv q.testBit)).cell? ⟨w.heap.size, 0, none⟩ = some (.int .u64 a0) := (hE.cell (p := ⟨w.heap.size, 0, none⟩) s7_a).trans c7_a_0
  have e_a_1 : ((w7.alloc (.cells Tryd.zeroCells27 27)).setRow w7.heap.size (bv q.testBit)).cell? ⟨w.heap.size, 1, none⟩ = some (.int .u64 a1) := (hE.cell (p := ⟨w.heap.size, 1, none⟩) s7_a).trans c7_a_1
  have e_a_2 : ((w7.alloc (.cells Tryd.zeroCells27 27)).setRow w7.heap.size (bv q.testBit)).cell? ⟨w.heap.size, 2, none⟩ = some (.int .u64 a2) := (hE.cell (p := ⟨w.heap.size, 2, none⟩) s7_a).trans c7_a_2
  have e_s_0 : ((w7.alloc (.cells Tryd.zeroCells27 27)).setRow w7.heap.size (bv q.testBit)).cell? ⟨w4.heap.size, 0, none⟩ = some (.int .u64 (wrd p 0)) := (hE.cell (p := ⟨w4.heap.size, 0, none⟩) s7_s).trans c7_s_0
  have e_s_1 : ((w7.alloc (.cells Tryd.zeroCells27 27)).setRow w7.heap.size (bv q.testBit)).cell? ⟨w4.heap.size, 1, none⟩ = some (.int .u64 (wrd p 64)) := (hE.cell (p := ⟨w4.heap.size, 1, none⟩) s7_s).trans c7_s_1
  have e_s_2 : ((w7.alloc (.cells Tryd.zeroCells27 27)).setRow w7.heap.size (bv q.testBit)).cell? ⟨w4.heap.size, 2, none⟩ = some (.int .u64 (wrd p 128)) := (hE.cell (p := ⟨w4.heap.size, 2, none⟩) s7_s).trans c7_s_2
  go_wp2_with (refine wpList_plain rfl fun _ hK => wp_store_row 27 _ _ rfl _ _ rfl rfl 27 _ hS (info27 _) (by rw [bv_size, bv_size]) (bv_one _) (hK _ _ ?_))
  obtain ⟨w8, hw8⟩ : ∃ w8, w8 = ((w7.alloc (.cells Tryd.zeroCells27 27)).setRow w7.heap.size (bv q.testBit)) := ⟨_, rfl⟩
  rw [← hw8]
  rw [← hw8] at hE hES
  have hA8 : Below w7.heap.size w7 w8 := hE
  have s8_a : w.heap.size < w8.heap.size := Nat.lt_of_lt_of_le s7_a hA8.size
  have c8_a_0 : w8.cell? ⟨w.heap.size, 0, none⟩ = some (.int .u64 a0) := (hA8.cell (p := ⟨w.heap.size, 0, none⟩) s7_a).trans c7_a_0
  have c8_a_1 : w8.cell? ⟨w.heap.size, 1, none⟩ = some (.int .u64 a1) := (hA8.cell (p := ⟨w.heap.size, 1, none⟩) s7_a).trans c7_a_1
  have c8_a_2 : w8.cell? ⟨w.heap.size, 2, none⟩ = some (.int .u64 a2) := (hA8.cell (p := ⟨w.heap.size, 2, none⟩) s7_a).trans c7_a_2
  have s8_s : w4.heap.size < w8.heap.size := Nat.lt_of_lt_of_le s7_s hA8.size
  have c8_s_0 : w8.cell? ⟨w4.heap.size, 0, none⟩ = some (.int .u64 (wrd p 0)) := (hA8.cell (p := ⟨w4.heap.size, 0, none⟩) s7_s).trans c7_s_0
  have c8_s_1 : w8.cell? ⟨w4.heap.size, 1, none⟩ = some (.int .u64 (wrd p 64)) := (hA8.cell (p := ⟨w4.heap.size, 1, none⟩) s7_s).trans c7_s_1
  have c8_s_2 : w8.cell? ⟨w4.heap.size, 2, none⟩ = some (.int .u64 (wrd p 128)) := (hA8.cell (p := ⟨w4.heap.size, 2, none⟩) s7_s).trans c7_s_2
  have B8_p : Blk w8 w3.heap.size p.testBit := B7_p.below hA8 B7_p.lt
  have B8_q : Blk w8 w7.heap.size q.testBit := hES
  clear c7_a_0 c7_a_1 c7_a_2 s7_a c7_s_0 c7_s_1 c7_s_2 s7_s B7_p
  clear hS e_a_0 e_a_1 e_a_2 e_s_0 e_s_1 e_s_2
  clear hw8
  dsimp only [Act.put]
  have k_a_0 := cell_regrown c8_a_0
  have k_a_1 := cell_regrown c8_a_1
  have k_a_2 := cell_regrown c8_a_2
  have k_s_0 := cell_regrown c8_s_0
  have k_s_1 := cell_regrown c8_s_1
  have k_s_2 := cell_regrown c8_s_2
  refine wp_region_quiet_below (by kernel_rfl) (by kernel_rfl) ?_
  go_big_quiet_step (fail)
  refine wpQuiet_bits _ rfl rfl rfl (blk_regrown B8_p) ?_
  simp only [Act.put, List.setIfInBounds_toArray, List.set_cons_zero, List.set_cons_succ]
  go_big_quiet_step ((exact Calls.regrown_of (whole_any _ _)))
  go_big_quiet_step (fail)
  go_big_quiet_step (fail)
  go_big_quiet_step (fail)
  refine wpQuiet_bitsG _ rfl rfl rfl (blk_regrown B8_p) ?_
  simp only [Act.put, List.setIfInBounds_toArray, List.set_cons_zero, List.set_cons_succ]
  go_big_quiet_step ((exact Calls.regrown_of (word_fn192 _ _)))
  go_big_quiet_step (fail)
  go_big_quiet_step (fail)
  go_big_quiet_step (fail)
  go_big_quiet_step (fail)
  refine wpQuiet_bitsG _ rfl rfl rfl (blk_regrown B8_q) ?_
  simp only [Act.put, List.setIfInBounds_toArray, List.set_cons_zero, List.set_cons_succ]
  go_big_quiet_step ((exact Calls.regrown_of (word_fn0 _ _)))
  go_big_quiet_step (fail)
  go_big_quiet_step (fail)
  go_big_quiet_step (fail)
  go_big_quiet_step (fail)
  refine wpQuiet_bitsG _ rfl rfl rfl (blk_regrown B8_q) ?_
  simp only [Act.put, List.setIfInBounds_toArray, List.set_cons_zero, List.set_cons_succ]
  go_big_quiet_step ((exact Calls.regrown_of (word_fn64 _ _)))
  go_big_quiet_step (fail)
  go_big_quiet_step (fail)
  go_big_quiet_step (fail)
  go_big_quiet_step (fail)
  go_big_quiet_step (fail)
  go_big_quiet_step ((exact Calls.regrown_of (HLr.out _)))
  go_big_quiet_step (fail)
  go_big_quiet_step ((exact Calls.regrown_of (HBa.out _)))
  go_big_quiet_step (fail)
  go_big_quiet_step ((exact Calls.regrown_of (HRr.out _)))
  go_big_quiet_step (fail)
  go_big_quiet_step (fail)
  go_big_quiet_step (fail)
  refine wpQuiet_nil ?_
  rintro _ ⟨⟨dr, osr⟩, rfl⟩
  have hq8 := below_regrown w8 dr osr
  generalize Sort.grow (redrawn w8 dr) osr = w9 at hq8 ⊢
  have z1 := hA1.size
  have z2 := hA2.size
  have z3 := hA3.size
  have z4 := hA4.size
  have z5 := hA5.size
  have z6 := hA6.size
  have z7 := hA7.size
  have z8 := hA8.size
  have hBz : Below w.heap.size w w9 := hA1.trans ((hA2.mono (by omega)).trans ((hA3.mono (by omega)).trans ((hA4.mono (by omega)).trans ((hA5.mono (by omega)).trans ((hA6.mono (by omega)).trans ((hA7.mono (by omega)).trans ((hA8.mono (by omega)).trans (hq8.mono (by omega)))))))))
  go_wp2
  go_ret
  exact ⟨rfl, hBz⟩

/-- THE WALK of LimbsScales. -/
theorem scales_any (a0 a1 a2 k m : Int) (ka0 : Wd a0) (ka1 : Wd a1) (ka2 : Wd a2) (kk : Wd k) (km : Wd m) (w : World) (htab : Tab w) :
    Calls Tryd.prog 4 #[.agg #[.int .u64 a0, .int .u64 a1, .int .u64 a2], .int .u64 k, .int .u64 m] w fun e w' => e = .returned (.bool true) ∧ Below w.heap.size w w' := by
  obtain ⟨k, rfl⟩ : ∃ n : Nat, k = n := ⟨k.toNat, (Int.toNat_of_nonneg kk.1).symm⟩
  obtain ⟨m, rfl⟩ : ∃ n : Nat, m = n := ⟨m.toNat, (Int.toNat_of_nonneg km.1).symm⟩
  have hx := nat3_lt a0 a1 a2 ka0 ka1 ka2
  have h256 : (2 : Nat) ^ 192 < 2 ^ 256 := by decide
  have hk : k < 2 ^ 64 := by have := kk.2; have e : (2 : Nat) ^ 64 = 18446744073709551616 := rfl; omega
  obtain ⟨n0, rfl⟩ : ∃ n : Nat, a0 = n := ⟨a0.toNat, (Int.toNat_of_nonneg ka0.1).symm⟩
  have hy : nat3 n0 0 0 = n0 := by unfold nat3 val; omega
  have b0 := fun w => bit_any n0 0 0 ka0 wd0 wd0 w
  rw [hy] at b0
  exact scales_walk n0 a1 a2 k m _ (nat3 n0 a1 a2) (nat3 n0 a1 a2 * k) (n0 * k) n0 (fun w => bit_any n0 a1 a2 ka0 ka1 ka2 w) b0
    (fun w => product_any _ k hk w) (fun w => product_any _ k hk w) (fun w => scale_bits n0 a1 a2 k ka0 ka1 ka2 kk w) (fun w => times_bits n0 k ka0 kk w)
    (fun w => lrest_bits n0 a1 a2 m ka0 ka1 ka2 km w) (fun w => rrest_bits _ m (Nat.lt_trans hx h256) km w) w htab
end Go.Proofs.YtlgadaojekcjeaaDoor

/-
  The walk of the statement LimbsDecimal.
-/
import Derived.Test.YtlgadaojekcjeaaDoorAlive
import Derived.Test.YtlgadaojekcjeaaDoorDDec
import Derived.Test.YtlgadaojekcjeaaDoorRegB
namespace Go.Proofs.YtlgadaojekcjeaaDoor
open Go.RowKit

set_option maxHeartbeats 4000000 in
set_option maxRecDepth 100000 in
theorem decimal_walk (a0 a1 a2 : Int) (x : Nat) (D : List UInt8)
    (HBa : Hid (∀ w, Calls Tryd.prog 11 #[.agg #[.int .u64 a0, .int .u64 a1, .int .u64 a2]] w fun e w' => e = .returned (.agg (bv x.testBit)) ∧ Below w.heap.size w w'))
    (HDc : Hid (∀ w, Tab w → Calls Tryd.prog 31 #[.agg #[.int .u64 a0, .int .u64 a1, .int .u64 a2]] w fun e w' => e = .returned (.string ⟨D.toArray⟩) ∧ Below w.heap.size w w'))
    (HDd : Hid (∀ w, Calls Tryd.prog 32 #[.agg (bv x.testBit)] w fun e w' => e = .returned (.string ⟨D.toArray⟩) ∧ Below w.heap.size w w'))
    (w : World) (htab : Tab w) :
    Calls Tryd.prog 8 #[.agg #[.int .u64 a0, .int .u64 a1, .int .u64 a2]] w fun e w' => e = .returned (.bool true) ∧ Below w.heap.size w w' := by
  have HT : Hid (Tab w) := htab
  clear htab
  go_enter Tryd.func8, Tryd.ntmps8
  go_wp2_with fail
  refine (alive_any _ (by exact tab_below HT.out (by repeat' (first | with_reducible exact Below.refl _ _ | with_reducible refine Below.drew ?_ | with_reducible refine below_drewN ?_ _ | with_reducible refine Below.setCell ?_ ?_ _ | with_reducible refine Below.alloc ?_ ?_ _ | omega | (simp; done) | (simp; omega))))).mono ?_
  rintro e w1 ⟨rfl, hb1⟩
  have hA1 : Below w.heap.size w w1 := (by repeat' (first | with_reducible exact Below.refl _ _ | with_reducible refine Below.drew ?_ | with_reducible refine below_drewN ?_ _ | with_reducible refine Below.setCell ?_ ?_ _ | with_reducible refine Below.alloc ?_ ?_ _ | with_reducible refine below_setRow ?_ ?_ _ | with_reducible refine Below.trans ?_ (hb1.mono ?_) | omega | (simp; done) | (simp; omega)))
  have hz1 : w.heap.size + 1 ≤ w1.heap.size := by simpa using hb1.size
  have s1_a : w.heap.size < w1.heap.size := by omega
  have c1_a_0 : w1.cell? ⟨w.heap.size, 0, none⟩ = some (.int .u64 a0) := (hb1.cell (p := ⟨w.heap.size, 0, none⟩) (by first | (simp; done) | (simp; omega))).trans (by simp [go_sem])
  have c1_a_1 : w1.cell? ⟨w.heap.size, 1, none⟩ = some (.int .u64 a1) := (hb1.cell (p := ⟨w.heap.size, 1, none⟩) (by first | (simp; done) | (simp; omega))).trans (by simp [go_sem])
  have c1_a_2 : w1.cell? ⟨w.heap.size, 2, none⟩ = some (.int .u64 a2) := (hb1.cell (p := ⟨w.heap.size, 2, none⟩) (by first | (simp; done) | (simp; omega))).trans (by simp [go_sem])
  have k_0 := cell_regrown c1_a_0
  have k_1 := cell_regrown c1_a_1
  have k_2 := cell_regrown c1_a_2
  have HDe : ∀ d os, Calls Tryd.prog 31 #[.agg #[.int .u64 a0, .int .u64 a1, .int .u64 a2]] (Sort.grow (redrawn w1 d) os) fun e w' => e = .returned (.string ⟨D.toArray⟩) ∧ Below (Sort.grow (redrawn w1 d) os).heap.size (Sort.grow (redrawn w1 d) os) w' :=
    fun d os => HDc.out _ (tab_below HT.out (hA1.trans ((below_regrown w1 d os).mono hA1.size)))
  have HDe' : Hid (∀ d os, Calls Tryd.prog 31 #[.agg #[.int .u64 a0, .int .u64 a1, .int .u64 a2]] (Sort.grow (redrawn w1 d) os) fun e w' => e = .returned (.string ⟨D.toArray⟩) ∧ Below (Sort.grow (redrawn w1 d) os).heap.size (Sort.grow (redrawn w1 d) os) w') := HDe
  clear HDe hb1
  go_wp2_with fail
  refine wp_region_quiet_below (by kernel_rfl) (by kernel_rfl) ?_
  go_big_quiet_step (fail)
  go_big_quiet_step ((exact Calls.regrown_of (HDe'.out _ _)))
  go_big_quiet_step (fail)
  go_big_quiet_step ((exact Calls.regrown_of (HBa.out _)))
  go_big_quiet_step ((exact Calls.regrown_of (HDd.out _)))
  go_big_quiet_step (fail)
  go_big_quiet_step (fail)
  refine wpQuiet_nil ?_
  rintro _ ⟨⟨dr, osr⟩, rfl⟩
  have hq8 := below_regrown w1 dr osr
  generalize Sort.grow (redrawn w1 dr) osr = w9 at hq8 ⊢
  go_wp2
  go_ret
  exact ⟨rfl, hA1.trans (hq8.mono hA1.size)⟩

/-- THE WALK of LimbsDecimal. -/
theorem decimal_any (a0 a1 a2 : Int) (ka0 : Wd a0) (ka1 : Wd a1) (ka2 : Wd a2) (w : World) (htab : Tab w) :
    Calls Tryd.prog 8 #[.agg #[.int .u64 a0, .int .u64 a1, .int .u64 a2]] w fun e w' => e = .returned (.bool true) ∧ Below w.heap.size w w' := by
  have hx := nat3_lt a0 a1 a2 ka0 ka1 ka2
  have h256 : (2 : Nat) ^ 192 < 2 ^ 256 := by decide
  exact decimal_walk a0 a1 a2 (nat3 a0 a1 a2) (Lib.decDigits (nat3 a0 a1 a2)) (fun w => bit_any a0 a1 a2 ka0 ka1 ka2 w) (fun w h => dec_any a0 a1 a2 ka0 ka1 ka2 w h)
    (fun w => ddec_walk _ _ (Nat.lt_trans hx h256) rfl w) w htab
end Go.Proofs.YtlgadaojekcjeaaDoor

/-
  The walk of ShapeOnce: it answers true, of every row, index and number. No condition.
-/
import Derived.Test.YtfiblemandpfeaaSh14
namespace Go.Proofs.Ytfiblemandpfeaa
set_option linter.unusedVariables false
open Go.RowKit Go.Shelf

theorem part4 (xs : Array Value) (i : Nat) (v : Value) (h : xs[i]? = some v) (w : World) : (part 3 xs i).run Try.prog w = .ok v w := by
  simp [part, isAgg, run_underlying Try.underlying3, h]
theorem size4 (w : World) : (sizeOf 3).run Try.prog w = .ok 1 w := by kernel_rfl
theorem eq4d (d : Nat) (a0 a1 a2 a3 : Int) (t : TypeId) (ht : Try.prog.underlying t = some (.array 4 3)) (w : World) :
    (Op.equalIn (d + 1 + 1) t (.agg #[.int .i64 a0, .int .i64 a1, .int .i64 a2, .int .i64 a3]) (.agg #[.int .i64 a0, .int .i64 a1, .int .i64 a2, .int .i64 a3])).run Try.prog w = .ok true w := by
  have hI := fun (a b : Int) (w : World) => run_equalIn_int (P := Try.prog) w d 3 .i64 .i64 a b Try.underlying3
  rw [Op.equalIn]
  simp only [Sem.run_bind, run_underlying ht, Result.andThen_ok, size4]
  simp [Std.Legacy.Range.forIn_eq_forIn_range', List.range', hI, part4]
/-- An index is itself. -/
theorem eqIx (a0 a1 a2 a3 : Int) (w : World) : (Op.equalIn 10000 33 (.agg #[.int .i64 a0, .int .i64 a1, .int .i64 a2, .int .i64 a3]) (.agg #[.int .i64 a0, .int .i64 a1, .int .i64 a2, .int .i64 a3])).run Try.prog w = .ok true w :=
  eq4d 9998 a0 a1 a2 a3 33 Try.underlying33 w
theorem eqAr (a0 a1 a2 a3 : Int) (w : World) : (Op.equalIn 10000 32 (.agg #[.int .i64 a0, .int .i64 a1, .int .i64 a2, .int .i64 a3]) (.agg #[.int .i64 a0, .int .i64 a1, .int .i64 a2, .int .i64 a3])).run Try.prog w = .ok true w :=
  eq4d 9998 a0 a1 a2 a3 32 Try.underlying32 w
theorem guardIx : Try.prog.eqGuardType Try.prog.depth 33 = false := by kernel_rfl
theorem guardAr : Try.prog.eqGuardType Try.prog.depth 32 = false := by kernel_rfl
/-- The four cells of a block that was there. -/
theorem blk_four {W W' : World} {B : Nat} {t : TypeId} {a b c d : Value} (h : Blk W B t #[a, b, c, d]) (hb : Below W.heap.size W W') : W'.cell? ⟨B, 0, none⟩ = some a ∧ W'.cell? ⟨B, 1, none⟩ = some b ∧ W'.cell? ⟨B, 2, none⟩ = some c ∧ W'.cell? ⟨B, 3, none⟩ = some d ∧ B < W'.heap.size :=
  ⟨(h.below hb).cell 0, (h.below hb).cell 1, (h.below hb).cell 2, (h.below hb).cell 3, (h.below hb).lt⟩

theorem ixV_congr {a b : Nat → Int} (h : ∀ j, j < 4 → a j = b j) : ixV a = ixV b := by
  unfold ixV; rw [h 0 (by omega), h 1 (by omega), h 2 (by omega), h 3 (by omega)]
theorem once_many (W : World) (A : Option Addr) (C L : Nat) (h : 100 < L) (p : Nat → Int) (z : Int) : AnsB W 5 #[.slice A L C, ixV p, .int .i64 z] (.bool true) := by
  intro w hw
  have HA := alive_any W
  have h' : (100 : Int) < (L : Int) := by omega
  have hB0 := below_alloc w (.cells #[.int .i64 (p 0), .int .i64 (p 1), .int .i64 (p 2), .int .i64 (p 3)] 33)
  unfold ixV
  go_enter Try.func5, Try.ntmps5
  go_wp2_with (go_at_call 7; with_reducible refine AnsB.use HA (hw.trans (hB0.mono hw.size)) fun w2 hb2 => ?_)
  go_ret
  exact ⟨rfl, bb hB0 hb2⟩

set_option maxHeartbeats 4000000 in
theorem once_yes_yes (W : World) (A : Option Addr) (C L : Nat) (h' : ¬ (100 : Int) < (L : Int)) (p0 p1 p2 p3 : Int) (z k1 : Int)
    (HN1 : AnsB W 12 #[.slice A L C, .agg #[.int .i64 p0, .int .i64 p1, .int .i64 p2, .int .i64 p3]] (.tuple #[.int .i64 k1, .bool true]))
    (HA1 : AnsB W 13 #[.slice A L C, .int .i64 k1] (.tuple #[.agg #[.int .i64 p0, .int .i64 p1, .int .i64 p2, .int .i64 p3], .bool true]))
    (x0 x1 x2 x3 : Int) (is2 : Bool) (HA2 : AnsB W 13 #[.slice A L C, .int .i64 z] (.tuple #[.agg #[.int .i64 x0, .int .i64 x1, .int .i64 x2, .int .i64 x3], .bool is2]))
    (k3 : Int) (ok3 : Bool) (HN3 : AnsB W 12 #[.slice A L C, .agg #[.int .i64 x0, .int .i64 x1, .int .i64 x2, .int .i64 x3]] (.tuple #[.int .i64 k3, .bool ok3]))
    (h3 : is2 = true → ok3 = true ∧ k3 = z) : AnsB W 5 #[.slice A L C, .agg #[.int .i64 p0, .int .i64 p1, .int .i64 p2, .int .i64 p3], .int .i64 z] (.bool true) := by
  intro w hw
  have HA := alive_any W
  have hq := eqIx p0 p1 p2 p3
  have hg := guardIx
  have hB0 := below_alloc w (.cells #[.int .i64 p0, .int .i64 p1, .int .i64 p2, .int .i64 p3] 33)
  have b0 := Blk.new w 33 #[.int .i64 p0, .int .i64 p1, .int .i64 p2, .int .i64 p3]
  have hw0 := hw.trans (hB0.mono hw.size)
  cases is2 with
  | false =>
    clear h3
    go_enter Try.func5, Try.ntmps5
    go_wp2_with (first
      | (go_at_call 7; with_reducible refine AnsB.use HA hw0 fun w2 hb2 => ?_; have hw2 := hw0.trans (hb2.mono hw0.size); obtain ⟨e0, e1, e2, e3, e4⟩ := blk_four b0 hb2)
      | (go_at_call 12; with_reducible refine AnsB.use HN1 hw2 fun w3 hb3 => ?_; clear HN1; clear e0 e1 e2 e3 e4; have hbb3 := bb hb2 hb3; have hw3 := hw0.trans (hbb3.mono hw0.size); obtain ⟨e0, e1, e2, e3, e4⟩ := blk_four b0 hbb3)
      | (go_at_call 13; with_reducible refine AnsB.use HA1 hw3 fun w4 hb4 => ?_; clear HA1; clear e0 e1 e2 e3 e4; have hbb4 := bb hbb3 hb4; obtain ⟨e0, e1, e2, e3, e4⟩ := blk_four b0 hbb4; have hbx := bb hbb4 (below_alloc w4 (.cells #[.int .i64 p0, .int .i64 p1, .int .i64 p2, .int .i64 p3] 33)); have hw4 := hw0.trans (hbx.mono hw0.size))
      | (go_at_call 13; with_reducible refine AnsB.use HA2 hw4 fun w5 hb5 => ?_; have hbb5 := bb hbx hb5; have hby := bb hbb5 (below_alloc w5 (.cells #[.int .i64 x0, .int .i64 x1, .int .i64 x2, .int .i64 x3] 33)); have hw5 := hw0.trans (hby.mono hw0.size))
      | (go_at_call 12; with_reducible refine AnsB.use HN3 hw5 fun w6 hb6 => ?_))
    go_ret
    exact ⟨rfl, bb hB0 (bb hby hb6)⟩
  | true =>
    obtain ⟨rfl, rfl⟩ := h3 rfl
    go_enter Try.func5, Try.ntmps5
    go_wp2_with (first
      | (go_at_call 7; with_reducible refine AnsB.use HA hw0 fun w2 hb2 => ?_; have hw2 := hw0.trans (hb2.mono hw0.size); obtain ⟨e0, e1, e2, e3, e4⟩ := blk_four b0 hb2)
      | (go_at_call 12; with_reducible refine AnsB.use HN1 hw2 fun w3 hb3 => ?_; clear HN1; clear e0 e1 e2 e3 e4; have hbb3 := bb hb2 hb3; have hw3 := hw0.trans (hbb3.mono hw0.size); obtain ⟨e0, e1, e2, e3, e4⟩ := blk_four b0 hbb3)
      | (go_at_call 13; with_reducible refine AnsB.use HA1 hw3 fun w4 hb4 => ?_; clear HA1; clear e0 e1 e2 e3 e4; have hbb4 := bb hbb3 hb4; obtain ⟨e0, e1, e2, e3, e4⟩ := blk_four b0 hbb4; have hbx := bb hbb4 (below_alloc w4 (.cells #[.int .i64 p0, .int .i64 p1, .int .i64 p2, .int .i64 p3] 33)); have hw4 := hw0.trans (hbx.mono hw0.size))
      | (go_at_call 13; with_reducible refine AnsB.use HA2 hw4 fun w5 hb5 => ?_; have hbb5 := bb hbx hb5; have hby := bb hbb5 (below_alloc w5 (.cells #[.int .i64 x0, .int .i64 x1, .int .i64 x2, .int .i64 x3] 33)); have hw5 := hw0.trans (hby.mono hw0.size))
      | (go_at_call 12; with_reducible refine AnsB.use HN3 hw5 fun w6 hb6 => ?_))
    go_ret
    exact ⟨rfl, bb hB0 (bb hby hb6)⟩
set_option maxHeartbeats 4000000 in
theorem once_no (W : World) (A : Option Addr) (C L : Nat) (h' : ¬ (100 : Int) < (L : Int)) (p0 p1 p2 p3 : Int) (z k1 : Int)
    (HN1 : AnsB W 12 #[.slice A L C, .agg #[.int .i64 p0, .int .i64 p1, .int .i64 p2, .int .i64 p3]] (.tuple #[.int .i64 k1, .bool false]))
    (x0 x1 x2 x3 : Int) (is2 : Bool) (HA2 : AnsB W 13 #[.slice A L C, .int .i64 z] (.tuple #[.agg #[.int .i64 x0, .int .i64 x1, .int .i64 x2, .int .i64 x3], .bool is2]))
    (k3 : Int) (ok3 : Bool) (HN3 : AnsB W 12 #[.slice A L C, .agg #[.int .i64 x0, .int .i64 x1, .int .i64 x2, .int .i64 x3]] (.tuple #[.int .i64 k3, .bool ok3]))
    (h3 : is2 = true → ok3 = true ∧ k3 = z) : AnsB W 5 #[.slice A L C, .agg #[.int .i64 p0, .int .i64 p1, .int .i64 p2, .int .i64 p3], .int .i64 z] (.bool true) := by
  intro w hw
  have HA := alive_any W
  have hq := eqIx p0 p1 p2 p3
  have hg := guardIx
  have hB0 := below_alloc w (.cells #[.int .i64 p0, .int .i64 p1, .int .i64 p2, .int .i64 p3] 33)
  have b0 := Blk.new w 33 #[.int .i64 p0, .int .i64 p1, .int .i64 p2, .int .i64 p3]
  have hw0 := hw.trans (hB0.mono hw.size)
  cases is2 with
  | false =>
    clear h3
    go_enter Try.func5, Try.ntmps5
    go_wp2_with (first
      | (go_at_call 7; with_reducible refine AnsB.use HA hw0 fun w2 hb2 => ?_; have hw2 := hw0.trans (hb2.mono hw0.size); obtain ⟨e0, e1, e2, e3, e4⟩ := blk_four b0 hb2)
      | (go_at_call 12; with_reducible refine AnsB.use HN1 hw2 fun w3 hb3 => ?_; clear HN1; clear e0 e1 e2 e3 e4; have hbb3 := bb hb2 hb3; have hw3 := hw0.trans (hbb3.mono hw0.size); obtain ⟨e0, e1, e2, e3, e4⟩ := blk_four b0 hbb3)
      | (go_at_call 13; with_reducible refine AnsB.use HA2 hw3 fun w5 hb5 => ?_; have hbb5 := bb hbb3 hb5; have hby := bb hbb5 (below_alloc w5 (.cells #[.int .i64 x0, .int .i64 x1, .int .i64 x2, .int .i64 x3] 33)); have hw5 := hw0.trans (hby.mono hw0.size))
      | (go_at_call 12; with_reducible refine AnsB.use HN3 hw5 fun w6 hb6 => ?_))
    go_ret
    exact ⟨rfl, bb hB0 (bb hby hb6)⟩
  | true =>
    obtain ⟨rfl, rfl⟩ := h3 rfl
    go_enter Try.func5, Try.ntmps5
    go_wp2_with (first
      | (go_at_call 7; with_reducible refine AnsB.use HA hw0 fun w2 hb2 => ?_; have hw2 := hw0.trans (hb2.mono hw0.size); obtain ⟨e0, e1, e2, e3, e4⟩ := blk_four b0 hb2)
      | (go_at_call 12; with_reducible refine AnsB.use HN1 hw2 fun w3 hb3 => ?_; clear HN1; clear e0 e1 e2 e3 e4; have hbb3 := bb hb2 hb3; have hw3 := hw0.trans (hbb3.mono hw0.size); obtain ⟨e0, e1, e2, e3, e4⟩ := blk_four b0 hbb3)
      | (go_at_call 13; with_reducible refine AnsB.use HA2 hw3 fun w5 hb5 => ?_; have hbb5 := bb hbb3 hb5; have hby := bb hbb5 (below_alloc w5 (.cells #[.int .i64 x0, .int .i64 x1, .int .i64 x2, .int .i64 x3] 33)); have hw5 := hw0.trans (hby.mono hw0.size))
      | (go_at_call 12; with_reducible refine AnsB.use HN3 hw5 fun w6 hb6 => ?_))
    go_ret
    exact ⟨rfl, bb hB0 (bb hby hb6)⟩

set_option maxHeartbeats 1000000 in
/-- ShapeOnce. -/
theorem once_law (W : World) (A : Option Addr) (C : Nat) (zs : List Int) (hZ : ZAt W A C zs) (_ : zs.length * 8 ≤ 140737488355328) (p : Nat → Int) (z : Int) (hz : I64 z) : AnsB W 5 #[.slice A zs.length C, ixV p, .int .i64 z] (.bool true) := by
  by_cases hl : 100 < zs.length
  · exact once_many W A C _ hl p z
  have h' : ¬ (100 : Int) < (zs.length : Int) := by omega
  by_cases he : errV zs = 0
  · obtain ⟨ds, rfl, hS⟩ := errV_zero he
    rw [ints_len] at h' ⊢
    -- what At answers of z, and Number of that
    obtain ⟨x, is2, k3, ok3, HA2, HN3, h3⟩ : ∃ (x : Nat → Int) (is2 : Bool) (k3 : Int) (ok3 : Bool), AnsB W 13 #[.slice A ds.length C, .int .i64 z] (.tuple #[ixV x, .bool is2]) ∧ AnsB W 12 #[.slice A ds.length C, ixV x] (.tuple #[.int .i64 k3, .bool ok3]) ∧ (is2 = true → ok3 = true ∧ k3 = z) := by
      by_cases hz2 : 0 ≤ z ∧ z < sizeV (ints ds)
      · obtain ⟨n, rfl⟩ := Int.eq_ofNat_of_zero_le hz2.1
        have hn : n < pr ds := by have := hz2.2; rw [sizeV_shape hS] at this; omega
        refine ⟨fun j => (ix ds n j : Int), true, (n : Int), true, at_yes W A C ds hS hZ n hn, ?_, fun _ => ⟨rfl, rfl⟩⟩
        refine number_shape W A C ds hS hZ _ _ _ (fun _ => ⟨?_, rfl⟩) (fun j hj h => absurd ⟨Int.natCast_nonneg _, Int.ofNat_lt.2 (ix_lt hS n hj)⟩ h)
        show (n : Int) = (hor ds (fun j => ((ix ds n j : Nat) : Int).toNat) 4 : Int)
        rw [hor_congr (j := ix ds n) 4 (fun m _ => Int.toNat_natCast _), hor_ix hS hn]
      · have := at_no W A C (ints ds) hZ z hz2
        rw [ints_len] at this
        refine ⟨fun _ => 0, false, _, _, this, number_shape W A C ds hS hZ (fun _ => 0) 0 true (fun _ => ⟨by simp [hor], rfl⟩) (fun j hj h => absurd ⟨Int.le_refl _, ?_⟩ h), fun h => by cases h⟩
        have := ln_pos hS j
        show (0 : Int) < (ln ds j : Int)
        omega
    by_cases hin : ∀ j, j < 4 → In ds p j
    · have HN1 : AnsB W 12 #[.slice A ds.length C, ixV p] (.tuple #[.int .i64 (hor ds (fun j => (p j).toNat) 4 : Int), .bool true]) := number_shape W A C ds hS hZ p _ _ (fun _ => ⟨rfl, rfl⟩) (fun j hj h => absurd (hin j hj) h)
      have hi : ∀ j, j < 4 → (p j).toNat < ln ds j := fun j hj => by have := hin j hj; unfold In at this; omega
      have hn : hor ds (fun j => (p j).toNat) 4 < pr ds := by rw [← pr_four hS]; exact hor_lt 4 hi
      have HA1 := at_yes W A C ds hS hZ _ hn
      have hx : ∀ j, j < 4 → (ix ds (hor ds (fun j => (p j).toNat) 4) j : Int) = p j := fun j hj => by
        rw [ix_hor hS hi j hj]
        have := hin j hj; unfold In at this; omega
      have hv : ixV (fun j => (ix ds (hor ds (fun j => (p j).toNat) 4) j : Int)) = ixV p := ixV_congr hx
      rw [hv] at HA1
      exact once_yes_yes W A C _ h' (p 0) (p 1) (p 2) (p 3) z _ HN1 HA1 (x 0) (x 1) (x 2) (x 3) is2 HA2 k3 ok3 HN3 h3
    · have HN1 : AnsB W 12 #[.slice A ds.length C, ixV p] (.tuple #[.int .i64 0, .bool false]) := number_shape W A C ds hS hZ p _ _ (fun h => absurd h hin) (fun j hj h => ⟨rfl, rfl⟩)
      exact once_no W A C _ h' (p 0) (p 1) (p 2) (p 3) z 0 HN1 (x 0) (x 1) (x 2) (x 3) is2 HA2 k3 ok3 HN3 h3
  · have hs : sizeV zs = 0 := by
      unfold errV at he
      unfold sizeV
      cases hs : sz zs with
      | none => rfl
      | some s =>
        obtain ⟨ds, rfl, hS, _⟩ := sz_some hs
        exact absurd (errV_shape hS) (by unfold errV; exact he)
    have HA2 := at_no W A C zs hZ z (by rw [hs]; omega)
    exact once_no W A C _ h' (p 0) (p 1) (p 2) (p 3) z 0 (number_none W A C zs hZ he p) 0 0 0 0 false HA2 0 false (number_none W A C zs hZ he fun _ => 0) (fun h => by cases h)
end Go.Proofs.Ytfiblemandpfeaa

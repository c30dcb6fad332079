/-
  The contracts of limbs' sums, differences and opposites once more: what they answer hangs on no world. And limbs.Compare.
-/
import Derived.Test.YtlgadaojekcjeaaDoorInts
namespace Go.Proofs.YtlgadaojekcjeaaDoor
open Go.RowKit

theorem add_fn (a0 a1 a2 b0 b1 b2 : Int) (ha0 : Wd a0) (ha1 : Wd a1) (ha2 : Wd a2) (hb0 : Wd b0) (hb1 : Wd b1) (hb2 : Wd b2) :
    ∃ s0 s1 s2 c, AddR a0 a1 a2 b0 b1 b2 s0 s1 s2 c ∧ ∀ w, Calls Tryd.prog 13 #[.agg #[.int .u64 a0, .int .u64 a1, .int .u64 a2], .agg #[.int .u64 b0, .int .u64 b1, .int .u64 b2]] w fun e w' => e = .returned (.tuple #[.agg #[.int .u64 s0, .int .u64 s1, .int .u64 s2], .bool c]) ∧ Below w.heap.size w w' := by
  obtain ⟨s0, c1, w0, k1, e0, h0⟩ := add64 a0 b0 0 ha0 hb0 (Or.inl rfl)
  obtain ⟨s1, c2, w1, k2, e1, h1⟩ := add64 a1 b1 c1 ha1 hb1 k1
  obtain ⟨s2, c3, w2, k3, e2, h2⟩ := add64 a2 b2 c2 ha2 hb2 k2
  refine ⟨s0, s1, s2, c3 != 0, ⟨w0, w1, w2, ?_⟩, fun w => add_walk a0 a1 a2 b0 b1 b2 s0 s1 s2 c1 c2 c3 w h0 h1 h2⟩
  unfold val
  rcases k3 with rfl | rfl <;> simp <;> omega
theorem sub_fn (a0 a1 a2 b0 b1 b2 : Int) (ha0 : Wd a0) (ha1 : Wd a1) (ha2 : Wd a2) (hb0 : Wd b0) (hb1 : Wd b1) (hb2 : Wd b2) :
    ∃ s0 s1 s2 c, SubR a0 a1 a2 b0 b1 b2 s0 s1 s2 c ∧ ∀ w, Calls Tryd.prog 14 #[.agg #[.int .u64 a0, .int .u64 a1, .int .u64 a2], .agg #[.int .u64 b0, .int .u64 b1, .int .u64 b2]] w fun e w' => e = .returned (.tuple #[.agg #[.int .u64 s0, .int .u64 s1, .int .u64 s2], .bool c]) ∧ Below w.heap.size w w' := by
  obtain ⟨s0, c1, w0, k1, e0, h0⟩ := sub64 a0 b0 0 ha0 hb0 (Or.inl rfl)
  obtain ⟨s1, c2, w1, k2, e1, h1⟩ := sub64 a1 b1 c1 ha1 hb1 k1
  obtain ⟨s2, c3, w2, k3, e2, h2⟩ := sub64 a2 b2 c2 ha2 hb2 k2
  refine ⟨s0, s1, s2, c3 != 0, ⟨w0, w1, w2, ?_⟩, fun w => sub_walk a0 a1 a2 b0 b1 b2 s0 s1 s2 c1 c2 c3 w h0 h1 h2⟩
  unfold val
  rcases k3 with rfl | rfl <;> simp <;> omega

/-- Of two answers of one difference one is the other. -/
theorem SubR.unique {a0 a1 a2 b0 b1 b2 s0 s1 s2 t0 t1 t2 : Int} {c d : Bool} (h : SubR a0 a1 a2 b0 b1 b2 s0 s1 s2 c) (k : SubR a0 a1 a2 b0 b1 b2 t0 t1 t2 d) : s0 = t0 ∧ s1 = t1 ∧ s2 = t2 := by
  obtain ⟨x, e1⟩ := h.mod
  obtain ⟨y, e2⟩ := k.mod
  exact val_inj s0 s1 s2 t0 t1 t2 (x - y) h.1 h.2.1 h.2.2.1 k.1 k.2.1 k.2.2.1 (by omega)
theorem neg_fn (a0 a1 a2 : Int) (ha0 : Wd a0) (ha1 : Wd a1) (ha2 : Wd a2) :
    ∃ s0 s1 s2 c, SubR 0 0 0 a0 a1 a2 s0 s1 s2 c ∧ ∀ w, Calls Tryd.prog 18 #[.agg #[.int .u64 a0, .int .u64 a1, .int .u64 a2]] w fun e w' => e = .returned (.agg #[.int .u64 s0, .int .u64 s1, .int .u64 s2]) ∧ Below w.heap.size w w' := by
  obtain ⟨s0, s1, s2, c, hR, _⟩ := sub_fn 0 0 0 a0 a1 a2 wd0 wd0 wd0 ha0 ha1 ha2
  refine ⟨s0, s1, s2, c, hR, fun w => (neg_any a0 a1 a2 ha0 ha1 ha2 w).mono ?_⟩
  rintro e w' ⟨t0, t1, t2, d, rfl, hR', hb⟩
  obtain ⟨rfl, rfl, rfl⟩ := hR'.unique hR
  exact ⟨rfl, hb⟩

/-- Which is greater. -/
def cmpI (x y : Int) : Int := if x = y then 0 else if x < y then -1 else 1
theorem val_pos {s0 s1 s2 : Int} (h0 : Wd s0) (h1 : Wd s1) (h2 : Wd s2) : 0 ≤ val s0 s1 s2 ∧ val s0 s1 s2 < 6277101735386680763835789423207666416102355444464034512896 := by
  obtain ⟨_, _⟩ := h0; obtain ⟨_, _⟩ := h1; obtain ⟨_, _⟩ := h2
  unfold val
  omega
theorem SubR.less {a0 a1 a2 b0 b1 b2 s0 s1 s2 : Int} {c : Bool} (ha0 : Wd a0) (ha1 : Wd a1) (ha2 : Wd a2) (hb0 : Wd b0) (hb1 : Wd b1) (hb2 : Wd b2) (h : SubR a0 a1 a2 b0 b1 b2 s0 s1 s2 c) : c = decide (val a0 a1 a2 < val b0 b1 b2) := by
  have p := val_pos h.1 h.2.1 h.2.2.1
  have q := val_pos ha0 ha1 ha2
  have r := val_pos hb0 hb1 hb2
  obtain ⟨_, _, _, e⟩ := h
  cases c <;> simp at e <;> simp <;> omega
theorem AddR.round {a0 a1 a2 b0 b1 b2 s0 s1 s2 : Int} {c : Bool} (h : AddR a0 a1 a2 b0 b1 b2 s0 s1 s2 c) : c = decide (6277101735386680763835789423207666416102355444464034512896 ≤ val a0 a1 a2 + val b0 b1 b2) := by
  have p := val_pos h.1 h.2.1 h.2.2.1
  obtain ⟨_, _, _, e⟩ := h
  cases c <;> simp at e <;> simp <;> omega

attribute [local go_sem] eq24 guard24
set_option maxHeartbeats 1000000 in
set_option maxRecDepth 100000 in
theorem cmp_same (a0 a1 a2 : Int) (w : World) : Calls Tryd.prog 19 #[.agg #[.int .u64 a0, .int .u64 a1, .int .u64 a2], .agg #[.int .u64 a0, .int .u64 a1, .int .u64 a2]] w fun e w' => e = .returned (.int .i64 0) ∧ Below w.heap.size w w' := by
  go_enter Tryd.func19, Tryd.ntmps19
  go_wp2
  go_ret
  exact ⟨rfl, (by repeat' (first | with_reducible exact Below.refl _ _ | with_reducible refine Below.drew ?_ | with_reducible refine below_drewN ?_ _ | with_reducible refine Below.setCell ?_ ?_ _ | with_reducible refine Below.alloc ?_ ?_ _ | omega | (simp; done) | (simp; omega)))⟩
set_option maxHeartbeats 1000000 in
set_option maxRecDepth 100000 in
theorem cmp_other (a0 a1 a2 b0 b1 b2 s0 s1 s2 : Int) (c : Bool) (hne : (a0 == b0 && (a1 == b1 && a2 == b2)) = false)
    (hS : ∀ w, Calls Tryd.prog 14 #[.agg #[.int .u64 a0, .int .u64 a1, .int .u64 a2], .agg #[.int .u64 b0, .int .u64 b1, .int .u64 b2]] w fun e w' => e = .returned (.tuple #[.agg #[.int .u64 s0, .int .u64 s1, .int .u64 s2], .bool c]) ∧ Below w.heap.size w w') (w : World) :
    Calls Tryd.prog 19 #[.agg #[.int .u64 a0, .int .u64 a1, .int .u64 a2], .agg #[.int .u64 b0, .int .u64 b1, .int .u64 b2]] w fun e w' => e = .returned (.int .i64 (if c then -1 else 1)) ∧ Below w.heap.size w w' := by
  have HS : Hid (∀ w, Calls Tryd.prog 14 #[.agg #[.int .u64 a0, .int .u64 a1, .int .u64 a2], .agg #[.int .u64 b0, .int .u64 b1, .int .u64 b2]] w fun e w' => e = .returned (.tuple #[.agg #[.int .u64 s0, .int .u64 s1, .int .u64 s2], .bool c]) ∧ Below w.heap.size w w') := hS
  clear hS
  go_enter Tryd.func19, Tryd.ntmps19
  go_wp2_with fail
  refine (HS.out _).mono ?_
  rintro e w1 ⟨rfl, hb1⟩
  have hz1 : w.heap.size + 1 < w1.heap.size := by have := hb1.size; simp at this; omega
  cases c
  all_goals go_wp2
  all_goals go_ret
  all_goals exact ⟨rfl, (by repeat' (first | with_reducible exact Below.refl _ _ | with_reducible refine Below.drew ?_ | with_reducible refine below_drewN ?_ _ | with_reducible refine Below.setCell ?_ ?_ _ | with_reducible refine Below.alloc ?_ ?_ _ | with_reducible refine Below.trans ?_ (hb1.mono ?_) | omega | (simp; done) | (simp; omega)))⟩
theorem cmp_fn (a0 a1 a2 b0 b1 b2 : Int) (ha0 : Wd a0) (ha1 : Wd a1) (ha2 : Wd a2) (hb0 : Wd b0) (hb1 : Wd b1) (hb2 : Wd b2) (w : World) :
    Calls Tryd.prog 19 #[.agg #[.int .u64 a0, .int .u64 a1, .int .u64 a2], .agg #[.int .u64 b0, .int .u64 b1, .int .u64 b2]] w fun e w' => e = .returned (.int .i64 (cmpI (val a0 a1 a2) (val b0 b1 b2))) ∧ Below w.heap.size w w' := by
  by_cases h : a0 = b0 ∧ a1 = b1 ∧ a2 = b2
  · obtain ⟨rfl, rfl, rfl⟩ := h
    unfold cmpI
    rw [if_pos rfl]
    exact cmp_same a0 a1 a2 w
  · have hv : ¬ val a0 a1 a2 = val b0 b1 b2 := fun e => h (val_inj a0 a1 a2 b0 b1 b2 0 ha0 ha1 ha2 hb0 hb1 hb2 (by omega))
    obtain ⟨s0, s1, s2, c, hR, hS⟩ := sub_fn a0 a1 a2 b0 b1 b2 ha0 ha1 ha2 hb0 hb1 hb2
    have e := hR.less ha0 ha1 ha2 hb0 hb1 hb2
    have hn : (a0 == b0 && (a1 == b1 && a2 == b2)) = false := by
      simp only [Bool.and_eq_false_iff, beq_eq_false_iff_ne]
      omega
    have := cmp_other a0 a1 a2 b0 b1 b2 s0 s1 s2 c hn hS w
    unfold cmpI
    rw [if_neg hv]
    rw [e] at this
    simpa using this
end Go.Proofs.YtlgadaojekcjeaaDoor

/-
  ShapeAll of what is no shape: no round; the whole. No condition.
-/
import Derived.Test.YtfiblemandpfeaaSh17
namespace Go.Proofs.Ytfiblemandpfeaa
set_option linter.unusedVariables false
open Go.RowKit Go.Shelf
attribute [local go_sem] Oper.semAt_some

set_option maxRecDepth 100000 in
theorem all0_stops (fu : Nat) (b1 b2 : Nat) (V : World) (c1 : Blk V b1 3 #[.int .i64 0]) :
    SeqStopsK Fence.wide fu Try.prog 22 #[.pointer (some ⟨b1, 0, none⟩), .pointer (some ⟨b2, 0, none⟩)] (encN [] (S := 0)) (KR V.heap.size V.heap.size) (fun ys => True) (fun pre => False) 0 V := by
  intro l J Jx W hW hJ _ hY h0
  have e1 : W.cell? ⟨b1, 0, none⟩ = some (.int .i64 0) := (c1.below hW).cell 0
  refine callsIn_of_wp Try.func22 rfl trivial ?_ rfl
  simp only [Try.ntmps22, List.size_toArray, List.length_cons, List.length_nil, Nat.reduceAdd, Nat.reduceSub, Array.replicate_succ, Array.replicate_zero, List.push_toArray, List.append_toArray, List.nil_append, List.cons_append]
  gi_wp2
  gi_loopw [6] (fun v wr => v = .int .i64 0 ∧ J [] wr) (fun _ _ => 0)
  case atStart => exact ⟨rfl, h0⟩
  case round =>
    obtain ⟨rfl, hJs⟩ := hrel
    gi_wp2
    go_end0
    exact ⟨⟨_, rfl⟩, .inl ⟨_, trivial, hJs⟩⟩

set_option maxRecDepth 100000 in
set_option maxHeartbeats 4000000 in
theorem sall_none (W0 : World) (A : Option Addr) (C : Nat) (zs : List Int) (hZ : ZAt W0 A C zs) (hfs : zs.length * 8 ≤ 140737488355328) (hl : ¬ 100 < zs.length) (he : errV zs ≠ 0) (z : Int) : AnsB W0 6 #[.slice A zs.length C, .int .i64 z] (.bool true) := by
  intro w hw
  have HA := alive_any W0
  have HR := rsize_any W0 A C zs hZ
  have HAl := all_any W0 A C zs hZ hfs
  have hs := sizeV_err he
  rw [hs] at HR
  have h' : ¬ (100 : Int) < (zs.length : Int) := by omega
  have HAu : ∀ {w : World}, Below W0.heap.size W0 w → ∀ {R : Ending → World → Prop}, (∀ b1 b2 w', Blk w' b1 3 #[.int .i64 0] → Below w.heap.size w w' → R (.returned (.func (.func 22) #[] #[.pointer (some ⟨b1, 0, none⟩), .pointer (some ⟨b2, 0, none⟩)])) w') → Calls Try.prog 17 #[.slice A zs.length C] w R := fun {w} hw {R} k => by
    refine (HAl w hw).mono ?_
    rintro e w' ⟨b1, b2, A', C', rfl, c1, c2, z2, l1, l2, l3, hb⟩
    rw [hs] at c1
    exact k b1 b2 w' c1 hb
  generalize errV zs = E at *
  generalize zs.length = L at *
  clear HAl hs hZ
  have hBV : Below w.heap.size w (((w.alloc (.cells #[.slice A L C] 22)).alloc (.cells #[.int .i64 z] 3)).alloc (.cells #[.bool false] 4)) := bb (bb (below_alloc _ _) (below_alloc _ _)) (below_alloc _ _)
  have b0 : Blk (((w.alloc (.cells #[.slice A L C] 22)).alloc (.cells #[.int .i64 z] 3)).alloc (.cells #[.bool false] 4)) w.heap.size 22 #[.slice A L C] := ((Blk.new _ _ _).alloc _).alloc _
  have b1 := (Blk.new (w.alloc (.cells #[.slice A L C] 22)) 3 #[.int .i64 z]).alloc (.cells #[.bool false] 4)
  have b2 := Blk.new ((w.alloc (.cells #[.slice A L C] 22)).alloc (.cells #[.int .i64 z] 3)) 4 #[.bool false]
  rw [World.size_alloc] at b1
  rw [World.size_alloc, World.size_alloc] at b2
  have hw0 := hw.trans (hBV.mono hw.size)
  have hf7 : Fence.wide.fn 7 := trivial
  have hf9 : Fence.wide.fn 9 := trivial
  have hf17 : Fence.wide.fn 17 := trivial
  refine (callsIn_wide (n := 6)).1 ?_
  refine callsIn_of_wp_marks Try.func6 rfl trivial ?_ rfl
  simp only [Try.ntmps6, List.size_toArray, List.length_cons, List.length_nil, Nat.reduceAdd, Nat.reduceSub, Array.replicate_succ, Array.replicate_zero, List.push_toArray, List.append_toArray, List.nil_append, List.cons_append]
  gi_wp2_with (first
    | (gi_at_call 7; refine callsIn_wide.2 (AnsB.use HA hw0 fun w2 hb2 => ?_); have hw2 := hw0.trans (hb2.mono hw0.size); have e0 := (b0.below hb2).cell 0; have lt0 := (b0.below hb2).lt; have lt1 : w.heap.size < w2.heap.size + 1 := Nat.lt_succ_of_lt lt0; have lt2 : w.heap.size < w2.heap.size + 1 + 1 := Nat.lt_succ_of_lt lt1; simp at e0)
    | (gi_at_call 9; refine callsIn_wide.2 (AnsQ.use HR hw2 ?_))
    | (gi_at_call 17; refine callsIn_wide.2 (HAu (hw2.trans ((bb (bb (below_alloc w2 (.cells #[.int .i64 0] 3)) (below_alloc _ (.cells #[.int .i64 E] 3))) (below_alloc _ (.cells #[.int .i64 0] 3))).mono hw2.size)) fun b4 b5 V c4 hbV => ?_)))
  have hb3 := bb (bb (below_alloc w2 (.cells #[.int .i64 0] 3)) (below_alloc _ (.cells #[.int .i64 E] 3))) (below_alloc _ (.cells #[.int .i64 0] 3))
  have s0 := ((Blk.new w2 3 #[.int .i64 0]).alloc (.cells #[.int .i64 E] 3)).alloc (.cells #[.int .i64 0] 3)
  have s2 := Blk.new ((w2.alloc (.cells #[.int .i64 0] 3)).alloc (.cells #[.int .i64 E] 3)) 3 #[.int .i64 0]
  rw [World.size_alloc, World.size_alloc] at s2
  have z1 := (b1.below hb2).below (bb hb3 hbV)
  have z2 := (b2.below hb2).below (bb hb3 hbV)
  replace s0 := s0.below hbV
  replace s2 := s2.below hbV
  have hBwV : Below w.heap.size w V := bb (bb hBV hb2) (bb hb3 hbV)
  have hVs : w.heap.size + 1 + 1 < V.heap.size := z2.lt
  have HSeq := all0_stops 5 b4 b5 V c4
  clear hb3 c4 HAu HR
  refine wpIn_rangeFunc_ownH rfl (by omega) (gf := 22) (lb := #[.pointer (some ⟨b4, 0, none⟩), .pointer (some ⟨b5, 0, none⟩)]) rfl trivial (enters_of Try.func22 (by kernel_rfl) rfl)
    HSeq KR.trans (KR.put (Nat.le_refl _)) (Below.refl _ _) (fun _ => rfl)
    (fun pre W => (Blk W (w.heap.size + 1) 3 #[.int .i64 z] ∧ Blk W (w.heap.size + 1 + 1) 4 #[.bool false] ∧ Blk W w2.heap.size 3 #[.int .i64 0] ∧ Blk W (w2.heap.size + 1 + 1) 3 #[.int .i64 0]) ∧ Below w.heap.size w W)
    (fun c pre W => False)
    (OwnFrom.and (Own.from (fun s X Y row hs hg hr => ⟨blk_own (β := Unit) _ _ (fun _ => _) () X Y row hs.1 hg hr, blk_own (β := Unit) _ _ (fun _ => _) () X Y row hs.2.1 hg hr, blk_own (β := Unit) _ _ (fun _ => _) () X Y row hs.2.2.1 hg hr, blk_own (β := Unit) _ _ (fun _ => _) () X Y row hs.2.2.2 hg hr⟩) _) (ownFrom_below (Nat.le_refl _) hBwV.size))
    (fun _ _ _ _ _ hs _ _ => hs)
    ⟨⟨z1, z2, s0, s2⟩, hBwV⟩
    (fun x a' W => False) (fun _ _ _ _ _ _ hs _ _ => hs) ?assign ?body ?done ?stop
  case assign =>
    intro l pre x
    exact absurd x.2 (Nat.not_lt_zero _)
  case body =>
    rintro l pre x a' W hl hr hi h
    exact h.elim
  case done =>
    rintro D ys W hD _ ⟨⟨i1, i2, i3, i4⟩, hB⟩ hK
    have e1 : W.cell? ⟨w.heap.size + 1, 0, none⟩ = some (.int .i64 z) := i1.cell 0
    have e2 : W.cell? ⟨w.heap.size + 1 + 1, 0, none⟩ = some (.bool false) := i2.cell 0
    have f2 := i2.frozen 0
    have e3 : W.cell? ⟨w2.heap.size, 0, none⟩ = some (.int .i64 0) := i3.cell 0
    have e5 : W.cell? ⟨w2.heap.size + 1 + 1, 0, none⟩ = some (.int .i64 0) := i4.cell 0
    have FE := fun tm ht => fin_true (tm := tm) i2 hK (by omega) hB rfl ht
    clear HSeq z1 z2 s0 s2 i1 i2 i3 i4
    by_cases hst : (0 : Int) = z
    · have hst' : ((0 : Int) == z) = true := by simp [hst]
      gi_wp2
      exact FE _ rfl
    · have hst' : ((0 : Int) == z) = false := by simp [hst]
      gi_wp2
      exact FE _ rfl
  case stop =>
    rintro D c pre W _ h _ _
    exact h.elim
/-- ShapeAll. -/
theorem all_law (W : World) (A : Option Addr) (C : Nat) (zs : List Int) (hZ : ZAt W A C zs) (hfs : zs.length * 8 ≤ 140737488355328) (z : Int) (hz : I64 z) : AnsB W 6 #[.slice A zs.length C, .int .i64 z] (.bool true) := by
  by_cases hl : 100 < zs.length
  · exact sall_many W A C _ hl z
  by_cases he : errV zs = 0
  · obtain ⟨ds, rfl, hS⟩ := errV_zero he
    rw [ints_len] at hfs ⊢
    exact sall_shape W A C ds hS hZ hfs z
  · exact sall_none W A C zs hZ hfs hl he z
end Go.Proofs.Ytfiblemandpfeaa

/-
  What shape.Strides answers: a new row. No condition but that the row lies there.
-/
import Derived.Test.YtccknfhhmdoffaaSh9V
namespace Go.Proofs.Ytccknfhhmdoffaa
set_option linter.unusedVariables false
open Go.RowKit Go.Shelf
attribute [local go_sem] Oper.semAt_some

/-- Strides answers no row. -/
theorem strides_none (W : World) (A : Option Addr) (C : Nat) (zs : List Int) (hZ : ZAt W A C zs) (he : errV zs ≠ 0) : AnsB W 35 #[.slice A zs.length C] (.slice none 0 0) := by
  intro w hw
  have HS := size_any W A C zs hZ
  generalize sizeV zs = sv at HS
  generalize errV zs = ev at HS he
  generalize zs.length = L at HS ⊢
  clear hZ
  refine (callsIn_wide (n := 3)).1 ?_
  have hfS : Fence.wide.fn 29 := trivial
  refine callsIn_of_wp_marks Try.func35 rfl trivial ?_ rfl
  simp only [Try.ntmps35, List.size_toArray, List.length_cons, List.length_nil, Nat.reduceAdd, Nat.reduceSub, Array.replicate_succ, Array.replicate_zero, List.push_toArray, List.append_toArray, List.nil_append, List.cons_append]
  gi_wp2_with (gi_at_call 29; refine callsIn_wide.2 (AnsQ.use HS hw ?_))
  refine ⟨_, results_tmp rfl _ _ _, rfl, Below.refl _ _⟩
/-- The row so far. -/
def stS (l : List (Nat × Nat)) : Int × (Nat → Int) := l.foldl (fun s x => (wrap64 (s.1 * (x.2 : Int)), fun j => if j = x.1 then s.1 else s.2 j)) (1, fun _ => 0)
theorem stS_snoc (l : List (Nat × Nat)) (x : Nat × Nat) : stS (l ++ [x]) = (wrap64 ((stS l).1 * (x.2 : Int)), fun j => if j = x.1 then (stS l).1 else (stS l).2 j) := by simp [stS]
theorem wrap_le {x : Nat} (h : x ≤ 4096) : wrap64 (x : Int) = x := by unfold wrap64; omega
theorem stS_bk {ds : List Nat} (h : Shp ds) {j : Nat} (hj : j < ds.length) : (stS (bk ds)).2 j = (strd ds j : Int) := by
  have hf := h.few
  have hs := fun k => wrap_le (strd_le h k)
  match ds, hf with
  | [], _ => simp at hj
  | [a], _ =>
    obtain rfl : j = 0 := by simp at hj; omega
    simp [stS, bk, strd, pr]
  | [a, b], _ =>
    have h0 := hs 0
    simp [strd, pr] at h0
    match j, hj with
    | 0, _ => simp [stS, bk, strd, pr, h0]
    | 1, _ => simp [stS, bk, strd, pr]
    | j + 2, hj => simp at hj; omega
  | [a, b, c], _ =>
    have h0 := hs 0; have h1 := hs 1
    simp [strd, pr] at h0 h1
    match j, hj with
    | 0, _ => simp [stS, bk, strd, pr, h1]; rw [Int.mul_comm, h0]
    | 1, _ => simp [stS, bk, strd, pr, h1]
    | 2, _ => simp [stS, bk, strd, pr]
    | j + 3, hj => simp at hj; omega
  | [a, b, c, d], _ =>
    have h0 := hs 0; have h1 := hs 1; have h2 := hs 2
    simp [strd, pr] at h0 h1 h2
    match j, hj with
    | 0, _ => simp [stS, bk, strd, pr, h2]; rw [Int.mul_comm (d : Int), h1, Int.mul_comm, h0]
    | 1, _ => simp [stS, bk, strd, pr, h2]; rw [Int.mul_comm, h1]
    | 2, _ => simp [stS, bk, strd, pr, h2]
    | 3, _ => simp [stS, bk, strd, pr]
    | j + 4, hj => simp at hj; omega
  | _ :: _ :: _ :: _ :: _ :: _, hf => simp at hf
def csL (L : Nat) (f : Nat → Int) : Array Value := ((List.range L).map fun j => Value.int .i64 (f j)).toArray
theorem csL_get {L : Nat} (f : Nat → Int) {k : Nat} (hk : k < L) : (csL L f)[k]? = some (.int .i64 (f k)) := by
  simp [csL, hk]
theorem csL_set {L : Nat} (f : Nat → Int) (k : Nat) (r : Int) : (csL L f).setIfInBounds k (.int .i64 r) = csL L fun j => if j = k then r else f j := by
  apply Array.ext
  · simp [csL]
  · intro i h1 h2
    rw [Array.getElem_setIfInBounds (by simpa [csL] using h2)]
    by_cases h : k = i
    · subst h; simp [csL]
    · rw [if_neg h]
      simp [csL]
      intro e
      exact absurd e.symm h
theorem make_run {L : Nat} (h : L ≤ 4) (w : World) : (Instr.makeSlice 22 (.int .i64 (L : Int)) (.int .i64 (L : Int))).run Try.prog w = .ok (.slice (some ⟨w.heap.size, 0, none⟩) L L) (w.alloc (.cells (csL L fun _ => 0) 3)) := by
  have m0 : ∀ w : World, (Instr.makeSlice 22 (.int .i64 0) (.int .i64 0)).run Try.prog w = .ok (.slice (some ⟨w.heap.size, 0, none⟩) 0 0) (w.alloc (.cells #[] 3)) := fun _ => by kernel_rfl
  have m1 : ∀ w : World, (Instr.makeSlice 22 (.int .i64 1) (.int .i64 1)).run Try.prog w = .ok (.slice (some ⟨w.heap.size, 0, none⟩) 1 1) (w.alloc (.cells #[.int .i64 0] 3)) := fun _ => by kernel_rfl
  have m2 : ∀ w : World, (Instr.makeSlice 22 (.int .i64 2) (.int .i64 2)).run Try.prog w = .ok (.slice (some ⟨w.heap.size, 0, none⟩) 2 2) (w.alloc (.cells #[.int .i64 0, .int .i64 0] 3)) := fun _ => by kernel_rfl
  have m3 : ∀ w : World, (Instr.makeSlice 22 (.int .i64 3) (.int .i64 3)).run Try.prog w = .ok (.slice (some ⟨w.heap.size, 0, none⟩) 3 3) (w.alloc (.cells #[.int .i64 0, .int .i64 0, .int .i64 0] 3)) := fun _ => by kernel_rfl
  have m4 : ∀ w : World, (Instr.makeSlice 22 (.int .i64 4) (.int .i64 4)).run Try.prog w = .ok (.slice (some ⟨w.heap.size, 0, none⟩) 4 4) (w.alloc (.cells #[.int .i64 0, .int .i64 0, .int .i64 0, .int .i64 0] 3)) := fun _ => by kernel_rfl
  match L, h with
  | 0, _ => exact m0 w
  | 1, _ => exact m1 w
  | 2, _ => exact m2 w
  | 3, _ => exact m3 w
  | 4, _ => exact m4 w
theorem strs_get (L : Nat) (f : Nat → Int) (i : Nat) (z : Int) (h : ((List.range L).map f)[i]? = some z) : i < L ∧ z = f i := by
  have hi : i < L := by simpa using (List.getElem?_eq_some_iff.1 h).1
  rw [List.getElem?_map, List.getElem?_range hi] at h
  exact ⟨hi, by simpa using h.symm⟩
/-- A shape's strides: a new row. -/
def strs (ds : List Nat) : List Int := (List.range ds.length).map fun k => (strd ds k : Int)
def StridesAns (W : World) (v : Value) (ds : List Nat) : Prop := ∀ w, Below W.heap.size W w → Calls Try.prog 35 #[v] w fun e w' => ∃ b, e = .returned (.slice (some ⟨b, 0, none⟩) ds.length ds.length) ∧ ZAt w' (some ⟨b, 0, none⟩) ds.length (strs ds) ∧ Below w.heap.size w w'

set_option maxRecDepth 100000 in
set_option maxHeartbeats 4000000 in
theorem strides_any (W0 : World) (A : Option Addr) (C : Nat) (ds : List Nat) (hS : Shp ds) (hZ : ZAt W0 A C (ints ds)) : StridesAns W0 (.slice A ds.length C) ds := by
  intro w hw
  have hl4 := hS.few
  have HSz := size_any W0 A C (ints ds) hZ
  rw [ints_len, errV_shape hS] at HSz
  generalize sizeV (ints ds) = sv at HSz
  obtain ⟨L, hL⟩ : ∃ L, ds.length = L := ⟨_, rfl⟩
  have HB := fun (V : World) h1 h2 h3 => back_stops 2 (by omega) (w.heap.size + 1 + 1 + 1) w.heap.size A C L ds hL hS.pos V h1 h2 h3 W0 hw.size hZ
  have HX : Hid (∀ j, j < L → (stS (bk ds)).2 j = (strd ds j : Int)) := fun j hj => stS_bk hS (by rw [hL]; exact hj)
  have HLe : Hid (∀ j, strd ds j ≤ 4096) := strd_le hS
  have HL : Hid (ds.length = L) := hL
  rw [hL] at hl4 HSz ⊢
  clear hL
  have hmk := make_run hl4
  have hfA : Fence.wide.fn 46 := trivial
  have hfS : Fence.wide.fn 29 := trivial
  refine (callsIn_wide (n := 3)).1 ?_
  refine callsIn_of_wp_marks Try.func35 rfl trivial ?_ rfl
  simp only [Try.ntmps35, List.size_toArray, List.length_cons, List.length_nil, Nat.reduceAdd, Nat.reduceSub, Array.replicate_succ, Array.replicate_zero, List.push_toArray, List.append_toArray, List.nil_append, List.cons_append]
  gi_wp2_with (first
    | (gi_at_call 29; refine callsIn_wide.2 (AnsQ.use HSz hw ?_))
    | (gi_at_call 46; refine (back_in 2 _ _ _ _).mono ?_; rintro e w' ⟨rfl, rfl⟩))
  obtain ⟨V, hV⟩ : ∃ V, (((w.alloc (.cells (csL L fun _ => 0) 3)).alloc (.cells #[.slice (some ⟨w.heap.size, 0, none⟩) L L] 22)).alloc (.cells #[.int .i64 1] 3)).alloc (.cells #[.slice A L C] 22) = V := ⟨_, rfl⟩
  have b0 : Blk V w.heap.size 3 (csL L fun _ => 0) := by rw [← hV]; exact (((Blk.new _ _ _).alloc _).alloc _).alloc _
  have b1 : Blk V (w.heap.size + 1) 22 #[.slice (some ⟨w.heap.size, 0, none⟩) L L] := by
    rw [← hV]; have := ((Blk.new (w.alloc (.cells (csL L fun _ => 0) 3)) 22 #[.slice (some ⟨w.heap.size, 0, none⟩) L L]).alloc (.cells #[.int .i64 1] 3)).alloc (.cells #[.slice A L C] 22); rw [World.size_alloc] at this; exact this
  have b2 : Blk V (w.heap.size + 1 + 1) 3 #[.int .i64 1] := by
    rw [← hV]; have := (Blk.new ((w.alloc (.cells (csL L fun _ => 0) 3)).alloc (.cells #[.slice (some ⟨w.heap.size, 0, none⟩) L L] 22)) 3 #[.int .i64 1]).alloc (.cells #[.slice A L C] 22); rw [World.size_alloc, World.size_alloc] at this; exact this
  have b3 : Blk V (w.heap.size + 1 + 1 + 1) 22 #[.slice A L C] := by
    rw [← hV]; have := Blk.new (((w.alloc (.cells (csL L fun _ => 0) 3)).alloc (.cells #[.slice (some ⟨w.heap.size, 0, none⟩) L L] 22)).alloc (.cells #[.int .i64 1] 3)) 22 #[.slice A L C]; rw [World.size_alloc, World.size_alloc, World.size_alloc] at this; exact this
  have hBV : Below w.heap.size w V := by rw [← hV]; exact bb (bb (bb (below_alloc _ _) (below_alloc _ _)) (below_alloc _ _)) (below_alloc _ _)
  have hVs : V.heap.size = w.heap.size + 4 := by rw [← hV]; simp
  rw [hV]
  clear hV hmk HSz
  have HBV := HB V (by omega) (by omega) (b3.cell 0) (hw.trans (hBV.mono hw.size))
  refine wpIn_rangeFunc_ownG rfl (by omega) (gf := 49) (lb := #[.pointer (some ⟨w.heap.size + 1 + 1 + 1, 0, none⟩)]) rfl trivial (enters_of Try.func49 (by kernel_rfl) rfl)
    HBV KB.trans (KB.put (by omega) (by omega)) (Below.refl _ _) (fun _ => rfl)
    (fun pre W => (Blk W w.heap.size 3 (csL L (stS (axs pre)).2) ∧ Blk W (w.heap.size + 1) 22 #[.slice (some ⟨w.heap.size, 0, none⟩) L L] ∧ Blk W (w.heap.size + 1 + 1) 3 #[.int .i64 (stS (axs pre)).1] ∧ Blk W (w.heap.size + 1 + 1 + 1) 22 #[.slice A L C]) ∧ Below w.heap.size w W)
    (fun _ _ _ => False)
    (OwnFrom.and (Own.from (fun s X Y row hs hg hr => ⟨blk_own (β := Unit) _ _ (fun _ => _) () X Y row hs.1 hg hr, blk_own (β := Unit) _ _ (fun _ => _) () X Y row hs.2.1 hg hr, blk_own (β := Unit) _ _ (fun _ => _) () X Y row hs.2.2.1 hg hr, blk_own (β := Unit) _ _ (fun _ => _) () X Y row hs.2.2.2 hg hr⟩) _) (ownFrom_below (Nat.le_refl _) (by omega)))
    (fun _ _ _ _ _ hs _ _ => hs)
    ⟨⟨b0, b1, b2, b3⟩, hBV⟩
    (fun x => { tmps := #[.slice A L C, undef, .slice none 0 0, .int .i64 sv, .int .i64 0, .pointer (some ⟨w.heap.size + 1, 0, none⟩), .pointer (some ⟨w.heap.size + 1 + 1, 0, none⟩), .int .i64 (x.1.1 : Int), .int .i64 (x.1.2 : Int), .tuple #[.int .i64 sv, .int .i64 0], .slice A L C, .tuple #[.int .i64 sv, .int .i64 0], .int .i64 sv, .int .i64 0, .int .i64 0, .bool false, .slice A L C, .int .i64 (L : Int), .slice (some ⟨w.heap.size, 0, none⟩) L L, .slice A L C, .func (.func 49) #[] #[.pointer (some ⟨w.heap.size + 1 + 1 + 1, 0, none⟩)], .int .i64 (x.1.1 : Int), .int .i64 (x.1.2 : Int), undef, undef, undef, undef, undef, undef, undef, undef], defers := [] }) ?assign ?body ?done ?stop
  case assign =>
    intro l x W K hK
    gi_wp2
    exact hK
  case body =>
    rintro l pre ⟨⟨k, z⟩, hk, hz⟩ W ⟨⟨c0, c1, c2, c3⟩, hB⟩ _
    dsimp only at hk hz ⊢
    have HS : Hid (stS (axs (pre ++ [⟨(k, z), hk, hz⟩])) = (wrap64 ((stS (axs pre)).1 * (z : Int)), fun j => if j = k then (stS (axs pre)).1 else (stS (axs pre)).2 j)) := by
      unfold Hid; rw [axs_snoc, stS_snoc]
    obtain ⟨s, hs⟩ : ∃ s, (stS (axs pre)).1 = s := ⟨_, rfl⟩
    obtain ⟨f, hf⟩ : ∃ f, (stS (axs pre)).2 = f := ⟨_, rfl⟩
    rw [hs] at HS c2
    rw [hf] at HS c0
    have e0 := (c0.cell k).trans (csL_get f hk)
    have f0 := c0.frozen k
    have e1 : W.cell? ⟨w.heap.size + 1, 0, none⟩ = some (.slice (some ⟨w.heap.size, 0, none⟩) L L) := c1.cell 0
    have e2 : W.cell? ⟨w.heap.size + 1 + 1, 0, none⟩ = some (.int .i64 s) := c2.cell 0
    have f2 := c2.frozen 0
    have hkL : (k : Int) < (L : Int) := by omega
    have C0 : Hid (Blk W w.heap.size 3 (csL L f)) := c0
    have C1 : Hid (Blk W (w.heap.size + 1) 22 #[.slice (some ⟨w.heap.size, 0, none⟩) L L]) := c1
    have C2 : Hid (Blk W (w.heap.size + 1 + 1) 3 #[.int .i64 s]) := c2
    have C3 : Hid (Blk W (w.heap.size + 1 + 1 + 1) 22 #[.slice A L C]) := c3
    clear hs hf c0 c1 c2 c3 HBV HB HX HLe
    gi_wp2
    obtain ⟨t, ht⟩ : ∃ t : Int, wrap64 (s * (z : Int)) = t := ⟨_, rfl⟩
    rw [ht] at HS
    have d3 : Blk ((W.setCell ⟨w.heap.size, k, none⟩ (.int .i64 s)).setCell ⟨w.heap.size + 1 + 1, 0, none⟩ (.int .i64 t)) (w.heap.size + 1 + 1 + 1) 22 #[.slice A L C] := (C3.out.other (by omega) _ _).other (by omega) _ _
    have d2 : Blk ((W.setCell ⟨w.heap.size, k, none⟩ (.int .i64 s)).setCell ⟨w.heap.size + 1 + 1, 0, none⟩ (.int .i64 t)) (w.heap.size + 1 + 1) 3 #[.int .i64 t] := (C2.out.other (by omega) _ _).set 0 _
    have d1 : Blk ((W.setCell ⟨w.heap.size, k, none⟩ (.int .i64 s)).setCell ⟨w.heap.size + 1 + 1, 0, none⟩ (.int .i64 t)) (w.heap.size + 1) 22 #[.slice (some ⟨w.heap.size, 0, none⟩) L L] := (C1.out.other (by omega) _ _).other (by omega) _ _
    have d0 : Blk ((W.setCell ⟨w.heap.size, k, none⟩ (.int .i64 s)).setCell ⟨w.heap.size + 1 + 1, 0, none⟩ (.int .i64 t)) w.heap.size 3 (csL L fun j => if j = k then s else f j) := by
      rw [← csL_set f k s]; exact (C0.out.set _ _).other (by omega) _ _
    have hb2 : ∀ X, Below w.heap.size X W → Below w.heap.size X ((W.setCell ⟨w.heap.size, k, none⟩ (.int .i64 s)).setCell ⟨w.heap.size + 1 + 1, 0, none⟩ (.int .i64 t)) := fun X hX => (hX.setCell (p := ⟨w.heap.size, k, none⟩) (Nat.le_refl _) _).setCell (p := ⟨w.heap.size + 1 + 1, 0, none⟩) (by show _ ≤ w.heap.size + 1 + 1; omega) _
    try rw [ht]
    refine ⟨((KeepsOthers.setCell _ _ _).trans (KeepsOthers.setCell _ _ _)).from _, ⟨hb2 W (Below.refl _ _), (d3.cell 0).trans (C3.out.cell 0).symm⟩, ⟨?_, d1, ?_, d3⟩, hb2 w hB⟩
    · rw [HS.out]; exact d0
    · rw [HS.out]; exact d2
  case done =>
    rintro D ys W hD hys ⟨⟨c0, c1, c2, c3⟩, hB⟩ hK
    rw [hys] at c0 c2
    have e1 : W.cell? ⟨w.heap.size + 1, 0, none⟩ = some (.slice (some ⟨w.heap.size, 0, none⟩) L L) := c1.cell 0
    gi_wp2
    refine ⟨by simp, .inl ⟨_, _, rfl, run_takeDeferred hK, ?_⟩⟩
    have cY : Blk (W.putObj D (.deferred none)) w.heap.size 3 (csL L (stS (bk ds)).2) := c0.kept (grownBy_putObj' _ D _) (fun e => by cases e; omega)
    refine ⟨_, results_tmp rfl _ _ _, w.heap.size, rfl, ⟨by simp [strs, HL.out], by unfold maxLen; omega, fun i z hz => ?_⟩, hB.trans (belowK_b (w := w) (Nat.le_refl _) W D _ _ (by omega) hK rfl rfl)⟩
    obtain ⟨hi, rfl⟩ := strs_get _ _ i z hz
    rw [HL.out] at hi
    refine ⟨w.heap.size, 0, rfl, cY.lt, ?_, ?_⟩
    · rw [Nat.zero_add, cY.cell, csL_get _ hi, HX.out i hi]
    · have := HLe.out i
      unfold I64; omega
  case stop =>
    rintro D c pre W _ _ h _
    exact h.elim
end Go.Proofs.Ytccknfhhmdoffaa

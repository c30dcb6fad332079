/-
  What shape.indexOf answers, of a number below the size. No condition but that a shape lies there.
-/
import Derived.Test.YtccknfhhmdoffaaSh7
namespace Go.Proofs.Ytccknfhhmdoffaa
set_option linter.unusedVariables false
open Go.RowKit Go.Shelf
attribute [local go_sem] Oper.semAt_some

/-- Block B: these cells. -/
def Blk (W : World) (B : Nat) (t : TypeId) (cs : Array Value) : Prop := W.heap[B]? = some (.cells cs t (0, 0))
theorem Blk.lt {W : World} {B : Nat} {t : TypeId} {cs : Array Value} (h : Blk W B t cs) : B < W.heap.size := (Array.getElem?_eq_some_iff.1 h).1
theorem Blk.cell {W : World} {B : Nat} {t : TypeId} {cs : Array Value} (h : Blk W B t cs) (k : Nat) : W.cell? ⟨B, k, none⟩ = cs[k]? := by simp [World.cell?, show W.heap[B]? = _ from h]
theorem Blk.frozen {W : World} {B : Nat} {t : TypeId} {cs : Array Value} (h : Blk W B t cs) (k : Nat) : W.frozen? ⟨B, k, none⟩ = false := by simp [World.frozen?, show W.heap[B]? = _ from h]
theorem Blk.new (W : World) (t : TypeId) (cs : Array Value) : Blk (W.alloc (.cells cs t)) W.heap.size t cs := World.alloc_heap_new W _
theorem Blk.kept {W W' : World} {row : Option Nat} {B : Nat} {t : TypeId} {cs : Array Value} (h : Blk W B t cs) (hg : W.grownBy W' row) (hne : some B ≠ row) : Blk W' B t cs := (hg.block B h.lt hne).trans h
theorem Blk.alloc {W : World} {B : Nat} {t : TypeId} {cs : Array Value} (h : Blk W B t cs) (o : Obj) : Blk (W.alloc o) B t cs := h.kept (World.grownBy_alloc W o none) (by simp)
theorem Blk.below {W W' : World} {B : Nat} {t : TypeId} {cs : Array Value} (h : Blk W B t cs) (hb : Below W.heap.size W W') : Blk W' B t cs := (hb.block B h.lt).trans h
theorem Blk.set {W : World} {B : Nat} {t : TypeId} {cs : Array Value} (h : Blk W B t cs) (k : Nat) (v : Value) : Blk (W.setCell ⟨B, k, none⟩ v) B t (cs.setIfInBounds k v) := by
  obtain ⟨hlt, hk⟩ := Array.getElem?_eq_some_iff.1 h
  show (W.heap.modify B _)[B]? = _
  rw [Array.getElem?_eq_getElem (by rw [Array.size_modify]; exact hlt), Array.getElem_modify_self, hk]
  rfl
theorem Blk.other {W : World} {B : Nat} {t : TypeId} {cs : Array Value} (h : Blk W B t cs) {B' : Nat} (hne : B ≠ B') (k : Nat) (v : Value) : Blk (W.setCell ⟨B', k, none⟩ v) B t cs :=
  (Below.heap_setCell _ _ _ B hne).trans h
theorem blk_own {β : Type} (B : Nat) (t : TypeId) (f : β → Array Value) : Own (fun s W => Blk W B t (f s)) := by
  intro s X Y row h hg hrow
  refine h.kept hg fun e' => ?_
  obtain ⟨o, ho, hc⟩ := hrow B e'.symm
  rw [show X.heap[B]? = _ from h] at ho; cases ho; cases hc

/-- One axis: the number's rest, and what is left. -/
def stI (n : Nat) (l : List (Nat × Nat)) : Nat × (Nat → Nat) := l.foldl (fun s x => (s.1 / x.2, fun j => if j = x.1 then s.1 % x.2 else s.2 j)) (n, fun _ => 0)
theorem stI_snoc (n : Nat) (l : List (Nat × Nat)) (x : Nat × Nat) : stI n (l ++ [x]) = ((stI n l).1 / x.2, fun j => if j = x.1 then (stI n l).1 % x.2 else (stI n l).2 j) := by simp [stI]
theorem stI_le' : ∀ (l : List (Nat × Nat)) (s : Nat × (Nat → Nat)), (l.foldl (fun (s : Nat × (Nat → Nat)) x => (s.1 / x.2, fun j => if j = x.1 then s.1 % x.2 else s.2 j)) s).1 ≤ s.1
  | [], s => Nat.le_refl _
  | x :: l, s => Nat.le_trans (stI_le' l _) (Nat.div_le_self _ _)
theorem stI_le (n : Nat) (l : List (Nat × Nat)) : (stI n l).1 ≤ n := stI_le' l (n, fun _ => 0)
theorem stI_bk {ds : List Nat} (h : Shp ds) (n : Nat) {j : Nat} (hj : j < 4) : (stI n (bk ds)).2 j = ix ds n j := by
  have hf := h.few
  match ds, hf with
  | [], _ => rw [ix_out n (by simp) hj]; rfl
  | [a], _ => match j, hj with
    | 0, _ => simp [stI, bk, ix, ln]
    | 1, _ => simp [stI, bk, ix, ln, Nat.mod_one]
    | 2, _ => simp [stI, bk, ix, ln, Nat.mod_one]
    | 3, _ => simp [stI, bk, ix, ln, Nat.mod_one]
  | [a, b], _ => match j, hj with
    | 0, _ => simp [stI, bk, ix, ln]
    | 1, _ => simp [stI, bk, ix, ln]
    | 2, _ => simp [stI, bk, ix, ln, Nat.mod_one]
    | 3, _ => simp [stI, bk, ix, ln, Nat.mod_one]
  | [a, b, c], _ => match j, hj with
    | 0, _ => simp [stI, bk, ix, ln]
    | 1, _ => simp [stI, bk, ix, ln]
    | 2, _ => simp [stI, bk, ix, ln]
    | 3, _ => simp [stI, bk, ix, ln, Nat.mod_one]
  | [a, b, c, d], _ => match j, hj with
    | 0, _ => simp [stI, bk, ix, ln]
    | 1, _ => simp [stI, bk, ix, ln]
    | 2, _ => simp [stI, bk, ix, ln]
    | 3, _ => simp [stI, bk, ix, ln]
  | _ :: _ :: _ :: _ :: _ :: _, hf => simp at hf
def cs4 (f : Nat → Nat) : Array Value := #[.int .i64 (f 0 : Int), .int .i64 (f 1 : Int), .int .i64 (f 2 : Int), .int .i64 (f 3 : Int)]
theorem cs4_get (f : Nat → Nat) {k : Nat} (hk : k < 4) : (cs4 f)[k]? = some (.int .i64 (f k : Int)) := by
  match k, hk with
  | 0, _ => rfl
  | 1, _ => rfl
  | 2, _ => rfl
  | 3, _ => rfl
theorem cs4_set (f : Nat → Nat) {k : Nat} (hk : k < 4) (r : Nat) : (cs4 f).setIfInBounds k (.int .i64 (r : Int)) = cs4 fun j => if j = k then r else f j := by
  match k, hk with
  | 0, _ => simp [cs4]
  | 1, _ => simp [cs4]
  | 2, _ => simp [cs4]
  | 3, _ => simp [cs4]

set_option maxRecDepth 100000 in
set_option maxHeartbeats 4000000 in
/-- shape.indexOf. -/
theorem indexOf_in (fu : Nat) (hfu : 3 ≤ fu) (W0 : World) (A : Option Addr) (C : Nat) (ds : List Nat) (hS : Shp ds) (hZ : ZAt W0 A C (ints ds)) (n : Nat) (hn : n < pr ds) (w : World) (hw : Below W0.heap.size W0 w) :
    CallsIn Fence.wide fu Try.prog 45 #[.slice A ds.length C, .int .i64 (n : Int)] w fun e w' => e = .returned (ixV fun j => (ix ds n j : Int)) ∧ Below w.heap.size w w' := by
  have h1 : 1 ≤ fu := by omega
  have hfA : Fence.wide.fn 46 := trivial
  have hl4 := hS.few
  obtain ⟨L, hL⟩ : ∃ L, ds.length = L := ⟨_, rfl⟩
  have HB := fun (V : World) h1 h2 h3 => back_stops (fu - 1) (by omega) (w.heap.size + 1 + 1 + 1) w.heap.size A C L ds hL hS.pos V h1 h2 h3 W0 hw.size hZ
  rw [hL] at hl4 ⊢
  have hn4 : n < 4096 := Nat.lt_of_lt_of_le hn hS.max
  have HX : Hid (∀ j, j < 4 → (stI n (bk ds)).2 j = ix ds n j) := fun j hj => stI_bk hS n hj
  refine callsIn_of_wp_marks Try.func45 rfl trivial ?_ rfl
  simp only [Try.ntmps45, List.size_toArray, List.length_cons, List.length_nil, Nat.reduceAdd, Nat.reduceSub, Array.replicate_succ, Array.replicate_zero, List.push_toArray, List.append_toArray, List.nil_append, List.cons_append]
  gi_wp2_with (gi_at_call 46; refine (back_in (fu - 1) _ _ _ _).mono ?_; rintro e w' ⟨rfl, rfl⟩)
  obtain ⟨V, hV⟩ : ∃ V, (((w.alloc (.cells #[.int .i64 (n : Int)] 3)).alloc (.cells #[.int .i64 0, .int .i64 0, .int .i64 0, .int .i64 0] 62)).alloc (.cells #[.int .i64 0, .int .i64 0, .int .i64 0, .int .i64 0] 62)).alloc (.cells #[.slice A L C] 22) = V := ⟨_, rfl⟩
  have b0 : Blk V w.heap.size 3 #[.int .i64 (n : Int)] := by rw [← hV]; exact (((Blk.new _ _ _).alloc _).alloc _).alloc _
  have b1 : Blk V (w.heap.size + 1) 62 (cs4 fun _ => 0) := by
    rw [← hV]; have := ((Blk.new (w.alloc (.cells #[.int .i64 (n : Int)] 3)) 62 (cs4 fun _ => 0)).alloc (.cells #[.int .i64 0, .int .i64 0, .int .i64 0, .int .i64 0] 62)).alloc (.cells #[.slice A L C] 22); rw [World.size_alloc] at this; exact this
  have b2 : Blk V (w.heap.size + 1 + 1) 62 (cs4 fun _ => 0) := by
    rw [← hV]; have := ((Blk.new ((w.alloc (.cells #[.int .i64 (n : Int)] 3)).alloc (.cells #[.int .i64 0, .int .i64 0, .int .i64 0, .int .i64 0] 62)) 62 (cs4 fun _ => 0))).alloc (.cells #[.slice A L C] 22); rw [World.size_alloc, World.size_alloc] at this; exact this
  have b3 : Blk V (w.heap.size + 1 + 1 + 1) 22 #[.slice A L C] := by
    rw [← hV]; have := Blk.new (((w.alloc (.cells #[.int .i64 (n : Int)] 3)).alloc (.cells #[.int .i64 0, .int .i64 0, .int .i64 0, .int .i64 0] 62)).alloc (.cells #[.int .i64 0, .int .i64 0, .int .i64 0, .int .i64 0] 62)) 22 #[.slice A L C]; rw [World.size_alloc, World.size_alloc, World.size_alloc] at this; exact this
  have hBV : Below w.heap.size w V := by rw [← hV]; exact bb (bb (bb (below_alloc _ _) (below_alloc _ _)) (below_alloc _ _)) (below_alloc _ _)
  have hVs : V.heap.size = w.heap.size + 4 := by rw [← hV]; simp
  rw [hV]
  clear hV
  have HBV := HB V (by omega) (by omega) (b3.cell 0) (hw.trans (hBV.mono hw.size))
  refine wpIn_rangeFunc_ownG rfl h1 (gf := 49) (lb := #[.pointer (some ⟨w.heap.size + 1 + 1 + 1, 0, none⟩)]) rfl trivial (enters_of Try.func49 (by kernel_rfl) rfl)
    HBV KB.trans (KB.put (by omega) (by omega)) (Below.refl _ _) (fun _ => rfl)
    (fun pre W => (Blk W w.heap.size 3 #[.int .i64 ((stI n (axs pre)).1 : Int)] ∧ Blk W (w.heap.size + 1) 62 (cs4 fun _ => 0) ∧ Blk W (w.heap.size + 1 + 1) 62 (cs4 (stI n (axs pre)).2) ∧ Blk W (w.heap.size + 1 + 1 + 1) 22 #[.slice A L C]) ∧ Below w.heap.size w W)
    (fun _ _ _ => False)
    (OwnFrom.and (Own.from (fun s X Y row hs hg hr => ⟨blk_own (β := Unit) _ _ (fun _ => _) () X Y row hs.1 hg hr, blk_own (β := Unit) _ _ (fun _ => _) () X Y row hs.2.1 hg hr, blk_own (β := Unit) _ _ (fun _ => _) () X Y row hs.2.2.1 hg hr, blk_own (β := Unit) _ _ (fun _ => _) () X Y row hs.2.2.2 hg hr⟩) _) (ownFrom_below (Nat.le_refl _) (by omega)))
    (fun _ _ _ _ _ hs _ _ => hs)
    ⟨⟨b0, b1, b2, b3⟩, hBV⟩
    (fun x => { tmps := #[.slice A L C, .int .i64 (n : Int), undef, .pointer (some ⟨w.heap.size, 0, none⟩), .pointer (some ⟨w.heap.size + 1, 0, none⟩), .pointer (some ⟨w.heap.size + 1 + 1, 0, none⟩), .int .i64 (x.1.1 : Int), .int .i64 (x.1.2 : Int), .slice A L C, .func (.func 49) #[] #[.pointer (some ⟨w.heap.size + 1 + 1 + 1, 0, none⟩)], .int .i64 (x.1.1 : Int), .int .i64 (x.1.2 : Int), undef, undef, undef, undef, undef, undef, undef, undef, undef], defers := [] }) ?assign ?body ?done ?stop
  case assign =>
    intro l x W K hK
    gi_wp2
    exact hK
  case body =>
    rintro l pre ⟨⟨k, z⟩, hk, hz⟩ W ⟨⟨c0, c1, c2, c3⟩, hB⟩ _
    dsimp only at hk hz ⊢
    have e0 : W.cell? ⟨w.heap.size, 0, none⟩ = some (.int .i64 ((stI n (axs pre)).1 : Int)) := c0.cell 0
    have f0 := c0.frozen 0
    have e2 := (c2.cell k).trans (cs4_get _ (by omega))
    have f2 := c2.frozen k
    have HS : Hid (stI n (axs (pre ++ [⟨(k, z), hk, hz⟩])) = ((stI n (axs pre)).1 / z, fun j => if j = k then (stI n (axs pre)).1 % z else (stI n (axs pre)).2 j)) := by
      unfold Hid; rw [axs_snoc, stI_snoc]
    have hm4 : (stI n (axs pre)).1 < 4096 := Nat.lt_of_le_of_lt (stI_le n _) hn4
    obtain ⟨m, hm⟩ : ∃ m, (stI n (axs pre)).1 = m := ⟨_, rfl⟩
    obtain ⟨f, hf⟩ : ∃ f, (stI n (axs pre)).2 = f := ⟨_, rfl⟩
    rw [hm] at e0 hm4 HS c0
    rw [hf] at e2 HS c2
    have hz1 : ¬ (z : Int) = 0 := by omega
    have hq1 : Int.tdiv (m : Int) (z : Int) = ((m / z : Nat) : Int) := (Int.ofNat_tdiv m z).symm
    have hq2 : Int.tmod (m : Int) (z : Int) = ((m % z : Nat) : Int) := (Int.ofNat_tmod m z).symm
    have hw1 : wrap64 ((m / z : Nat) : Int) = ((m / z : Nat) : Int) := wrapN (Nat.lt_of_le_of_lt (Nat.div_le_self _ _) hm4)
    have hw2 : wrap64 ((m % z : Nat) : Int) = ((m % z : Nat) : Int) := wrapN (Nat.lt_of_le_of_lt (Nat.mod_le _ _) hm4)
    have hk4 : (k : Int) < 4 := by omega
    have C0 : Hid (Blk W w.heap.size 3 #[.int .i64 (m : Int)]) := c0
    have C1 : Hid (Blk W (w.heap.size + 1) 62 (cs4 fun _ => 0)) := c1
    have C2 : Hid (Blk W (w.heap.size + 1 + 1) 62 (cs4 f)) := c2
    have C3 : Hid (Blk W (w.heap.size + 1 + 1 + 1) 22 #[.slice A L C]) := c3
    clear hm hf c0 c1 c2 c3 hm4 HBV HB hn4 HX
    obtain ⟨q, hq⟩ : ∃ q, m / z = q := ⟨_, rfl⟩
    obtain ⟨r, hr⟩ : ∃ r, m % z = r := ⟨_, rfl⟩
    rw [hq] at hq1 hw1 HS
    rw [hr] at hq2 hw2 HS
    clear hq hr
    gi_wp2
    have d3 : Blk ((W.setCell ⟨w.heap.size + 1 + 1, k, none⟩ (.int .i64 (r : Int))).setCell ⟨w.heap.size, 0, none⟩ (.int .i64 (q : Int))) (w.heap.size + 1 + 1 + 1) 22 #[.slice A L C] := (C3.out.other (by omega) _ _).other (by omega) _ _
    have d2 : Blk ((W.setCell ⟨w.heap.size + 1 + 1, k, none⟩ (.int .i64 (r : Int))).setCell ⟨w.heap.size, 0, none⟩ (.int .i64 (q : Int))) (w.heap.size + 1 + 1) 62 (cs4 fun j => if j = k then r else f j) := by
      rw [← cs4_set f (by omega) r]; exact (C2.out.set _ _).other (by omega) _ _
    have d1 : Blk ((W.setCell ⟨w.heap.size + 1 + 1, k, none⟩ (.int .i64 (r : Int))).setCell ⟨w.heap.size, 0, none⟩ (.int .i64 (q : Int))) (w.heap.size + 1) 62 (cs4 fun _ => 0) := (C1.out.other (by omega) _ _).other (by omega) _ _
    have d0 : Blk ((W.setCell ⟨w.heap.size + 1 + 1, k, none⟩ (.int .i64 (r : Int))).setCell ⟨w.heap.size, 0, none⟩ (.int .i64 (q : Int))) w.heap.size 3 #[.int .i64 (q : Int)] := (C0.out.other (by omega) _ _).set 0 _
    have hb2 : ∀ X, Below w.heap.size X W → Below w.heap.size X ((W.setCell ⟨w.heap.size + 1 + 1, k, none⟩ (.int .i64 (r : Int))).setCell ⟨w.heap.size, 0, none⟩ (.int .i64 (q : Int))) := fun X hX => (hX.setCell (p := ⟨w.heap.size + 1 + 1, k, none⟩) (by show _ ≤ w.heap.size + 1 + 1; omega) _).setCell (p := ⟨w.heap.size, 0, none⟩) (Nat.le_refl _) _
    refine ⟨((KeepsOthers.setCell _ _ _).trans (KeepsOthers.setCell _ _ _)).from _, ⟨hb2 W (Below.refl _ _), (d3.cell 0).trans (C3.out.cell 0).symm⟩, ⟨?_, d1, ?_, d3⟩, hb2 w hB⟩
    · rw [HS.out]; exact d0
    · rw [HS.out]; exact d2
  case done =>
    rintro D ys W hD hys ⟨⟨c0, c1, c2, c3⟩, hB⟩ hK
    rw [hys] at c0 c2
    have g0 := (c2.cell 0).trans (cs4_get _ (by omega)); have g1 := (c2.cell 1).trans (cs4_get _ (by omega)); have g2 := (c2.cell 2).trans (cs4_get _ (by omega)); have g3 := (c2.cell 3).trans (cs4_get _ (by omega))
    rw [HX.out 0 (by omega)] at g0
    rw [HX.out 1 (by omega)] at g1
    rw [HX.out 2 (by omega)] at g2
    rw [HX.out 3 (by omega)] at g3
    have k0 := (c1.cell 0).trans (cs4_get _ (by omega)); have k1 := (c1.cell 1).trans (cs4_get _ (by omega)); have k2 := (c1.cell 2).trans (cs4_get _ (by omega)); have k3 := (c1.cell 3).trans (cs4_get _ (by omega))
    have l0 := c1.frozen 0; have l1 := c1.frozen 1; have l2 := c1.frozen 2; have l3 := c1.frozen 3
    have C1 : Hid (Blk W (w.heap.size + 1) 62 (cs4 fun _ => 0)) := c1
    clear c0 c1 c2 c3 HX HBV HB hn4
    gi_wp2
    obtain ⟨X, hX⟩ : ∃ X, (((W.setCell ⟨w.heap.size + 1, 0, none⟩ (.int .i64 (ix ds n 0 : Int))).setCell ⟨w.heap.size + 1, 1, none⟩ (.int .i64 (ix ds n 1 : Int))).setCell ⟨w.heap.size + 1, 2, none⟩ (.int .i64 (ix ds n 2 : Int))).setCell ⟨w.heap.size + 1, 3, none⟩ (.int .i64 (ix ds n 3 : Int)) = X := ⟨_, rfl⟩
    have hKO : KeepsOthers W X := by rw [← hX]; exact (((KeepsOthers.setCell _ _ _).trans (KeepsOthers.setCell _ _ _)).trans (KeepsOthers.setCell _ _ _)).trans (KeepsOthers.setCell _ _ _)
    have hbX : Below w.heap.size w X := by
      rw [← hX]
      exact (((hB.setCell (p := ⟨w.heap.size + 1, 0, none⟩) (Nat.le_succ _) _).setCell (p := ⟨w.heap.size + 1, 1, none⟩) (Nat.le_succ _) _).setCell (p := ⟨w.heap.size + 1, 2, none⟩) (Nat.le_succ _) _).setCell (p := ⟨w.heap.size + 1, 3, none⟩) (Nat.le_succ _) _
    have cX : Blk X (w.heap.size + 1) 62 #[.int .i64 (ix ds n 0 : Int), .int .i64 (ix ds n 1 : Int), .int .i64 (ix ds n 2 : Int), .int .i64 (ix ds n 3 : Int)] := by
      rw [← hX]; exact (((C1.out.set 0 _).set 1 _).set 2 _).set 3 _
    rw [hX]
    have hK' := hKO.same D _ hK rfl
    refine ⟨by simp, .inl ⟨_, _, rfl, run_takeDeferred hK', ?_⟩⟩
    have cY : Blk (X.putObj D (.deferred none)) (w.heap.size + 1) 62 #[.int .i64 (ix ds n 0 : Int), .int .i64 (ix ds n 1 : Int), .int .i64 (ix ds n 2 : Int), .int .i64 (ix ds n 3 : Int)] := cX.kept (grownBy_putObj' _ D _) (fun e => by cases e; omega)
    have y0 := cY.cell 0; have y1 := cY.cell 1; have y2 := cY.cell 2; have y3 := cY.cell 3
    refine ⟨ixV fun j => (ix ds n j : Int), ?_, rfl, hbX.trans (belowK_b (w := w) (Nat.le_refl _) X D _ _ (by omega) hK' rfl rfl)⟩
    simp at y0 y1 y2 y3
    simp [results, Try.results45, go_sem, y0, y1, y2, y3, ixV]
  case stop =>
    rintro D c pre W _ _ h _
    exact h.elim
end Go.Proofs.Ytccknfhhmdoffaa

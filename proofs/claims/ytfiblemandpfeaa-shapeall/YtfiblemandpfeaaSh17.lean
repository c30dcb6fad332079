/-
  The walk of ShapeAll: it answers true, of every row and wherever it is left. No condition.
-/
import Derived.Test.YtfiblemandpfeaaSh15
namespace Go.Proofs.Ytfiblemandpfeaa
set_option linter.unusedVariables false
open Go.RowKit Go.Shelf
attribute [local go_sem] Oper.semAt_some

theorem all_stops (fu : Nat) (hfu : 4 ≤ fu) (b1 b2 n2 : Nat) (A : Option Addr) (C : Nat) (ds : List Nat) (hS : Shp ds) (V : World) (hZ : ZAt V A C (ints ds)) (hA : ∀ b o, A = some ⟨b, o, none⟩ → n2 ≤ b)
    (c1 : Blk V b1 3 #[.int .i64 (pr ds : Int)]) (c2 : Blk V b2 22 #[.slice A ds.length C]) (h1 : n2 ≤ b1) (h2 : n2 ≤ b2) :
    SeqStopsK Fence.wide fu Try.prog 22 #[.pointer (some ⟨b1, 0, none⟩), .pointer (some ⟨b2, 0, none⟩)] (encN ds (S := pr ds)) (KR n2 V.heap.size) (fun ys => nus ys = List.range (pr ds)) (fun pre => ∃ k, k ≤ pr ds ∧ nus pre = List.range k) (pr ds) V :=
  fun l J Jx W hW hJ _ hY h0 => all1_in fu hfu l b1 b2 n2 V.heap.size A C ds hS V rfl hZ hA c1 c2 h1 h2 J Jx hY W (KR.below hW (Nat.le_refl _)) hJ h0

theorem sall_many (W : World) (A : Option Addr) (C L : Nat) (h : 100 < L) (z : Int) : AnsB W 6 #[.slice A L C, .int .i64 z] (.bool true) := by
  intro w hw
  have HA := alive_any W
  have h' : (100 : Int) < (L : Int) := by omega
  have hBV : Below w.heap.size w (((w.alloc (.cells #[.slice A L C] 22)).alloc (.cells #[.int .i64 z] 3)).alloc (.cells #[.bool false] 4)) := bb (bb (below_alloc _ _) (below_alloc _ _)) (below_alloc _ _)
  have b0 : Blk (((w.alloc (.cells #[.slice A L C] 22)).alloc (.cells #[.int .i64 z] 3)).alloc (.cells #[.bool false] 4)) w.heap.size 22 #[.slice A L C] := ((Blk.new _ _ _).alloc _).alloc _
  have b2 := Blk.new ((w.alloc (.cells #[.slice A L C] 22)).alloc (.cells #[.int .i64 z] 3)) 4 #[.bool false]
  rw [World.size_alloc, World.size_alloc] at b2
  have hw0 := hw.trans (hBV.mono hw.size)
  have hf7 : Fence.wide.fn 7 := trivial
  refine (callsIn_wide (n := 6)).1 ?_
  refine callsIn_of_wp_marks Try.func6 rfl trivial ?_ rfl
  simp only [Try.ntmps6, List.size_toArray, List.length_cons, List.length_nil, Nat.reduceAdd, Nat.reduceSub, Array.replicate_succ, Array.replicate_zero, List.push_toArray, List.append_toArray, List.nil_append, List.cons_append]
  gi_wp2_with (gi_at_call 7; refine callsIn_wide.2 (AnsB.use HA hw0 fun w2 hb2 => ?_); have e0 := (b0.below hb2).cell 0; have e2 := (b2.below hb2).cell 0; have f2 := (b2.below hb2).frozen 0; simp at e0 e2)
  refine ⟨.bool true, ?_, rfl, (bb hBV hb2).setCell (p := ⟨w.heap.size + 1 + 1, 0, none⟩) (by show _ ≤ w.heap.size + 1 + 1; omega) _⟩
  have d2 := ((b2.below hb2).set 0 (.bool true)).cell 0
  simp at d2
  simp [results, Try.results6, go_sem, d2]

/-- What lies in the law's own boxes. -/
structure SInv (B s : Nat) (A : Option Addr) (L C : Nat) (z : Int) (S : Nat) (k : Int) (W : World) : Prop where
  row : Blk W B 22 #[.slice A L C]
  stop : Blk W (B + 1) 3 #[.int .i64 z]
  res : Blk W (B + 1 + 1) 4 #[.bool false]
  size : Blk W s 3 #[.int .i64 (S : Int)]
  err : Blk W (s + 1) 3 #[.int .i64 0]
  cnt : Blk W (s + 1 + 1) 3 #[.int .i64 k]
theorem SInv.own {B s : Nat} {A : Option Addr} {L C : Nat} {z : Int} {S : Nat} {k : Int} {X Y : World} {row : Option Nat} (h : SInv B s A L C z S k X) (hg : X.grownBy Y row) (hr : ∀ r, row = some r → ∃ o : Obj, X.heap[r]? = some o ∧ o.isCells = false) : SInv B s A L C z S k Y :=
  ⟨blk_own (β := Unit) _ _ (fun _ => _) () X Y row h.row hg hr, blk_own (β := Unit) _ _ (fun _ => _) () X Y row h.stop hg hr, blk_own (β := Unit) _ _ (fun _ => _) () X Y row h.res hg hr, blk_own (β := Unit) _ _ (fun _ => _) () X Y row h.size hg hr, blk_own (β := Unit) _ _ (fun _ => _) () X Y row h.err hg hr, blk_own (β := Unit) _ _ (fun _ => _) () X Y row h.cnt hg hr⟩
theorem SInv.alloc {B s : Nat} {A : Option Addr} {L C : Nat} {z : Int} {S : Nat} {k : Int} {X : World} (h : SInv B s A L C z S k X) (o : Obj) : SInv B s A L C z S k (X.alloc o) :=
  ⟨h.row.alloc o, h.stop.alloc o, h.res.alloc o, h.size.alloc o, h.err.alloc o, h.cnt.alloc o⟩
theorem SInv.below {B s : Nat} {A : Option Addr} {L C : Nat} {z : Int} {S : Nat} {k : Int} {X Y : World} (h : SInv B s A L C z S k X) (hb : Below X.heap.size X Y) : SInv B s A L C z S k Y :=
  ⟨h.row.below hb, h.stop.below hb, h.res.below hb, h.size.below hb, h.err.below hb, h.cnt.below hb⟩
theorem SInv.next {B s : Nat} {A : Option Addr} {L C : Nat} {z : Int} {S : Nat} {k : Int} {X : World} (h : SInv B s A L C z S k X) (hs : B + 3 ≤ s) (k' : Int) : SInv B s A L C z S k' (X.setCell ⟨s + 1 + 1, 0, none⟩ (.int .i64 k')) :=
  ⟨h.row.other (by omega) _ _, h.stop.other (by omega) _ _, h.res.other (by omega) _ _, h.size.other (by omega) _ _, h.err.other (by omega) _ _, h.cnt.set 0 _⟩
theorem KR.set {n2 n3 : Nat} (W : World) {b : Nat} (hb : b < n2) (k : Nat) (v : Value) : KR n2 n3 W (W.setCell ⟨b, k, none⟩ v) :=
  ⟨(KeepsWalks.setCell W _ v).size, fun j h1 _ => Below.heap_setCell _ _ _ j (by show j ≠ b; omega)⟩

/-- The law's own answer: true, behind its loop. -/
theorem fin_true {w W : World} {B D : Nat} {tm : Array Value} (hr : Blk W (B + 1 + 1) 4 #[.bool false]) (hK : W.heap[D]? = some (.deferred (some []))) (hD : B + 1 + 1 < D) (hB : Below B w W) (hBw : B = w.heap.size) (ht : tm[4]? = some (.pointer (some ⟨B + 1 + 1, 0, none⟩))) :
    bodyPostM Fence.wide 6 Try.prog Try.f6 (fun e w' => e = .returned (.bool true) ∧ Below w.heap.size w w') .ret { tmps := tm, defers := [{ target := .collected D, args := #[] }] } (W.setCell ⟨B + 1 + 1, 0, none⟩ (.bool true)) := by
  subst hBw
  have hK' := (KeepsOthers.setCell W ⟨w.heap.size + 1 + 1, 0, none⟩ (.bool true)).same D _ hK rfl
  refine ⟨by simp, .inl ⟨_, _, rfl, run_takeDeferred hK', ?_⟩⟩
  have cY := ((hr.set 0 (.bool true)).kept (grownBy_putObj' _ D (.deferred none)) (fun e => by cases e; omega)).cell 0
  simp at cY
  refine ⟨.bool true, ?_, rfl, (hB.setCell (p := ⟨w.heap.size + 1 + 1, 0, none⟩) (by show w.heap.size ≤ w.heap.size + 1 + 1; omega) _).trans (belowK_b (w := w) (Nat.le_refl _) _ D _ _ (by omega) hK' rfl rfl)⟩
  simp [results, Try.results6, go_sem, ht, cY]
set_option maxRecDepth 100000 in
set_option maxHeartbeats 4000000 in
theorem sall_shape (W0 : World) (A : Option Addr) (C : Nat) (ds : List Nat) (hS : Shp ds) (hZ : ZAt W0 A C (ints ds)) (hfs : ds.length * 8 ≤ 140737488355328) (z : Int) : AnsB W0 6 #[.slice A ds.length C, .int .i64 z] (.bool true) := by
  intro w hw
  have HA := alive_any W0
  have HR := rsize_any W0 A C (ints ds) hZ
  have HAl := all_any W0 A C (ints ds) hZ (by rw [ints_len]; exact hfs)
  rw [ints_len, errV_shape hS, sizeV_shape hS] at HR
  have h' : ¬ (100 : Int) < (ds.length : Int) := by have := hS.few; omega
  have HAt : ∀ n, n < pr ds → AnsB W0 16 #[.slice A ds.length C, .int .i64 (n : Int)] (.agg #[.int .i64 (ix ds n 0 : Int), .int .i64 (ix ds n 1 : Int), .int .i64 (ix ds n 2 : Int), .int .i64 (ix ds n 3 : Int)]) := fun n hn => rat_any W0 A C ds hS hZ n hn
  have HAu : ∀ {w : World}, Below W0.heap.size W0 w → ∀ {R : Ending → World → Prop}, (∀ b1 b2 A' C' w', Blk w' b1 3 #[.int .i64 (pr ds : Int)] → Blk w' b2 22 #[.slice A' ds.length C'] → ZAt w' A' C' (ints ds) → w.heap.size ≤ b1 → w.heap.size ≤ b2 → (∀ b o, A' = some ⟨b, o, none⟩ → w.heap.size ≤ b) → Below w.heap.size w w' → R (.returned (.func (.func 22) #[] #[.pointer (some ⟨b1, 0, none⟩), .pointer (some ⟨b2, 0, none⟩)])) w') → Calls Try.prog 17 #[.slice A ds.length C] w R := fun {w} hw {R} k => by
    have := HAl w hw
    rw [ints_len] at this
    refine this.mono ?_
    rintro e w' ⟨b1, b2, A', C', rfl, c1, c2, z2, l1, l2, l3, hb⟩
    rw [sizeV_shape hS] at c1
    exact k b1 b2 A' C' w' c1 c2 z2 l1 l2 l3 hb
  obtain ⟨L, hL⟩ : ∃ L, ds.length = L := ⟨_, rfl⟩
  obtain ⟨S, hSe⟩ : ∃ S, pr ds = S := ⟨_, rfl⟩
  have HSh : Hid (Shp ds) := hS
  have HSe : Hid (pr ds = S) := hSe
  have HL : Hid (ds.length = L) := hL
  rw [hL, hSe] at HR HAt
  rw [hL] at h' ⊢
  simp only [hL, hSe] at HAu
  clear hS HAl hL hSe
  have hBV : Below w.heap.size w (((w.alloc (.cells #[.slice A L C] 22)).alloc (.cells #[.int .i64 z] 3)).alloc (.cells #[.bool false] 4)) := bb (bb (below_alloc _ _) (below_alloc _ _)) (below_alloc _ _)
  have b0 : Blk (((w.alloc (.cells #[.slice A L C] 22)).alloc (.cells #[.int .i64 z] 3)).alloc (.cells #[.bool false] 4)) w.heap.size 22 #[.slice A L C] := ((Blk.new _ _ _).alloc _).alloc _
  have b1 := (Blk.new (w.alloc (.cells #[.slice A L C] 22)) 3 #[.int .i64 z]).alloc (.cells #[.bool false] 4)
  have b2 := Blk.new ((w.alloc (.cells #[.slice A L C] 22)).alloc (.cells #[.int .i64 z] 3)) 4 #[.bool false]
  rw [World.size_alloc] at b1
  rw [World.size_alloc, World.size_alloc] at b2
  have hw0 := hw.trans (hBV.mono hw.size)
  have hf7 : Fence.wide.fn 7 := trivial
  have hf9 : Fence.wide.fn 9 := trivial
  have hf17 : Fence.wide.fn 17 := trivial
  refine (callsIn_wide (n := 6)).1 ?_
  refine callsIn_of_wp_marks Try.func6 rfl trivial ?_ rfl
  simp only [Try.ntmps6, List.size_toArray, List.length_cons, List.length_nil, Nat.reduceAdd, Nat.reduceSub, Array.replicate_succ, Array.replicate_zero, List.push_toArray, List.append_toArray, List.nil_append, List.cons_append]
  gi_wp2_with (first
    | (gi_at_call 7; refine callsIn_wide.2 (AnsB.use HA hw0 fun w2 hb2 => ?_); have hw2 := hw0.trans (hb2.mono hw0.size); have e0 := (b0.below hb2).cell 0; have lt0 := (b0.below hb2).lt; have lt1 : w.heap.size < w2.heap.size + 1 := Nat.lt_succ_of_lt lt0; have lt2 : w.heap.size < w2.heap.size + 1 + 1 := Nat.lt_succ_of_lt lt1; simp at e0)
    | (gi_at_call 9; refine callsIn_wide.2 (AnsQ.use HR hw2 ?_))
    | (gi_at_call 17; refine callsIn_wide.2 (HAu (hw2.trans ((bb (bb (below_alloc w2 (.cells #[.int .i64 (S : Int)] 3)) (below_alloc _ (.cells #[.int .i64 0] 3))) (below_alloc _ (.cells #[.int .i64 0] 3))).mono hw2.size)) fun b4 b5 A' C' V c4 c5 hz5 l4 l5 l6 hbV => ?_)))
  have hb3 := bb (bb (below_alloc w2 (.cells #[.int .i64 (S : Int)] 3)) (below_alloc _ (.cells #[.int .i64 0] 3))) (below_alloc _ (.cells #[.int .i64 0] 3))
  have s0 := ((Blk.new w2 3 #[.int .i64 (S : Int)]).alloc (.cells #[.int .i64 0] 3)).alloc (.cells #[.int .i64 0] 3)
  have s1 := (Blk.new (w2.alloc (.cells #[.int .i64 (S : Int)] 3)) 3 #[.int .i64 0]).alloc (.cells #[.int .i64 0] 3)
  have s2 := Blk.new ((w2.alloc (.cells #[.int .i64 (S : Int)] 3)).alloc (.cells #[.int .i64 0] 3)) 3 #[.int .i64 0]
  rw [World.size_alloc] at s1
  rw [World.size_alloc, World.size_alloc] at s2
  have z0 := (b0.below hb2).below (bb hb3 hbV)
  have z1 := (b1.below hb2).below (bb hb3 hbV)
  have z2 := (b2.below hb2).below (bb hb3 hbV)
  replace s0 := s0.below hbV
  replace s1 := s1.below hbV
  replace s2 := s2.below hbV
  have hsz3 : (((w2.alloc (.cells #[.int .i64 (S : Int)] 3)).alloc (.cells #[.int .i64 0] 3)).alloc (.cells #[.int .i64 0] 3)).heap.size = w2.heap.size + 3 := by simp
  have hVs : w2.heap.size + 3 ≤ V.heap.size := by have := hbV.size; omega
  rw [hsz3] at l4 l5
  simp only [hsz3] at l6
  have hBwV : Below w.heap.size w V := bb (bb hBV hb2) (bb hb3 hbV)
  have hw2s : w.heap.size + 3 ≤ w2.heap.size := by have := hb2.size; simp at this; omega
  have HSeq := all_stops 5 (by omega) b4 b5 (w2.heap.size + 3) A' C' ds HSh.out V hz5 l6 (by rw [HSe.out]; exact c4) (by rw [HL.out]; exact c5) l4 l5
  clear hsz3 hb3 hz5 l6 c4 c5 HAu HR
  refine wpIn_rangeFunc_ownH rfl (by omega) (gf := 22) (lb := #[.pointer (some ⟨b4, 0, none⟩), .pointer (some ⟨b5, 0, none⟩)]) rfl trivial (enters_of Try.func22 (by kernel_rfl) rfl)
    HSeq KR.trans (KR.put (Nat.le_refl _)) (Below.refl _ _) (fun _ => rfl)
    (fun pre W => (SInv w.heap.size w2.heap.size A L C z S (pre.length : Int) W ∧ nus pre = List.range pre.length) ∧ V.heap.size ≤ W.heap.size ∧ Below w.heap.size w W)
    (fun c pre W => (c = .exit 0 ∧ SInv w.heap.size w2.heap.size A L C z S (pre.length : Int) W ∧ (pre.length : Int) = z ∧ Below w.heap.size w W) ∨ (c = .ret ∧ ∃ (ini : List (Nu (pr ds))) (last : Nu (pr ds)), pre = ini ++ [last] ∧ last.1 ≠ ini.length))
    ?hI ?hIx ⟨⟨⟨z0, z1, z2, s0, s1, s2⟩, rfl⟩, Nat.le_refl _, hBwV⟩
    (fun x a' W => ∃ Bx, V.heap.size ≤ Bx ∧ Blk W Bx 33 #[.int .i64 (ix ds x.1 0 : Int), .int .i64 (ix ds x.1 1 : Int), .int .i64 (ix ds x.1 2 : Int), .int .i64 (ix ds x.1 3 : Int)] ∧ a' = { tmps := #[.slice A L C, .int .i64 z, .pointer (some ⟨w.heap.size, 0, none⟩), .pointer (some ⟨w.heap.size + 1, 0, none⟩), .pointer (some ⟨w.heap.size + 1 + 1, 0, none⟩), .pointer (some ⟨w2.heap.size, 0, none⟩), .pointer (some ⟨w2.heap.size + 1, 0, none⟩), .pointer (some ⟨w2.heap.size + 1 + 1, 0, none⟩), .int .i64 (x.1 : Int), .pointer (some ⟨Bx, 0, none⟩), .bool true, .bool false, .slice A L C, .int .i64 (L : Int), .bool (decide (100 < (L : Int))), .tuple #[.int .i64 (S : Int), .int .i64 0], .slice A L C, .tuple #[.int .i64 (S : Int), .int .i64 0], .int .i64 (S : Int), .int .i64 0, .slice A L C, .func (.func 22) #[] #[.pointer (some ⟨b4, 0, none⟩), .pointer (some ⟨b5, 0, none⟩)], .int .i64 (x.1 : Int), .agg #[.int .i64 (ix ds x.1 0 : Int), .int .i64 (ix ds x.1 1 : Int), .int .i64 (ix ds x.1 2 : Int), .int .i64 (ix ds x.1 3 : Int)], undef, undef, undef, undef, undef, undef, undef, undef, undef, undef, undef, undef, undef, undef, undef, undef, undef, undef, undef, undef, undef, undef, undef, undef, undef, undef, undef, undef, undef, undef, undef, undef], defers := [] })
    ?hAx ?assign ?body ?done ?stop
  case hI => exact OwnFrom.and (OwnFrom.and (Own.from (fun s X Y row hs hg hr => hs.own hg hr) _) (ownFrom_pure _ _)) (OwnFrom.and (fun s X Y row hs hg hr => Nat.le_trans hs hg.size) (ownFrom_below (Nat.le_refl _) hBwV.size))
  case hIx =>
    intro c s X Y row hs hg hr
    rcases hs with ⟨h1, h2, h3, h4⟩ | h
    · exact .inl ⟨h1, h2.own hg (fun r e => (hr r e).2), h3, ownFrom_below (β := Unit) (Nat.le_refl _) hBwV.size () X Y row h4 hg hr⟩
    · exact .inr h
  case hAx =>
    rintro x a' _ X Y row ⟨Bx, h1, h2, h3⟩ hg hr
    exact ⟨Bx, h1, blk_own (β := Unit) _ _ (fun _ => _) () X Y row h2 hg (fun r e => (hr r e).2), h3⟩
  case assign =>
    rintro l pre x W K ⟨⟨hi, hn⟩, hsz, hB⟩ hK
    gi_wp2
    exact hK _ _ ((KeepsOthers.alloc _ _).from _) (KR.below (below_alloc _ _) hsz) ⟨⟨hi.alloc _, hn⟩, by rw [World.size_alloc]; omega, hB.alloc hB.size _⟩ ⟨W.heap.size, hsz, Blk.new W _ _, rfl⟩
  case body =>
    rintro l pre x a' W hl ⟨r, hr⟩ ⟨⟨hi, hn⟩, hsz, hB⟩ ⟨Bx, hBx, bX, rfl⟩ hlt
    have hmx : Try.prog.follows .mixedOrders = true := by kernel_rfl
    have hd1 : 1 ≤ 6 - 1 - 1 := by omega
    have hf16 : (Fence.wide.inRound l).fn 16 := trivial
    have hf16' : Fence.wide.fn 16 := trivial
    have hxS : x.1 < S := Nat.lt_of_lt_of_eq x.2 HSe.out
    have e0 : W.cell? ⟨w.heap.size, 0, none⟩ = some (.slice A L C) := hi.row.cell 0
    have e1 : W.cell? ⟨w.heap.size + 1, 0, none⟩ = some (.int .i64 z) := hi.stop.cell 0
    have e2 : W.cell? ⟨w.heap.size + 1 + 1, 0, none⟩ = some (.bool false) := hi.res.cell 0
    have f2 := hi.res.frozen 0
    have e3 : W.cell? ⟨w2.heap.size, 0, none⟩ = some (.int .i64 (S : Int)) := hi.size.cell 0
    have e4 : W.cell? ⟨w2.heap.size + 1, 0, none⟩ = some (.int .i64 0) := hi.err.cell 0
    have e5 : W.cell? ⟨w2.heap.size + 1 + 1, 0, none⟩ = some (.int .i64 (pre.length : Int)) := hi.cnt.cell 0
    have f5 := hi.cnt.frozen 0
    have g0 : W.cell? ⟨Bx, 0, none⟩ = some (.int .i64 (ix ds x.1 0 : Int)) := bX.cell 0
    have g1 : W.cell? ⟨Bx, 1, none⟩ = some (.int .i64 (ix ds x.1 1 : Int)) := bX.cell 1
    have g2 : W.cell? ⟨Bx, 2, none⟩ = some (.int .i64 (ix ds x.1 2 : Int)) := bX.cell 2
    have g3 : W.cell? ⟨Bx, 3, none⟩ = some (.int .i64 (ix ds x.1 3 : Int)) := bX.cell 3
    have Hi : Hid (SInv w.heap.size w2.heap.size A L C z S (pre.length : Int) W) := hi
    have Hn : Hid (nus pre = List.range pre.length) := hn
    have HbX : Hid (Blk W Bx 33 #[.int .i64 (ix ds x.1 0 : Int), .int .i64 (ix ds x.1 1 : Int), .int .i64 (ix ds x.1 2 : Int), .int .i64 (ix ds x.1 3 : Int)]) := bX
    clear hi hn bX HSeq z0 z1 z2 s0 s1 s2 hBwV
    by_cases hxp : x.1 = pre.length
    · have hlx : (pre.length : Int) = (x.1 : Int) := by omega
      have HXt := HAt x.1 hxS
      have hWW : Below W0.heap.size W0 W := hw.trans (hB.mono hw.size)
      have hq := eqAr (ix ds x.1 0 : Int) (ix ds x.1 1 : Int) (ix ds x.1 2 : Int) (ix ds x.1 3 : Int)
      have hg := guardAr
      have hge : ¬ (S : Int) ≤ (x.1 : Int) := by omega
      have hge' : decide ((S : Int) ≤ (x.1 : Int)) = false := by simp; omega
      have hkw : wrap64 ((x.1 : Int) + 1) = (x.1 : Int) + 1 := wrap_next (Nat.le_trans x.2 HSh.out.max)
      have hne : ((x.1 : Int) != (x.1 : Int)) = false := by simp
      rw [hlx] at e5 Hi
      have HN : Hid (nus (pre ++ [x]) = List.range (pre ++ [x]).length) := by
        unfold Hid; rw [nus_snoc, Hn.out, List.length_append, hxp]; simp [List.range_succ]
      have HLn : Hid (((pre ++ [x]).length : Int) = (x.1 : Int) + 1) := by unfold Hid; rw [List.length_append, hxp]; simp
      have Hs3 : Hid (w.heap.size + 3 ≤ w2.heap.size) := hw2s
      have HhB : Hid (Below w.heap.size w W) := hB
      have Hsz : Hid (V.heap.size ≤ W.heap.size) := hsz
      clear HAt hxp hlx hsz hB
      generalize (x.1 : Int) = xi at *
      have FIN : Hid (∀ w7, Below W.heap.size W w7 → KeepsFrom V.heap.size W (w7.setCell ⟨w2.heap.size + 1 + 1, 0, none⟩ (.int .i64 (xi + 1))) ∧ KR (w2.heap.size + 3) V.heap.size W (w7.setCell ⟨w2.heap.size + 1 + 1, 0, none⟩ (.int .i64 (xi + 1))) ∧ SInv w.heap.size w2.heap.size A L C z S ((pre ++ [x]).length : Int) (w7.setCell ⟨w2.heap.size + 1 + 1, 0, none⟩ (.int .i64 (xi + 1))) ∧ V.heap.size ≤ (w7.setCell ⟨w2.heap.size + 1 + 1, 0, none⟩ (.int .i64 (xi + 1))).heap.size ∧ Below w.heap.size w (w7.setCell ⟨w2.heap.size + 1 + 1, 0, none⟩ (.int .i64 (xi + 1)))) := by
        intro w7 h7
        have hk1 : KR (w2.heap.size + 3) V.heap.size W (w7.setCell ⟨w2.heap.size + 1 + 1, 0, none⟩ (.int .i64 (xi + 1))) := (KR.below h7 Hsz.out).trans (KR.set w7 (by omega) 0 _)
        refine ⟨((KeepsOthers.of_grownBy (grown_below h7) (fun j o e => by cases e)).trans (KeepsOthers.setCell _ _ _)).from _, hk1, ?_, Nat.le_trans Hsz.out hk1.1, ?_⟩
        · rw [HLn.out]; exact (Hi.out.below h7).next Hs3.out _
        · exact (bthen HhB.out (Nat.le_refl _) h7).setCell (p := ⟨w2.heap.size + 1 + 1, 0, none⟩) (by show w.heap.size ≤ w2.heap.size + 1 + 1; have := Hs3.out; omega) _
      gi_wp2
      gi_region_with_o (gi_at_call 16; refine (CallsIn.inRound l (callsIn_wide.2 (HXt _ (hWW.trans ((below_drewZ _).mono hWW.size))))).mono ?_; rintro e w7 ⟨rfl, hb7⟩; have hW7 := bb (below_drewZ W) hb7; obtain ⟨k0, k1, k2, k3, k4⟩ := blk_four HbX.out hW7; have j5 : w7.cell? ⟨w2.heap.size + 1 + 1, 0, none⟩ = some (.int .i64 xi) := (Hi.out.cnt.below hW7).cell 0; have i5 := (Hi.out.cnt.below hW7).frozen 0; have j1 : w7.cell? ⟨w.heap.size + 1, 0, none⟩ = some (.int .i64 z) := (Hi.out.stop.below hW7).cell 0)
      all_goals gi_wp2
      all_goals
        obtain ⟨t1, t2, t3, t4, t5⟩ := FIN.out w7 hW7
        first
          | exact ⟨t1, .inl ⟨rfl, t3, by rw [HLn.out]; exact eq_of_beq ‹(xi + 1 == z) = true›, t5⟩⟩
          | exact ⟨t1, t2, ⟨t3, HN.out⟩, t4, t5⟩
    · have hne : ((x.1 : Int) != (pre.length : Int)) = true := by simp; omega
      have hne2 : ¬ (x.1 : Int) = (pre.length : Int) := by omega
      have HX : Hid (∃ (ini : List (Nu (pr ds))) (last : Nu (pr ds)), pre ++ [x] = ini ++ [last] ∧ last.1 ≠ ini.length) := ⟨pre, x, rfl, hxp⟩
      generalize (x.1 : Int) = xi at *
      generalize (pre.length : Int) = m at *
      gi_wp2
      gi_region_with_o (fail)
      all_goals gi_wp2
      all_goals exact ⟨KeepsOthers.from (by first | exact (KeepsOthers.drew _).trans (KeepsOthers.setCell _ _ _) | exact (KeepsOthers.setCell _ _ _).trans (KeepsOthers.drew _)) _, .inr ⟨rfl, HX.out⟩⟩
  case done =>
    rintro D ys W hD hys ⟨⟨hi, hn⟩, hsz, hB⟩ hK
    have hlen : (ys.length : Int) = (S : Int) := by
      have := congrArg List.length hys
      rw [nus_len, List.length_range] at this
      have h2 := HSe.out
      omega
    rw [hlen] at hi
    have e1 : W.cell? ⟨w.heap.size + 1, 0, none⟩ = some (.int .i64 z) := hi.stop.cell 0
    have e2 : W.cell? ⟨w.heap.size + 1 + 1, 0, none⟩ = some (.bool false) := hi.res.cell 0
    have f2 := hi.res.frozen 0
    have e3 : W.cell? ⟨w2.heap.size, 0, none⟩ = some (.int .i64 (S : Int)) := hi.size.cell 0
    have e5 : W.cell? ⟨w2.heap.size + 1 + 1, 0, none⟩ = some (.int .i64 (S : Int)) := hi.cnt.cell 0
    have FE := fun tm ht => fin_true (tm := tm) hi.res hK (by omega) hB rfl ht
    clear HSeq z0 z1 z2 s0 s1 s2 hi
    by_cases hst : (S : Int) = z
    · have hst' : ((S : Int) == z) = true := by simp [hst]
      gi_wp2
      exact FE _ rfl
    · have hst' : ((S : Int) == z) = false := by simp [hst]
      gi_wp2
      exact FE _ rfl
  case stop =>
    rintro D c pre W hD ⟨k, hk, hpre⟩ h hK
    rcases h with ⟨rfl, hi, hst, hB⟩ | ⟨rfl, ini, last, rfl, hne⟩
    · rw [hst] at hi
      have e1 : W.cell? ⟨w.heap.size + 1, 0, none⟩ = some (.int .i64 z) := hi.stop.cell 0
      have e2 : W.cell? ⟨w.heap.size + 1 + 1, 0, none⟩ = some (.bool false) := hi.res.cell 0
      have f2 := hi.res.frozen 0
      have e5 : W.cell? ⟨w2.heap.size + 1 + 1, 0, none⟩ = some (.int .i64 z) := hi.cnt.cell 0
      have e3 : W.cell? ⟨w2.heap.size, 0, none⟩ = some (.int .i64 (S : Int)) := hi.size.cell 0
      have FE := fun tm ht => fin_true (tm := tm) hi.res hK (by omega) hB rfl ht
      clear HSeq z0 z1 z2 s0 s1 s2 hi
      gi_wp2
      exact FE _ rfl
    · exfalso
      rw [nus_snoc] at hpre
      have h1 := congrArg List.length hpre
      rw [List.length_append, nus_len, List.length_range] at h1
      have h1' : k = ini.length + 1 := h1.symm
      rw [h1', List.range_succ] at hpre
      have h2 := List.append_inj_right' hpre rfl
      exact hne (by simpa using h2)
end Go.Proofs.Ytfiblemandpfeaa

/-
  What Cells of a view answers: a new row of its cells. No condition but that the rows lie there.
-/
import Derived.Test.YtccknfhhmdoffaaVw5
namespace Go.Proofs.Ytccknfhhmdoffaa
set_option linter.unusedVariables false
open Go.RowKit Go.Shelf Go.Maps
attribute [local go_sem] Oper.semAt_some

theorem below_drewZ (w : World) : Below w.heap.size w w.drew := ⟨rfl, rfl, rfl, Nat.le_refl _, fun _ _ => rfl⟩
/-- A call that answers a new row of ints. -/
def NewRow (W : World) (f : FuncId) (args : Array Value) (l : List Int) : Prop := ∀ w, Below W.heap.size W w → Calls Try.prog f args w fun e w' => ∃ A1 C1, e = .returned (.slice A1 l.length C1) ∧ ZAt w' A1 C1 l ∧ Below w.heap.size w w'
theorem NewRow.use {W : World} {f : FuncId} {args : Array Value} {l : List Int} (h : NewRow W f args l) {w : World} (hw : Below W.heap.size W w) {R : Ending → World → Prop} (k : ∀ A1 C1 w', ZAt w' A1 C1 l → Below w.heap.size w w' → R (.returned (.slice A1 l.length C1)) w') : Calls Try.prog f args w R :=
  (h w hw).mono fun _ _ ⟨A', C', he, h1, h2⟩ => by subst he; exact k _ _ _ h1 h2
theorem NewRow.on {W W' : World} {f : FuncId} {args : Array Value} {l : List Int} (h : NewRow W f args l) (hb : Below W.heap.size W W') : NewRow W' f args l :=
  fun w hw => h w (hb.trans (hw.mono hb.size))
theorem ZAt.nil (w : World) : ZAt w none 0 [] := ⟨by simp, by unfold maxLen; omega, fun i z hz => by simp at hz⟩
/-- A view's cells, in the order of indexes. -/
def cls (o : Int) (ss : List Int) (ds : List Nat) : List Int := (List.range (pr ds)).map (ce o ss ds)
theorem ownsRow_own {X Y : World} {base : Nat} {e : TypeId} {v : Value} {n : Nat} {xs : List Value} {row : Option Nat} (h : X.ownsRow base e 1 v n xs) (hg : X.grownBy Y row) (hr : ∀ r, row = some r → ∃ o : Obj, X.heap[r]? = some o ∧ o.isCells = false) : Y.ownsRow base e 1 v n xs := by
  refine h.kept hg ?_
  rcases h.2 with ⟨rfl, hn⟩ | ⟨g, cap, cur, rfl, hb, hg', hc, hm, _⟩
  · exact .inl rfl
  · refine .inr fun e => ?_
    obtain ⟨o, ho, hc⟩ := hr g e.symm
    rw [hg'] at ho; cases ho; cases hc
/-- append at ints, not opened. -/
noncomputable def appS (args : Array Value) : Sem Value := Builtin.append_ #[22, 22] 22 args
theorem appS_eq (args : Array Value) : Builtin.append_ #[22, 22] 22 args = appS args := rfl
attribute [local go_sem ↓] appS_eq
/-- What lies in the function's own boxes. -/
structure CInv (B Q base : Nat) (vv : Array Value) (zs : List Int) (W : World) (v : Value) : Prop where
  view : Blk W B 28 vv
  box : Blk W (Q) 22 #[v]
  row : W.ownsRow base 3 1 v zs.length (zcells zs)
theorem CInv.own {B Q base : Nat} {vv : Array Value} {zs : List Int} {v : Value} {X Y : World} {row : Option Nat} (h : CInv B Q base vv zs X v) (hg : X.grownBy Y row) (hr : ∀ r, row = some r → ∃ o : Obj, X.heap[r]? = some o ∧ o.isCells = false) : CInv B Q base vv zs Y v :=
  ⟨blk_own (β := Unit) _ _ (fun _ => _) () X Y row h.view hg hr, blk_own (β := Unit) _ _ (fun _ => _) () X Y row h.box hg hr, ownsRow_own h.row hg hr⟩
theorem CInv.alloc {B Q base : Nat} {vv : Array Value} {zs : List Int} {v : Value} {X : World} (h : CInv B Q base vv zs X v) (o : Obj) : CInv B Q base vv zs (X.alloc o) v := ⟨h.view.alloc o, h.box.alloc o, h.row.alloc o⟩
theorem row_below {base : Nat} {e : TypeId} {v : Value} {n : Nat} {xs : List Value} {X Y : World} (h : X.ownsRow base e 1 v n xs) (hb : Below X.heap.size X Y) : Y.ownsRow base e 1 v n xs := h.kept (grown_below hb) (by
  cases hv : v.ownBlock with
  | none => exact .inl rfl
  | some g => exact .inr (by simp))
theorem CInv.below {B Q base : Nat} {vv : Array Value} {zs : List Int} {v : Value} {X Y : World} (h : CInv B Q base vv zs X v) (hb : Below X.heap.size X Y) : CInv B Q base vv zs Y v := ⟨h.view.below hb, h.box.below hb, row_below h.row hb⟩
/-- One more. -/
theorem CInv.more {B Q base : Nat} {vv : Array Value} {zs : List Int} {v : Value} {X : World} (h : CInv B Q base vv zs X v) (hBQ : B < Q) (hB : Q < base) (hX : base ≤ X.heap.size) (hl : zs.length < 4096) (z : Int) :
    ∃ g cap Y, (appS #[v, .slice (some ⟨X.heap.size, 0, none⟩) 1 1]).run Try.prog (X.alloc (.cells #[.int .i64 z] 3)) = .ok (.slice (some ⟨g, 0, none⟩) (zs.length + 1) cap) Y ∧
      Y.cell? ⟨Q, 0, none⟩ = some v ∧ Y.frozen? ⟨Q, 0, none⟩ = false ∧ base ≤ g ∧ CInv B Q base vv (zs ++ [z]) (Y.setCell ⟨Q, 0, none⟩ (.slice (some ⟨g, 0, none⟩) (zs.length + 1) cap)) (.slice (some ⟨g, 0, none⟩) (zs.length + 1) cap) ∧
      KeepsOthers X (Y.setCell ⟨Q, 0, none⟩ (.slice (some ⟨g, 0, none⟩) (zs.length + 1) cap)) ∧ X.heap.size ≤ (Y.setCell ⟨Q, 0, none⟩ (.slice (some ⟨g, 0, none⟩) (zs.length + 1) cap)).heap.size ∧
      (∀ b, b < base → b ≠ Q → (Y.setCell ⟨Q, 0, none⟩ (.slice (some ⟨g, 0, none⟩) (zs.length + 1) cap)).heap[b]? = X.heap[b]?) ∧ (∀ w0, Below B w0 X → Below B w0 (Y.setCell ⟨Q, 0, none⟩ (.slice (some ⟨g, 0, none⟩) (zs.length + 1) cap))) := by
  obtain ⟨i1, hi1, hz1, hs1, hb1⟩ := info_parts infoZ
  obtain ⟨v', Y, hr, ho, hg, _⟩ := run_append_own (P := Try.prog) (X.alloc (.cells #[.int .i64 z] 3)) base 22 22 3 i1 (.int .i64 0) 1 8 Try.underlying22 hi1 hz1 hs1 hb1 rfl (by omega) v zs.length (zcells zs) (h.row.alloc _) ⟨X.heap.size, 0, none⟩ 1 1 [.int .i64 z] rfl (cell_one_new _ _ _) (by simp [Value.oneCell']) (by unfold maxLen; omega) (by omega) (by simp; omega)
  obtain ⟨g, cap, rfl⟩ := ownsRow_succ ho
  have hlt := (ho.lt g rfl).1
  have hne : ∀ b, b < base → some b ≠ v.ownBlock := fun b hb e => by have := (h.row.lt b e.symm).1; omega
  have b1 := (h.box.alloc (.cells #[.int .i64 z] 3)).kept hg (hne _ hB)
  have b0 := (h.view.alloc (.cells #[.int .i64 z] 3)).kept hg (hne _ (by omega))
  refine ⟨g, cap, Y, hr, b1.cell 0, b1.frozen 0, hlt, ⟨b0.other (by omega) _ _, b1.set 0 _, ?_⟩, ?_, ?_, ?_, ?_⟩
  · have h2 := ho.kept (w' := Y.setCell ⟨Q, 0, none⟩ (.slice (some ⟨g, 0, none⟩) (zs.length + 1) cap)) (row := some (Q)) (grownBy_setCell' _ _ _) (.inr (fun e => by have e' : g = Q := Option.some.inj e; omega))
    have e1 : (zs ++ [z]).length = zs.length + 1 := by simp
    have e2 : zcells (zs ++ [z]) = zcells zs ++ [.int .i64 z] := by simp [zcells]
    rw [e1, e2]
    exact h2
  · refine ((KeepsOthers.alloc X _).trans (KeepsOthers.of_grownBy hg ?_)).trans (KeepsOthers.setCell _ _ _)
    intro j o e ho'
    rcases (h.row.alloc (.cells #[.int .i64 z] 3)).2 with ⟨rfl, hn⟩ | ⟨g', cap', cur, rfl, hb', hg', _⟩
    · cases e
    · have e' : g' = j := Option.some.inj e
      subst e'
      rw [hg'] at ho'; cases ho'; rfl
  · have h1 := hg.size
    rw [World.size_alloc] at h1
    exact Nat.le_trans (Nat.le_of_succ_le h1) (KeepsWalks.setCell Y _ _).size
  · intro b hb hb'
    rw [Below.heap_setCell _ _ _ b (show b ≠ Q from hb'), hg.block b (by simp; omega) (hne b hb)]
    exact Below.heap_alloc X _ b (by omega)
  · intro w0 hw0
    have h1 := hw0.size
    refine ((hw0.alloc (by omega) _).grown hg (by simp; omega) (fun k e => ?_)).setCell (p := ⟨Q, 0, none⟩) (show B ≤ Q by omega) _
    have := (h.row.lt k e).1
    omega

set_option maxHeartbeats 1000000 in
theorem cells_no (W : World) (o : Int) (A : Option Addr) (C : Nat) (A' : Option Addr) (C' : Nat) (zs ss : List Int) (hD : ZAt W A C zs) (hZ : ZAt W A' C' ss) (e : Int) (h : Chk o zs ss 4096 e) (he : e ≠ 0) : NewRow W 16 #[vw o A zs.length C A' ss.length C'] [] := by
  intro w hw
  have HC := check_any W o A C A' C' zs ss hD hZ 4096 e h
  unfold vw at *
  generalize zs.length = L at *
  generalize ss.length = L' at *
  have hB0 := below_alloc w (.cells #[.int .i64 o, .slice A L C, .slice A' L' C'] 28)
  have hw0 := hw.trans (hB0.mono hw.size)
  clear h hD hZ
  have hf13 : Fence.wide.fn 13 := trivial
  refine (callsIn_wide (n := 6)).1 ?_
  refine callsIn_of_wp_marks Try.func16 rfl trivial ?_ rfl
  simp only [Try.ntmps16, List.size_toArray, List.length_cons, List.length_nil, Nat.reduceAdd, Nat.reduceSub, Array.replicate_succ, Array.replicate_zero, List.push_toArray, List.append_toArray, List.nil_append, List.cons_append]
  gi_wp2_with (gi_at_call 13; refine callsIn_wide.2 (AnsB.use HC hw0 fun w2 hb2 => ?_))
  refine ⟨_, results_tmp rfl _ _ _, none, 0, rfl, ZAt.nil _, bb hB0 hb2⟩

set_option maxRecDepth 100000 in
set_option maxHeartbeats 4000000 in
theorem cells_ok (W0 : World) (o : Int) (A : Option Addr) (C : Nat) (A' : Option Addr) (C' : Nat) (ds : List Nat) (ss : List Int) (hD : ZAt W0 A C (ints ds)) (hZ : ZAt W0 A' C' ss) (hO : Ok o ds ss) : NewRow W0 16 #[vw o A ds.length C A' ds.length C'] (cls o ss ds) := by
  intro w hw
  have hS := hO.shp
  have hl := hO.len
  have HC := check_any W0 o A C A' C' (ints ds) ss hD hZ 4096 0 hO.chk
  rw [ints_len, hl] at HC
  have HAl := all_any W0 A C (ints ds) hD (by rw [ints_len]; have := hS.few; omega)
  have HAu : ∀ {w : World}, Below W0.heap.size W0 w → ∀ {R : Ending → World → Prop}, (∀ b1 b2 A' C' w', Blk w' b1 3 #[.int .i64 (pr ds : Int)] → Blk w' b2 22 #[.slice A' ds.length C'] → ZAt w' A' C' (ints ds) → w.heap.size ≤ b1 → w.heap.size ≤ b2 → (∀ b o, A' = some ⟨b, o, none⟩ → w.heap.size ≤ b) → Below w.heap.size w w' → R (.returned (.func (.func 44) #[] #[.pointer (some ⟨b1, 0, none⟩), .pointer (some ⟨b2, 0, none⟩)])) w') → Calls Try.prog 32 #[.slice A ds.length C] w R := fun {w} hw {R} k => by
    have := HAl w hw
    rw [ints_len] at this
    refine this.mono ?_
    rintro e w' ⟨b1, b2, A', C', rfl, c1, c2, z2, l1, l2, l3, hb⟩
    rw [sizeV_shape hS] at c1
    exact k b1 b2 A' C' w' c1 c2 z2 l1 l2 l3 hb
  have HCe : ∀ n, n < pr ds → AnsB W0 33 #[.agg #[.int .i64 o, .slice A ds.length C, .slice A' ds.length C'], .agg #[.int .i64 (ix ds n 0 : Int), .int .i64 (ix ds n 1 : Int), .int .i64 (ix ds n 2 : Int), .int .i64 (ix ds n 3 : Int)]] (.int .i64 (ce o ss ds n)) := fun n hn => by
    have := cell_any W0 o A ds.length C A' C' ss hZ (by rw [hl]; exact hS.few) (fun j => (ix ds n j : Int)) (by rw [hl]; exact calm_of hS hO.am (fun j hj => ix_lt hS n hj))
    rw [hl] at this
    exact this
  obtain ⟨g, hg⟩ : ∃ g, ce o ss ds = g := ⟨_, rfl⟩
  have HGb : Hid (∀ z ∈ cls o ss ds, I64 z) := fun z hz => by
    unfold cls at hz
    obtain ⟨n, hn, rfl⟩ := List.mem_map.1 hz
    have := hO.am n (by simpa using hn)
    unfold I64; omega
  have HCl : Hid (cls o ss ds = (List.range (pr ds)).map g) := by unfold Hid cls; rw [hg]
  rw [hg] at HCe
  unfold vw at *
  obtain ⟨L, hL⟩ : ∃ L, ds.length = L := ⟨_, rfl⟩
  obtain ⟨S, hSe⟩ : ∃ S, pr ds = S := ⟨_, rfl⟩
  have HSh : Hid (Shp ds) := hS
  have HSe : Hid (pr ds = S) := hSe
  have HL : Hid (ds.length = L) := hL
  simp only [hL] at HCe HC
  simp only [hL, hSe] at HAu
  rw [hL]
  clear hS HAl hL hSe hg hl hZ hO
  have hB0 := below_alloc w (.cells #[.int .i64 o, .slice A L C, .slice A' L C'] 28)
  have b0 := Blk.new w 28 #[.int .i64 o, .slice A L C, .slice A' L C']
  have hw0 := hw.trans (hB0.mono hw.size)
  have hf13 : Fence.wide.fn 13 := trivial
  have hf32 : Fence.wide.fn 32 := trivial
  refine (callsIn_wide (n := 6)).1 ?_
  refine callsIn_of_wp_marks Try.func16 rfl trivial ?_ rfl
  simp only [Try.ntmps16, List.size_toArray, List.length_cons, List.length_nil, Nat.reduceAdd, Nat.reduceSub, Array.replicate_succ, Array.replicate_zero, List.push_toArray, List.append_toArray, List.nil_append, List.cons_append]
  gi_wp2_with (first
    | (gi_at_call 13; refine callsIn_wide.2 (AnsB.use HC hw0 fun w2 hb2 => ?_); have hw2 := hw0.trans (hb2.mono hw0.size); have e1 : w2.cell? ⟨w.heap.size, 1, none⟩ = some (.slice A L C) := (b0.below hb2).cell 1; have lt1 : w.heap.size < w2.heap.size := (b0.below hb2).lt)
    | (gi_at_call 32; refine callsIn_wide.2 (HAu (hw2.trans ((below_alloc w2 (.cells #[.slice none 0 0] 22)).mono hw2.size)) fun b4 b5 A2 C2 V c4 c5 hz5 l4 l5 l6 hbV => ?_)))
  have hb3 := below_alloc w2 (.cells #[.slice none 0 0] 22)
  have z0 := (b0.below hb2).below (bb hb3 hbV)
  have z1 := (Blk.new w2 22 #[.slice none 0 0]).below hbV
  rw [World.size_alloc] at l4 l5
  simp only [World.size_alloc] at l6
  have hVs : w2.heap.size + 1 ≤ V.heap.size := by have := hbV.size; simp at this; omega
  have hBwV : Below w.heap.size w V := bb (bb hB0 hb2) (bb hb3 hbV)
  have hI0 : CInv w.heap.size w2.heap.size V.heap.size #[.int .i64 o, .slice A L C, .slice A' L C'] ((nus ([] : List (Nu (pr ds)))).map g) V (.slice none 0 0) := ⟨z0, z1, World.ownsRow_nil _ _ _ _⟩
  have HSeq := all_stops 5 (by omega) b4 b5 (w2.heap.size + 1) A2 C2 ds HSh.out V hz5 l6 (by rw [HSe.out]; exact c4) (by rw [HL.out]; exact c5) l4 l5
  clear hz5 l6 c4 c5 HAu z0 z1 hbV hb3 hw2 hw0 e1 HC b0
  refine wpIn_rangeFunc_ownH rfl (by omega) (gf := 44) (lb := #[.pointer (some ⟨b4, 0, none⟩), .pointer (some ⟨b5, 0, none⟩)]) rfl trivial (enters_of Try.func44 (by kernel_rfl) rfl)
    HSeq KR.trans (KR.put (Nat.le_refl _)) (Below.refl _ _) (fun _ => rfl)
    (fun pre W => (∃ v, CInv w.heap.size w2.heap.size V.heap.size #[.int .i64 o, .slice A L C, .slice A' L C'] ((nus pre).map g) W v) ∧ V.heap.size ≤ W.heap.size ∧ Below w.heap.size w W)
    (fun c pre W => False)
    ?hI ?hIx ⟨⟨_, hI0⟩, Nat.le_refl _, hBwV⟩
    (fun x a' W => ∃ Bx, V.heap.size ≤ Bx ∧ Blk W Bx 62 #[.int .i64 (ix ds x.1 0 : Int), .int .i64 (ix ds x.1 1 : Int), .int .i64 (ix ds x.1 2 : Int), .int .i64 (ix ds x.1 3 : Int)] ∧ a' = { tmps := #[.agg #[.int .i64 o, .slice A L C, .slice A' L C'], .pointer (some ⟨w.heap.size, 0, none⟩), .slice none 0 0, .pointer (some ⟨w2.heap.size, 0, none⟩), undef, .pointer (some ⟨Bx, 0, none⟩), .agg #[.int .i64 o, .slice A L C, .slice A' L C'], .int .i64 0, .bool false, .pointer (some ⟨w.heap.size, 1, none⟩), .slice A L C, .func (.func 44) #[] #[.pointer (some ⟨b4, 0, none⟩), .pointer (some ⟨b5, 0, none⟩)], .int .i64 (x.1 : Int), .agg #[.int .i64 (ix ds x.1 0 : Int), .int .i64 (ix ds x.1 1 : Int), .int .i64 (ix ds x.1 2 : Int), .int .i64 (ix ds x.1 3 : Int)], undef, undef, undef, undef, undef, undef, undef], defers := [] })
    ?hAx ?assign ?body ?done ?stop
  case hI => exact OwnFrom.and (fun s X Y row ⟨v, hs⟩ hg hr => ⟨v, hs.own hg (fun r e => (hr r e).2)⟩) (OwnFrom.and (fun s X Y row hs hg hr => Nat.le_trans hs hg.size) (ownFrom_below (Nat.le_refl _) hBwV.size))
  case hIx => exact fun _ _ _ _ _ hs _ _ => hs
  case hAx =>
    rintro x a' _ X Y row ⟨Bx, h1, h2, h3⟩ hg hr
    exact ⟨Bx, h1, blk_own (β := Unit) _ _ (fun _ => _) () X Y row h2 hg (fun r e => (hr r e).2), h3⟩
  case assign =>
    rintro l pre x W K ⟨⟨v, hi⟩, hsz, hB⟩ hK
    gi_wp2
    exact hK _ _ ((KeepsOthers.alloc _ _).from _) (KR.below (below_alloc _ _) hsz) ⟨⟨v, hi.alloc _⟩, by rw [World.size_alloc]; omega, hB.alloc hB.size _⟩ ⟨W.heap.size, hsz, Blk.new W _ _, rfl⟩
  case body =>
    rintro l pre x a' W hl ⟨r, hr⟩ ⟨⟨v, hi⟩, hsz, hB⟩ ⟨Bx, hBx, bX, rfl⟩ hlt
    have hmx : Try.prog.follows .mixedOrders = true := by kernel_rfl
    have hd1 : 1 ≤ 6 - 1 - 1 := by omega
    have hf33 : (Fence.wide.inRound l).fn 33 := trivial
    have hf33' : Fence.wide.fn 33 := trivial
    have e0 : W.cell? ⟨w.heap.size, 0, none⟩ = some (.int .i64 o) := hi.view.cell 0
    have e1 : W.cell? ⟨w.heap.size, 1, none⟩ = some (.slice A L C) := hi.view.cell 1
    have e2 : W.cell? ⟨w.heap.size, 2, none⟩ = some (.slice A' L C') := hi.view.cell 2
    have e3 : W.cell? ⟨w2.heap.size, 0, none⟩ = some v := hi.box.cell 0
    have g0 : W.cell? ⟨Bx, 0, none⟩ = some (.int .i64 (ix ds x.1 0 : Int)) := bX.cell 0
    have g1 : W.cell? ⟨Bx, 1, none⟩ = some (.int .i64 (ix ds x.1 1 : Int)) := bX.cell 1
    have g2 : W.cell? ⟨Bx, 2, none⟩ = some (.int .i64 (ix ds x.1 2 : Int)) := bX.cell 2
    have g3 : W.cell? ⟨Bx, 3, none⟩ = some (.int .i64 (ix ds x.1 3 : Int)) := bX.cell 3
    have HX := HCe x.1 x.2
    have hWW : Below W0.heap.size W0 W := hw.trans (hB.mono hw.size)
    have HN : Hid ((nus (pre ++ [x])).map g = (nus pre).map g ++ [g x.1]) := by unfold Hid; rw [nus_snoc]; simp
    have HP4 : Hid (((nus pre).map g).length < 4096) := by
      unfold Hid; rw [List.length_map, nus_len]; exact Nat.lt_of_lt_of_le hlt HSh.out.max
    have Hi : Hid (CInv w.heap.size w2.heap.size V.heap.size #[.int .i64 o, .slice A L C, .slice A' L C'] ((nus pre).map g) W v) := hi
    have HbX : Hid (Blk W Bx 62 #[.int .i64 (ix ds x.1 0 : Int), .int .i64 (ix ds x.1 1 : Int), .int .i64 (ix ds x.1 2 : Int), .int .i64 (ix ds x.1 3 : Int)]) := bX
    have HB : Hid (Below w.heap.size w W) := hB
    have Hsz : Hid (V.heap.size ≤ W.heap.size) := hsz
    have hQ : w2.heap.size < V.heap.size := by omega
    obtain ⟨zs, hzs⟩ : ∃ zs, (nus pre).map g = zs := ⟨_, rfl⟩
    rw [hzs] at HN HP4 Hi
    obtain ⟨z, hz⟩ : ∃ z, g x.1 = z := ⟨_, rfl⟩
    rw [hz] at HN HX
    obtain ⟨n, hn⟩ : ∃ n, zs.length = n := ⟨_, rfl⟩
    have HNn : Hid (zs.length = n) := hn
    clear hi bX HSeq hI0 hBwV hlt hzs hz hn hB hsz HCe
    gi_wp2
    gi_region_with_o (gi_at_call 33; refine (CallsIn.inRound l (callsIn_wide.2 (HX _ (hWW.trans ((below_drewZ _).mono hWW.size))))).mono ?_; rintro e w7 ⟨rfl, hb7⟩; have hW7 := bb (below_drewZ W) hb7; have h7i := Hi.out.below hW7; have k7 : w7.cell? ⟨w2.heap.size, 0, none⟩ = some v := h7i.box.cell 0; have l7 : w2.heap.size < w7.heap.size := h7i.box.lt; have ne7 : ¬ w7.heap.size = w2.heap.size := Nat.ne_of_gt l7; obtain ⟨g8, cap8, w8, hr8, c8, f8, hb8, hi8, hk8, hs8, hh8, hB8⟩ := h7i.more lt1 hQ (Nat.le_trans Hsz.out hW7.size) HP4.out z; rw [HNn.out] at hr8 hi8 hk8 hs8 hh8 hB8; have FIN : Hid (KeepsFrom V.heap.size W (w8.setCell ⟨w2.heap.size, 0, none⟩ (.slice (some ⟨g8, 0, none⟩) (n + 1) cap8)) ∧ KR (w2.heap.size + 1) V.heap.size W (w8.setCell ⟨w2.heap.size, 0, none⟩ (.slice (some ⟨g8, 0, none⟩) (n + 1) cap8)) ∧ (∃ v, CInv w.heap.size w2.heap.size V.heap.size #[.int .i64 o, .slice A L C, .slice A' L C'] ((nus (pre ++ [x])).map g) (w8.setCell ⟨w2.heap.size, 0, none⟩ (.slice (some ⟨g8, 0, none⟩) (n + 1) cap8)) v) ∧ V.heap.size ≤ (w8.setCell ⟨w2.heap.size, 0, none⟩ (.slice (some ⟨g8, 0, none⟩) (n + 1) cap8)).heap.size ∧ Below w.heap.size w (w8.setCell ⟨w2.heap.size, 0, none⟩ (.slice (some ⟨g8, 0, none⟩) (n + 1) cap8))) := (by
        refine ⟨((KeepsOthers.of_grownBy (grown_below hW7) (fun j o e => by cases e)).trans hk8).from _, (KR.below hW7 Hsz.out).trans ⟨hs8, fun b h1 h2 => hh8 b h2 (by omega)⟩, ⟨_, by rw [HN.out]; exact hi8⟩, Nat.le_trans (Nat.le_trans Hsz.out hW7.size) hs8, hB8 w (bthen HB.out (Nat.le_refl _) hW7)⟩); clear hi8 hk8 hs8 hh8 hB8 h7i)
    all_goals gi_wp2
    all_goals exact FIN.out
  case done =>
    rintro D ys W hD hys ⟨⟨v, hi⟩, hsz, hB⟩ hK
    have e3 : W.cell? ⟨w2.heap.size, 0, none⟩ = some v := hi.box.cell 0
    rw [hys, ← HCl.out] at hi
    have hrow := hi.row
    clear HSeq hI0
    gi_wp2
    refine ⟨by simp, .inl ⟨_, _, rfl, run_takeDeferred hK, ?_⟩⟩
    obtain ⟨A1, C1, hv, hz1⟩ := own_ints (ownsRow_putObj hrow (.deferred none) hK rfl) HGb.out
    exact ⟨_, results_tmp rfl _ _ _, A1, C1, by rw [← hv]; rfl, hz1, hB.trans (belowK_b (w := w) (Nat.le_refl _) W D _ _ (by omega) hK rfl rfl)⟩
  case stop =>
    rintro D c pre W _ _ h _
    exact h.elim
end Go.Proofs.Ytccknfhhmdoffaa

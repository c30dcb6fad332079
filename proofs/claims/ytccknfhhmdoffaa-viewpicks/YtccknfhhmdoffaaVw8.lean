/-
  Rows of one's own: what slices.Clone and copied of a view answer. No condition but that the rows lie there, each of at most 100 ints.
-/
import Derived.Test.YtccknfhhmdoffaaVw7
namespace Go.Proofs.Ytccknfhhmdoffaa
set_option linter.unusedVariables false
open Go.RowKit

/-- A row of one's own. -/
def OwnZ (w : World) (base : Nat) (A : Option Addr) (C : Nat) (zs : List Int) : Prop := w.ownsRow base 3 1 (.slice A zs.length C) zs.length (zcells zs)
theorem OwnZ.nil (w : World) (base : Nat) : OwnZ w base none 0 [] := World.ownsRow_nil _ _ _ _
theorem OwnZ.below {w w' : World} {base : Nat} {A : Option Addr} {C : Nat} {zs : List Int} (h : OwnZ w base A C zs) (hb : Below w.heap.size w w') : OwnZ w' base A C zs := row_below h hb
theorem OwnZ.mono {w : World} {base base' : Nat} {A : Option Addr} {C : Nat} {zs : List Int} (h : OwnZ w base A C zs) (hb : base' ≤ base) : OwnZ w base' A C zs := by
  refine ⟨h.1, ?_⟩
  rcases h.2 with hn | ⟨g, cap, cur, hv, h1, h2⟩
  · exact .inl hn
  · exact .inr ⟨g, cap, cur, hv, Nat.le_trans hb h1, h2⟩
theorem OwnZ.ints {w : World} {base : Nat} {A : Option Addr} {C : Nat} {zs : List Int} (h : OwnZ w base A C zs) (hok : ∀ z ∈ zs, I64 z) : ZAt w A C zs := by
  obtain ⟨A1, C1, hv, hz⟩ := own_ints h hok
  cases hv
  exact hz
/-- .. of which something is in the row: its block. -/
theorem OwnZ.blk {w : World} {base : Nat} {A : Option Addr} {C : Nat} {zs : List Int} (h : OwnZ w base A C zs) (hn : 0 < zs.length) : ∃ g cur, A = some ⟨g, 0, none⟩ ∧ Blk w g 3 cur ∧ base ≤ g ∧ zs.length ≤ C ∧ C ≤ maxLen ∧ cur.size = C ∧ ∀ (k : Nat) (z : Int), zs[k]? = some z → cur[k]? = some (Value.int .i64 z) := by
  rcases h.2 with ⟨_, hz⟩ | ⟨g, cap, cur, hv, hb, hg, h1, h2, h3, h4⟩
  · omega
  · cases hv
    refine ⟨g, cur, rfl, hg, hb, h1, h2, by omega, fun k z hz => ?_⟩
    have hk : k < zs.length := (List.getElem?_eq_some_iff.1 hz).1
    have e : (zcells zs)[k]? = some (.int .i64 z) := by unfold zcells; rw [List.getElem?_map, hz]; rfl
    rw [← h4, List.getElem?_take, if_pos (by omega)] at e
    simpa using e
theorem OwnZ.mk {w : World} {base g C : Nat} {cur : Array Value} {zs : List Int} (hb : Blk w g 3 cur) (h0 : base ≤ g) (h1 : zs.length ≤ C) (h2 : C ≤ maxLen) (h3 : cur.size = C) (h4 : ∀ (k : Nat) (z : Int), zs[k]? = some z → cur[k]? = some (Value.int .i64 z)) : OwnZ w base (some ⟨g, 0, none⟩) C zs := by
  refine ⟨by simp [zcells], .inr ⟨g, C, cur, rfl, h0, hb, h1, h2, by omega, ?_⟩⟩
  apply List.ext_getElem?
  intro k
  rw [List.getElem?_take]
  unfold zcells
  rw [List.getElem?_map]
  by_cases hk : k < zs.length
  · rw [if_pos (by omega), List.getElem?_eq_getElem hk, Array.getElem?_toList, h4 k _ (List.getElem?_eq_getElem hk)]; rfl
  · rw [if_neg (by omega), List.getElem?_eq_none (by omega)]; rfl
/-- One of them put in another's place. -/
theorem OwnZ.set {w : World} {base g C : Nat} {zs : List Int} (h : OwnZ w base (some ⟨g, 0, none⟩) C zs) (k : Nat) (z : Int) : OwnZ (w.setCell ⟨g, k, none⟩ (.int .i64 z)) base (some ⟨g, 0, none⟩) C (zs.set k z) := by
  rcases h.2 with ⟨hv, _⟩ | ⟨g', cap, cur, hv, hb, hg, h1, h2, h3, h4⟩
  · cases hv
  · cases hv
    refine ⟨by simp [zcells], .inr ⟨g, C, cur.setIfInBounds k (.int .i64 z), by simp, hb, Blk.set hg k _, by simpa using h1, h2, by simpa using h3, ?_⟩⟩
    rw [Array.toList_setIfInBounds, List.take_set, List.length_set, h4]
    simp [zcells, List.map_set]
theorem OwnZ.other {w : World} {base : Nat} {A : Option Addr} {C : Nat} {zs : List Int} (h : OwnZ w base A C zs) {B : Nat} (hne : ∀ g o, A = some ⟨g, o, none⟩ → g ≠ B) (k : Nat) (v : Value) : OwnZ (w.setCell ⟨B, k, none⟩ v) base A C zs := by
  refine ⟨h.1, ?_⟩
  rcases h.2 with hn | ⟨g, cap, cur, hv, hb, hg, h1⟩
  · exact .inl hn
  · cases hv
    exact .inr ⟨g, C, cur, rfl, hb, Blk.other hg (hne g 0 rfl) k v, h1⟩
theorem OwnZ.alloc {w : World} {base : Nat} {A : Option Addr} {C : Nat} {zs : List Int} (h : OwnZ w base A C zs) (o : Obj) : OwnZ (w.alloc o) base A C zs := World.ownsRow.alloc h o
theorem OwnZ.base {w : World} {base g o : Nat} {C : Nat} {zs : List Int} (h : OwnZ w base (some ⟨g, o, none⟩) C zs) : base ≤ g ∧ g < w.heap.size := World.ownsRow.lt h g rfl

/-! ### Clone -/
def CloneO (W : World) (v : Value) (zs : List Int) : Prop := ∀ w, Below W.heap.size W w → Calls Try.prog 34 #[v] w fun e w' => ∃ A' C', e = .returned (.slice A' zs.length C') ∧ OwnZ w' w.heap.size A' C' zs ∧ Below w.heap.size w w'
theorem CloneO.use {W : World} {v : Value} {zs : List Int} (h : CloneO W v zs) {w : World} (hw : Below W.heap.size W w) {R : Ending → World → Prop} (k : ∀ A' C' w', OwnZ w' w.heap.size A' C' zs → Below w.heap.size w w' → R (.returned (.slice A' zs.length C')) w') : Calls Try.prog 34 #[v] w R :=
  (h w hw).mono fun _ _ ⟨A', C', he, h1, h3⟩ => by subst he; exact k _ _ _ h1 h3
theorem clone_nilO (W : World) (C : Nat) (zs : List Int) (hP : ZAt W none C zs) : CloneO W (.slice none zs.length C) zs := by
  have : zs = [] := by
    cases zs with
    | nil => rfl
    | cons f fs => obtain ⟨_, _, h, _⟩ := hP.get 0 f rfl; cases h
  subst this
  intro w hw
  have hq : ∀ (w : World) (a : Option Addr) (n c : Nat), (binOp .eql 22 (.slice a n c) (.slice none 0 0)).run Try.prog w = .ok (.bool a.isNone) w := fun w a n c => by simp only [binOp]; simp [Op.equal, Op.maxDepth, Lib.run_equalIn_slice_nil w 9999 _ _ a n c 0 0 Try.underlying22]
  go_enter Try.func34, Try.ntmps34
  go_wp2
  go_ret
  exact ⟨none, 0, rfl, OwnZ.nil _ _, Below.refl _ _⟩
set_option maxHeartbeats 1000000 in
theorem clone_someO (W : World) (a : Addr) (C : Nat) (zs : List Int) (hP : ZAt W (some a) C zs) (hfs : zs.length * 8 ≤ 140737488355328) : CloneO W (.slice (some a) zs.length C) zs := by
  intro w hw
  obtain ⟨i1, hi1, hz1, hs1, hb1⟩ := info_parts infoZ
  have hnews : ∀ j u, (zcells zs)[j]? = some u → (w.alloc (.cells #[] 3)).cell? (a.add j) = some u := by
    intro j u hu
    obtain ⟨z, hz, rfl⟩ := zcells_at hu
    obtain ⟨b, o, ha, hb, c0, _⟩ := hP.get j z hz
    cases ha
    have hBW := bb hw (below_alloc w (.cells #[] 3))
    rw [Addr.add_lit]
    exact keep_cellZ hBW hb c0
  have hone : ∀ u ∈ zcells zs, u.oneCell' = true := by
    intro u hu
    obtain ⟨j, hj, rfl⟩ := List.getElem_of_mem hu
    obtain ⟨z, _, hc⟩ := zcells_at (List.getElem?_eq_getElem hj)
    rw [hc]; rfl
  have hO := World.ownsRow_made (base := w.heap.size) (e := 3) (size := 1) w #[] 0 (Nat.le_refl _) (by unfold maxLen; omega) rfl
  obtain ⟨L, hL⟩ : ∃ L, zs.length = L := ⟨_, rfl⟩
  have HL : Hid (zs.length = L) := hL
  have hpl : (zcells zs).length = L * 1 := by rw [Nat.mul_one, ← hL]; simp [zcells]
  rw [hL] at hfs ⊢
  clear hL
  have hq : ∀ (w : World) (a : Option Addr) (n c : Nat), (binOp .eql 22 (.slice a n c) (.slice none 0 0)).run Try.prog w = .ok (.bool a.isNone) w := fun w a n c => by simp only [binOp]; simp [Op.equal, Op.maxDepth, Lib.run_equalIn_slice_nil w 9999 _ _ a n c 0 0 Try.underlying22]
  go_enter Try.func34, Try.ntmps34
  go_wp2_with (at_builtin; refine Hid.out ?_)
  unfold Hid
  refine (wpList_append_own _ rfl _ _ 22 rfl w.heap.size 3 i1 _ 1 8 Try.underlying22 hi1 hz1 hs1 hb1 rfl (by omega) _ 0 _ rfl hO a L C (zcells zs) rfl hpl hnews hone (by unfold maxLen; omega) (by omega) (by simp) ?_)
  intro v' w2 hO3 hG _
  have hB2 : Below w.heap.size w w2 := (below_alloc w (.cells #[] 3)).grown hG (by simp) (fun n hn => (hO.lt n hn).1)
  have hPr : w2.ownsRow w.heap.size 3 1 v' zs.length (zcells zs) := by
    rw [HL.out]; rw [Nat.zero_add, List.nil_append] at hO3; exact hO3
  obtain ⟨A', C', hv⟩ : ∃ A' C', v' = .slice A' L C' := by
    rcases hO3.2 with ⟨rfl, h0⟩ | ⟨g, cap, cur, rfl, _⟩
    · exact ⟨none, 0, by rw [show L = 0 by omega]⟩
    · exact ⟨_, _, by rw [Nat.zero_add]⟩
  subst hv
  have HP : Hid (OwnZ w2 w.heap.size A' C' zs) := by unfold Hid OwnZ; rw [HL.out] at hPr ⊢; exact hPr
  clear hO3 hG hO hnews hone hPr
  go_wp2
  go_ret
  exact ⟨A', C', rfl, HP.out, hB2⟩
theorem clone_anyO (W : World) (A : Option Addr) (C : Nat) (zs : List Int) (hP : ZAt W A C zs) (hfs : zs.length * 8 ≤ 140737488355328) : CloneO W (.slice A zs.length C) zs := by
  cases A with
  | none => exact clone_nilO W C zs hP
  | some a => exact clone_someO W a C zs hP hfs

/-! ### copied -/
/-- Two rows of one's own, apart. -/
structure Two (w : World) (base : Nat) (A1 : Option Addr) (C1 : Nat) (zs : List Int) (A2 : Option Addr) (C2 : Nat) (ss : List Int) : Prop where
  sh : OwnZ w base A1 C1 zs
  st : OwnZ w base A2 C2 ss
  ne : ∀ g h o p, A1 = some ⟨g, o, none⟩ → A2 = some ⟨h, p, none⟩ → g ≠ h
/-- A call that answers a new view. -/
def NewV (W : World) (f : FuncId) (args : Array Value) (o : Int) (zs ss : List Int) : Prop := ∀ w, Below W.heap.size W w → Calls Try.prog f args w fun e w' => ∃ A1 C1 A2 C2, e = .returned (vw o A1 zs.length C1 A2 ss.length C2) ∧ Two w' w.heap.size A1 C1 zs A2 C2 ss ∧ Below w.heap.size w w'
theorem NewV.use {W : World} {f : FuncId} {args : Array Value} {o : Int} {zs ss : List Int} (h : NewV W f args o zs ss) {w : World} (hw : Below W.heap.size W w) {R : Ending → World → Prop} (k : ∀ A1 C1 A2 C2 w', Two w' w.heap.size A1 C1 zs A2 C2 ss → Below w.heap.size w w' → R (.returned (.agg #[.int .i64 o, .slice A1 zs.length C1, .slice A2 ss.length C2])) w') : Calls Try.prog f args w R :=
  (h w hw).mono fun _ _ ⟨A1, C1, A2, C2, he, h1, h2⟩ => by subst he; exact k _ _ _ _ _ h1 h2

theorem copied_fin (w V w2 w3 : World) (hBV : Below w.heap.size w V) {x y z : Value} {t : TypeId} (b1 : Blk V (w.heap.size + 1) t #[x, y, z]) (hb2 : Below V.heap.size V w2) (hb3 : Below w2.heap.size w2 w3) {A1 A2 : Option Addr} {C1 C2 : Nat} {zs ss : List Int} (o1 : OwnZ w2 V.heap.size A1 C1 zs) (o2 : OwnZ w3 w2.heap.size A2 C2 ss) (o : Int) :
    Hid (∀ L L' : Nat, ∃ X, ((w3.setCell ⟨w.heap.size + 1, 0, none⟩ (.int .i64 o)).setCell ⟨w.heap.size + 1, 1, none⟩ (.slice A1 L C1)).setCell ⟨w.heap.size + 1, 2, none⟩ (.slice A2 L' C2) = X ∧ Blk X (w.heap.size + 1) t #[.int .i64 o, .slice A1 L C1, .slice A2 L' C2] ∧ Two X w.heap.size A1 C1 zs A2 C2 ss ∧ Below w.heap.size w X) := fun L L' => by
  have hl := b1.lt
  have h2 := hb2.size
  have n1 : ∀ g o, A1 = some ⟨g, o, none⟩ → g ≠ w.heap.size + 1 := fun g o e => by subst e; have := o1.base.1; omega
  have n2 : ∀ g o, A2 = some ⟨g, o, none⟩ → g ≠ w.heap.size + 1 := fun g o e => by subst e; have := o2.base.1; omega
  refine ⟨_, rfl, ?_, ⟨(((((o1.mono (base' := w.heap.size) (by omega)).below hb3).other n1 0 _).other n1 1 _).other n1 2 _), ((((o2.mono (base' := w.heap.size) (by omega)).other n2 0 _).other n2 1 _).other n2 2 _), fun g h o p e1 e2 => ?_⟩, ?_⟩
  · exact (((b1.below (bb hb2 hb3)).set 0 _).set 1 _).set 2 _
  · subst e1 e2; have := o1.base.2; have := o2.base.1; omega
  · exact ((((bthen hBV (Nat.le_refl _) (bb hb2 hb3)).setCell (p := ⟨w.heap.size + 1, 0, none⟩) (Nat.le_succ _) _).setCell (p := ⟨w.heap.size + 1, 1, none⟩) (Nat.le_succ _) _).setCell (p := ⟨w.heap.size + 1, 2, none⟩) (Nat.le_succ _) _)
set_option maxHeartbeats 2000000 in
theorem copied_any (W : World) (o : Int) (A : Option Addr) (C : Nat) (A' : Option Addr) (C' : Nat) (zs ss : List Int) (hD : ZAt W A C zs) (hZ : ZAt W A' C' ss) (h1 : zs.length ≤ 100) (h2 : ss.length ≤ 100) : NewV W 37 #[vw o A zs.length C A' ss.length C'] o zs ss := by
  intro w hw
  unfold vw
  have H1 := fun {w : World} (hw : Below W.heap.size W w) {R : Ending → World → Prop} k => (clone_anyO W A C zs hD (by omega)).use hw (R := R) k
  have H2 := fun {w : World} (hw : Below W.heap.size W w) {R : Ending → World → Prop} k => (clone_anyO W A' C' ss hZ (by omega)).use hw (R := R) k
  have b0 := (Blk.new w 28 #[.int .i64 o, .slice A zs.length C, .slice A' ss.length C']).alloc (.cells #[.int .i64 0, .slice none 0 0, .slice none 0 0] 28)
  have b1 := Blk.new (w.alloc (.cells #[.int .i64 o, .slice A zs.length C, .slice A' ss.length C'] 28)) 28 #[.int .i64 0, .slice none 0 0, .slice none 0 0]
  rw [World.size_alloc] at b1
  have hBV : Below w.heap.size w ((w.alloc (.cells #[.int .i64 o, .slice A zs.length C, .slice A' ss.length C'] 28)).alloc (.cells #[.int .i64 0, .slice none 0 0, .slice none 0 0] 28)) := bb (below_alloc _ _) (below_alloc _ _)
  have hwV := hw.trans (hBV.mono hw.size)
  obtain ⟨L, hL⟩ : ∃ L, zs.length = L := ⟨_, rfl⟩
  obtain ⟨L', hL'⟩ : ∃ L', ss.length = L' := ⟨_, rfl⟩
  simp only [hL, hL'] at H1 H2 b0 b1 hBV hwV ⊢
  have HL : Hid (zs.length = L) := hL
  have HL' : Hid (ss.length = L') := hL'
  clear hD hZ h1 h2 hL hL'
  go_enter Try.func37, Try.ntmps37
  go_wp2
  obtain ⟨V, hV⟩ : ∃ V, (w.alloc (.cells #[.int .i64 o, .slice A L C, .slice A' L' C'] 28)).alloc (.cells #[.int .i64 0, .slice none 0 0, .slice none 0 0] 28) = V := ⟨_, rfl⟩
  rw [hV] at b0 b1 hBV hwV ⊢
  have e0 : V.cell? ⟨w.heap.size, 0, none⟩ = some (.int .i64 o) := b0.cell 0
  have e1 : V.cell? ⟨w.heap.size, 1, none⟩ = some (.slice A L C) := b0.cell 1
  have e2 : V.cell? ⟨w.heap.size, 2, none⟩ = some (.slice A' L' C') := b0.cell 2
  have B0 : Hid (Blk V w.heap.size 28 #[.int .i64 o, .slice A L C, .slice A' L' C']) := b0
  have B1 : Hid (Blk V (w.heap.size + 1) 28 #[.int .i64 0, .slice none 0 0, .slice none 0 0]) := b1
  clear hV b0 b1
  go_region_with (first
    | (go_at_call 34; refine H2 (hwV.trans (hb2'.mono hwV.size)) fun A2 C2 w3 o2 hb3 => ?_; have hb3' := bb hb2' hb3; have s0 : w3.cell? ⟨w.heap.size, 0, none⟩ = some (.int .i64 o) := (B0.out.below hb3').cell 0; have p0 : w3.cell? ⟨w.heap.size + 1, 0, none⟩ = some (.int .i64 0) := (B1.out.below hb3').cell 0; have p1 : w3.cell? ⟨w.heap.size + 1, 1, none⟩ = some (.slice none 0 0) := (B1.out.below hb3').cell 1; have p2 : w3.cell? ⟨w.heap.size + 1, 2, none⟩ = some (.slice none 0 0) := (B1.out.below hb3').cell 2; have r0 := (B1.out.below hb3').frozen 0; have r1 := (B1.out.below hb3').frozen 1; have r2 := (B1.out.below hb3').frozen 2; have FIN := copied_fin w V w2 w3 hBV B1.out hb2' hb3 o1 o2 o)
    | (go_at_call 34; refine H1 (below_dN hwV _) fun A1 C1 w2 o1 hb2 => ?_; have hb2' := bb (below_dN (Below.refl _ _) _) hb2; have q0 : w2.cell? ⟨w.heap.size, 0, none⟩ = some (.int .i64 o) := (B0.out.below hb2').cell 0; have q1 : w2.cell? ⟨w.heap.size, 1, none⟩ = some (.slice A L C) := (B0.out.below hb2').cell 1; have q2 : w2.cell? ⟨w.heap.size, 2, none⟩ = some (.slice A' L' C') := (B0.out.below hb2').cell 2))
  all_goals
    go_wp2
    obtain ⟨X, hX, bX, f1, f2⟩ := FIN.out L L'
    have y0 : X.cell? ⟨w.heap.size + 1, 0, none⟩ = some (.int .i64 o) := bX.cell 0
    have y1 : X.cell? ⟨w.heap.size + 1, 1, none⟩ = some (.slice A1 L C1) := bX.cell 1
    have y2 : X.cell? ⟨w.heap.size + 1, 2, none⟩ = some (.slice A2 L' C2) := bX.cell 2
    rw [hX]
    exact bodyPost_ret (v := .agg #[.int .i64 o, .slice A1 L C1, .slice A2 L' C2]) (by simp [results, Try.results37, go_sem, y0, y1, y2]) rfl ⟨A1, C1, A2, C2, rfl, f1, f2⟩
end Go.Proofs.Ytccknfhhmdoffaa

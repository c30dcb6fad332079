/-
  field.New of a right row; field.Small, field.Known.
-/
import Derived.Test.YtpjfapibjihbbaaGreatDoorF18
import Derived.Test.YtpjfapibjihbbaaGreatDoorF19
import Derived.Deep.RegionWith
namespace Go.Proofs.YtpjfapibjihbbaaGreatDoor
set_option linter.unusedVariables false
open Go.RowKit

theorem new_right (W : World) (A : Option Addr) (C : Nat) (es : List En) (hE : EntsAt W A C es) (h : RightRow es) (k : Nat) (x : En) (hx : es[k]? = some x) : FNew W 18 #[.slice A es.length C, .int .u64 (x.p : Int)] x := by
  obtain ⟨hp, _, _, _, hl⟩ := h.luc hx
  have HC := check_any W A C es hE
  rw [h.check] at HC
  exact new_yes W _ (x.p : Int) x hp HC (claim_found W A C es hE h.check x.p k x hx (h.find hx) (by omega))
theorem new_not (W : World) (A : Option Addr) (C : Nat) (es : List En) (hE : EntsAt W A C es) (h : RightRow es) (q : Nat) (hq : (es.findIdx? fun y => y.p == q) = none) : AnsB W 18 #[.slice A es.length C, .int .u64 (q : Int)] (.tuple #[.pointer none, .int .i64 14]) := by
  have HC := check_any W A C es hE
  rw [h.check] at HC
  exact new_none W _ (q : Int) HC (claim_none W A C es hE h.check q hq)

/-! ### Small -/
theorem small_no (p : Int) (HW : AnsM 37 #[.int .u64 p] (.tuple #[.slice none 0 0, .int .i64 1])) : AnsM 16 #[.int .u64 p] (.tuple #[.pointer none, .int .i64 1]) := by
  intro w
  go_enter Tryz.func16, Tryz.ntmps16
  go_wp2_with (go_at_call 37; with_reducible refine AnsM.use HW fun w1 hb1 => ?_)
  go_ret2
  exact ⟨rfl, hb1⟩
set_option maxHeartbeats 1000000 in
theorem small_walk (W : World) (p : Nat) (x : En) (HW : RowAns p) (HN : ∀ w A C, EntsAt w A C (rowOf p) → FNew w 18 #[.slice A (rowL p).length C, .int .u64 (p : Int)] x) : FNew W 16 #[.int .u64 (p : Int)] x := by
  intro w hw
  obtain ⟨L, hL⟩ : ∃ L, (rowL p).length = L := ⟨_, rfl⟩
  have HW' : ∀ w {R : Ending → World → Prop}, (∀ A C w', EntsAt w' A C (rowOf p) → Below w.heap.size w w' → R (.returned (.tuple #[.slice A L C, .int .i64 0])) w') → Calls Tryz.prog 37 #[.int .u64 (p : Int)] w R := by
    intro w R k
    exact RowAns.use HW fun A C w' h1 h2 => by rw [hL]; exact k A C w' h1 h2
  rw [hL] at HN
  clear HW hL
  go_enter Tryz.func16, Tryz.ntmps16
  go_wp2_with (first
    | (go_at_call 37; with_reducible refine HW' _ fun A1 C1 w1 hE1 hb1 => ?_; have HN1 := HN w1 A1 C1 hE1)
    | (go_at_call 18; with_reducible refine FNew.use HN1 (Below.refl _ _) fun b w2 hF2 hb2 => ?_))
  go_ret2
  exact ⟨b, rfl, hF2, bb hb1 hb2⟩
theorem small_yes (W : World) (p : Nat) (hp : Odd16 p) : FNew W 16 #[.int .u64 (p : Int)] (enOf p) := by
  refine small_walk W p (enOf p) (row_any p hp) fun w A C hE => ?_
  obtain ⟨k, h1, h2, _⟩ := row_last hp
  have := new_right w A C (rowOf p) hE (small_row hp) k (enOf p) (by rw [rowOf, List.getElem?_map, h2]; rfl)
  rw [row_len] at this
  exact this
theorem small_none (p : Nat) (hn : p < 18446744073709551616) (hp : ¬ Odd16 p) : AnsM 16 #[.int .u64 (p : Int)] (.tuple #[.pointer none, .int .i64 1]) := small_no _ (row_no p hn hp)

/-! ### Known -/
theorem cells18 (w : World) (cs : Array Value) (t : TypeId) (j : Nat) (u : Value) (h : cs[j]? = some u) : (w.alloc (.cells cs t)).cell? ⟨w.heap.size, j, none⟩ = some u := by
  rw [World.cell?_alloc_at _ _ _ _ rfl]; exact h
theorem below_drew (w : World) : Below w.heap.size w w.drew := ⟨rfl, rfl, rfl, Nat.le_refl _, fun _ _ => rfl⟩
def KnI (i : Nat) (p g : Int) (n : Nat) (fs : List Pw) : Prop := ∀ w, Calls Tryz.prog 38 #[] w fun e w' => ∃ (a0 d0 : Int) (A0 : Option Addr) (n0 C0 : Nat) (a1 d1 : Int) (A1 : Option Addr) (n1 C1 : Nat) (a2 d2 : Int) (A2 : Option Addr) (n2 C2 : Nat) (a3 d3 : Int) (A3 : Option Addr) (n3 C3 : Nat) (a4 d4 : Int) (A4 : Option Addr) (n4 C4 : Nat) (a5 d5 : Int) (A5 : Option Addr) (n5 C5 : Nat) (b C : Nat), e = .returned (.agg #[(.int .u64 a0), (.int .u64 d0), (.slice A0 n0 C0), (.int .u64 a1), (.int .u64 d1), (.slice A1 n1 C1), (.int .u64 a2), (.int .u64 d2), (.slice A2 n2 C2), (.int .u64 a3), (.int .u64 d3), (.slice A3 n3 C3), (.int .u64 a4), (.int .u64 d4), (.slice A4 n4 C4), (.int .u64 a5), (.int .u64 d5), (.slice A5 n5 C5)]) ∧ Below w.heap.size w w' ∧ (#[(.int .u64 a0), (.int .u64 d0), (.slice A0 n0 C0), (.int .u64 a1), (.int .u64 d1), (.slice A1 n1 C1), (.int .u64 a2), (.int .u64 d2), (.slice A2 n2 C2), (.int .u64 a3), (.int .u64 d3), (.slice A3 n3 C3), (.int .u64 a4), (.int .u64 d4), (.slice A4 n4 C4), (.int .u64 a5), (.int .u64 d5), (.slice A5 n5 C5)] : Array Value)[i * 3]? = some (.int .u64 p) ∧ (#[(.int .u64 a0), (.int .u64 d0), (.slice A0 n0 C0), (.int .u64 a1), (.int .u64 d1), (.slice A1 n1 C1), (.int .u64 a2), (.int .u64 d2), (.slice A2 n2 C2), (.int .u64 a3), (.int .u64 d3), (.slice A3 n3 C3), (.int .u64 a4), (.int .u64 d4), (.slice A4 n4 C4), (.int .u64 a5), (.int .u64 d5), (.slice A5 n5 C5)] : Array Value)[i * 3 + 1]? = some (.int .u64 g) ∧ (#[(.int .u64 a0), (.int .u64 d0), (.slice A0 n0 C0), (.int .u64 a1), (.int .u64 d1), (.slice A1 n1 C1), (.int .u64 a2), (.int .u64 d2), (.slice A2 n2 C2), (.int .u64 a3), (.int .u64 d3), (.slice A3 n3 C3), (.int .u64 a4), (.int .u64 d4), (.slice A4 n4 C4), (.int .u64 a5), (.int .u64 d5), (.slice A5 n5 C5)] : Array Value)[i * 3 + 2]? = some (.slice (some ⟨b, 0, none⟩) n C) ∧ PowsAt w' (some ⟨b, 0, none⟩) C fs
theorem KnI.use {i : Nat} {p g : Int} {n : Nat} {fs : List Pw} (h : KnI i p g n fs) {w : World} {R : Ending → World → Prop} (k : ∀ (a0 d0 : Int) (A0 : Option Addr) (n0 C0 : Nat) (a1 d1 : Int) (A1 : Option Addr) (n1 C1 : Nat) (a2 d2 : Int) (A2 : Option Addr) (n2 C2 : Nat) (a3 d3 : Int) (A3 : Option Addr) (n3 C3 : Nat) (a4 d4 : Int) (A4 : Option Addr) (n4 C4 : Nat) (a5 d5 : Int) (A5 : Option Addr) (n5 C5 : Nat) (b C : Nat) w', Below w.heap.size w w' → (#[(.int .u64 a0), (.int .u64 d0), (.slice A0 n0 C0), (.int .u64 a1), (.int .u64 d1), (.slice A1 n1 C1), (.int .u64 a2), (.int .u64 d2), (.slice A2 n2 C2), (.int .u64 a3), (.int .u64 d3), (.slice A3 n3 C3), (.int .u64 a4), (.int .u64 d4), (.slice A4 n4 C4), (.int .u64 a5), (.int .u64 d5), (.slice A5 n5 C5)] : Array Value)[i * 3]? = some (.int .u64 p) → (#[(.int .u64 a0), (.int .u64 d0), (.slice A0 n0 C0), (.int .u64 a1), (.int .u64 d1), (.slice A1 n1 C1), (.int .u64 a2), (.int .u64 d2), (.slice A2 n2 C2), (.int .u64 a3), (.int .u64 d3), (.slice A3 n3 C3), (.int .u64 a4), (.int .u64 d4), (.slice A4 n4 C4), (.int .u64 a5), (.int .u64 d5), (.slice A5 n5 C5)] : Array Value)[i * 3 + 1]? = some (.int .u64 g) → (#[(.int .u64 a0), (.int .u64 d0), (.slice A0 n0 C0), (.int .u64 a1), (.int .u64 d1), (.slice A1 n1 C1), (.int .u64 a2), (.int .u64 d2), (.slice A2 n2 C2), (.int .u64 a3), (.int .u64 d3), (.slice A3 n3 C3), (.int .u64 a4), (.int .u64 d4), (.slice A4 n4 C4), (.int .u64 a5), (.int .u64 d5), (.slice A5 n5 C5)] : Array Value)[i * 3 + 2]? = some (.slice (some ⟨b, 0, none⟩) n C) → PowsAt w' (some ⟨b, 0, none⟩) C fs → R (.returned (.agg #[(.int .u64 a0), (.int .u64 d0), (.slice A0 n0 C0), (.int .u64 a1), (.int .u64 d1), (.slice A1 n1 C1), (.int .u64 a2), (.int .u64 d2), (.slice A2 n2 C2), (.int .u64 a3), (.int .u64 d3), (.slice A3 n3 C3), (.int .u64 a4), (.int .u64 d4), (.slice A4 n4 C4), (.int .u64 a5), (.int .u64 d5), (.slice A5 n5 C5)])) w') : Calls Tryz.prog 38 #[] w R :=
  (h w).mono fun _ w' ⟨a0, d0, A0, n0, C0, a1, d1, A1, n1, C1, a2, d2, A2, n2, C2, a3, d3, A3, n3, C3, a4, d4, A4, n4, C4, a5, d5, A5, n5, C5, b, C, he, hb, h0, h1, h2, hp⟩ => by subst he; exact k a0 d0 A0 n0 C0 a1 d1 A1 n1 C1 a2 d2 A2 n2 C2 a3 d3 A3 n3 C3 a4 d4 A4 n4 C4 a5 d5 A5 n5 C5 b C w' hb h0 h1 h2 hp
set_option maxHeartbeats 2000000 in
theorem knwn_walk (W : World) (i : Nat) (hi : (i : Int) < 6) (p g : Int) (n L : Nat) (fs : List Pw) (es : List En) (x : En) (HK : KnI i p g n fs)
    (HR : ∀ (w1 w2 : World) (b C : Nat), PowsAt w1 (some ⟨b, 0, none⟩) C fs → Below w1.heap.size w1 w2 → ∀ {R : Ending → World → Prop}, (∀ A C w', EntsAt w' A C es → Below w2.heap.size w2 w' → R (.returned (.slice A L C)) w') → Calls Tryz.prog 39 #[.agg #[.int .u64 p, .int .u64 g, .slice (some ⟨b, 0, none⟩) n C]] w2 R)
    (HN : ∀ w1 A C, EntsAt w1 A C es → FNew w1 18 #[.slice A L C, .int .u64 p] x) : FNew W 17 #[.int .i64 (i : Int)] x := by
  intro w hw
  go_enter Tryz.func17, Tryz.ntmps17
  go_wp2_with (go_at_call 38; with_reducible refine KnI.use HK fun a0 d0 A0 n0 C0 a1 d1 A1 n1 C1 a2 d2 A2 n2 C2 a3 d3 A3 n3 C3 a4 d4 A4 n4 C4 a5 d5 A5 n5 C5 bq Cq w1 hb1 h0 h1 h2 hp1 => ?_; have y0 := cells18 w1 #[(.int .u64 a0), (.int .u64 d0), (.slice A0 n0 C0), (.int .u64 a1), (.int .u64 d1), (.slice A1 n1 C1), (.int .u64 a2), (.int .u64 d2), (.slice A2 n2 C2), (.int .u64 a3), (.int .u64 d3), (.slice A3 n3 C3), (.int .u64 a4), (.int .u64 d4), (.slice A4 n4 C4), (.int .u64 a5), (.int .u64 d5), (.slice A5 n5 C5)] 79 _ _ h0; have y1 := cells18 w1 #[(.int .u64 a0), (.int .u64 d0), (.slice A0 n0 C0), (.int .u64 a1), (.int .u64 d1), (.slice A1 n1 C1), (.int .u64 a2), (.int .u64 d2), (.slice A2 n2 C2), (.int .u64 a3), (.int .u64 d3), (.slice A3 n3 C3), (.int .u64 a4), (.int .u64 d4), (.slice A4 n4 C4), (.int .u64 a5), (.int .u64 d5), (.slice A5 n5 C5)] 79 _ _ h1; have y2 := cells18 w1 #[(.int .u64 a0), (.int .u64 d0), (.slice A0 n0 C0), (.int .u64 a1), (.int .u64 d1), (.slice A1 n1 C1), (.int .u64 a2), (.int .u64 d2), (.slice A2 n2 C2), (.int .u64 a3), (.int .u64 d3), (.slice A3 n3 C3), (.int .u64 a4), (.int .u64 d4), (.slice A4 n4 C4), (.int .u64 a5), (.int .u64 d5), (.slice A5 n5 C5)] 79 _ _ h2; clear h0 h1 h2)
  obtain ⟨V, hV⟩ : ∃ V, w1.alloc (.cells #[(.int .u64 a0), (.int .u64 d0), (.slice A0 n0 C0), (.int .u64 a1), (.int .u64 d1), (.slice A1 n1 C1), (.int .u64 a2), (.int .u64 d2), (.slice A2 n2 C2), (.int .u64 a3), (.int .u64 d3), (.slice A3 n3 C3), (.int .u64 a4), (.int .u64 d4), (.slice A4 n4 C4), (.int .u64 a5), (.int .u64 d5), (.slice A5 n5 C5)] 79) = V := ⟨_, rfl⟩
  have hBV : Below w1.heap.size w1 V := hV ▸ below_alloc _ _
  have hVs : w1.heap.size < V.heap.size := by rw [← hV]; simp
  rw [hV] at y0 y1 y2 ⊢
  obtain ⟨bo, hbo⟩ : ∃ bo, w1.heap.size = bo := ⟨_, rfl⟩
  rw [hbo] at y0 y1 y2 hVs ⊢
  clear hV hbo
  go_region_with (first
    | (go_at_call 39; with_reducible refine HR _ _ _ _ hp1 (bb hBV (below_drew _)) fun A2 C2 w2 hE2 hb2 => ?_; have HN1 := HN w2 A2 C2 hE2; have hbd := bb (below_drew V) hb2; have y0' := keep_cell hbd hVs y0)
    | (go_at_call 18; with_reducible refine FNew.use HN1 (Below.refl _ _) fun b w3 hF3 hb3 => ?_))
  all_goals
    go_wp2
    go_ret2
    exact ⟨b, rfl, hF3, bb hb1 (bb hBV (bb hbd hb3))⟩
theorem kni0 : KnI 0 4179340454199820289 3 2 (knFs 0) := fun w => (entries_any w).mono fun _ w' ⟨he, hb, p0, p1, p2, p3, p4, p5⟩ => ⟨_, _, _, _, _, _, _, _, _, _, _, _, _, _, _, _, _, _, _, _, _, _, _, _, _, _, _, _, _, _, _, _, he, hb, rfl, rfl, rfl, p0⟩
theorem known0 (W : World) : FNew W 17 #[.int .i64 0] (kn 0) := by
  obtain ⟨L, hL⟩ : ∃ L, (knRow 0).length = L := ⟨_, rfl⟩
  refine knwn_walk W 0 (by decide) 4179340454199820289 3 2 L (knFs 0) (knRow 0) (kn 0) kni0 ?_ ?_
  · intro w1 w2 b C hP hb R k
    have HO : RowOfAns w1 (.agg #[.int .u64 4179340454199820289, .int .u64 3, .slice (some ⟨b, 0, none⟩) 2 C]) (knRow 0) := rowof_walk w1 (some ⟨b, 0, none⟩) C 4179340454199820289 3 ⟨2, 57⟩ [⟨29, 1⟩] (by decide) (by decide) hP (by decide) (by decide) (by intro f hf; simp at hf; subst hf; exact odd29)
    exact RowOfAns.use HO hb fun A C w' h1 h2 => by rw [hL]; exact k A C w' h1 h2
  · intro w1 A C hE
    have := new_right w1 A C (knRow 0) hE (kn_row 0 (by omega)) _ (kn 0) (knRow_last 0)
    rw [hL] at this
    exact this
theorem kni1 : KnI 1 1945555039024054273 5 2 (knFs 1) := fun w => (entries_any w).mono fun _ w' ⟨he, hb, p0, p1, p2, p3, p4, p5⟩ => ⟨_, _, _, _, _, _, _, _, _, _, _, _, _, _, _, _, _, _, _, _, _, _, _, _, _, _, _, _, _, _, _, _, he, hb, rfl, rfl, rfl, p1⟩
theorem known1 (W : World) : FNew W 17 #[.int .i64 1] (kn 1) := by
  obtain ⟨L, hL⟩ : ∃ L, (knRow 1).length = L := ⟨_, rfl⟩
  refine knwn_walk W 1 (by decide) 1945555039024054273 5 2 L (knFs 1) (knRow 1) (kn 1) kni1 ?_ ?_
  · intro w1 w2 b C hP hb R k
    have HO : RowOfAns w1 (.agg #[.int .u64 1945555039024054273, .int .u64 5, .slice (some ⟨b, 0, none⟩) 2 C]) (knRow 1) := rowof_walk w1 (some ⟨b, 0, none⟩) C 1945555039024054273 5 ⟨2, 56⟩ [⟨3, 3⟩] (by decide) (by decide) hP (by decide) (by decide) (by intro f hf; simp at hf; subst hf; exact odd3)
    exact RowOfAns.use HO hb fun A C w' h1 h2 => by rw [hL]; exact k A C w' h1 h2
  · intro w1 A C hE
    have := new_right w1 A C (knRow 1) hE (kn_row 1 (by omega)) _ (kn 1) (knRow_last 1)
    rw [hL] at this
    exact this
theorem kni2 : KnI 2 180143985094819841 6 2 (knFs 2) := fun w => (entries_any w).mono fun _ w' ⟨he, hb, p0, p1, p2, p3, p4, p5⟩ => ⟨_, _, _, _, _, _, _, _, _, _, _, _, _, _, _, _, _, _, _, _, _, _, _, _, _, _, _, _, _, _, _, _, he, hb, rfl, rfl, rfl, p2⟩
theorem known2 (W : World) : FNew W 17 #[.int .i64 2] (kn 2) := by
  obtain ⟨L, hL⟩ : ∃ L, (knRow 2).length = L := ⟨_, rfl⟩
  refine knwn_walk W 2 (by decide) 180143985094819841 6 2 L (knFs 2) (knRow 2) (kn 2) kni2 ?_ ?_
  · intro w1 w2 b C hP hb R k
    have HO : RowOfAns w1 (.agg #[.int .u64 180143985094819841, .int .u64 6, .slice (some ⟨b, 0, none⟩) 2 C]) (knRow 2) := rowof_walk w1 (some ⟨b, 0, none⟩) C 180143985094819841 6 ⟨2, 55⟩ [⟨5, 1⟩] (by decide) (by decide) hP (by decide) (by decide) (by intro f hf; simp at hf; subst hf; exact odd5)
    exact RowOfAns.use HO hb fun A C w' h1 h2 => by rw [hL]; exact k A C w' h1 h2
  · intro w1 A C hE
    have := new_right w1 A C (knRow 2) hE (kn_row 2 (by omega)) _ (kn 2) (knRow_last 2)
    rw [hL] at this
    exact this
theorem kni3 : KnI 3 754974721 11 3 (knFs 3) := fun w => (entries_any w).mono fun _ w' ⟨he, hb, p0, p1, p2, p3, p4, p5⟩ => ⟨_, _, _, _, _, _, _, _, _, _, _, _, _, _, _, _, _, _, _, _, _, _, _, _, _, _, _, _, _, _, _, _, he, hb, rfl, rfl, rfl, p3⟩
theorem known3 (W : World) : FNew W 17 #[.int .i64 3] (kn 3) := by
  obtain ⟨L, hL⟩ : ∃ L, (knRow 3).length = L := ⟨_, rfl⟩
  refine knwn_walk W 3 (by decide) 754974721 11 3 L (knFs 3) (knRow 3) (kn 3) kni3 ?_ ?_
  · intro w1 w2 b C hP hb R k
    have HO : RowOfAns w1 (.agg #[.int .u64 754974721, .int .u64 11, .slice (some ⟨b, 0, none⟩) 3 C]) (knRow 3) := rowof_walk w1 (some ⟨b, 0, none⟩) C 754974721 11 ⟨2, 24⟩ [⟨3, 2⟩, ⟨5, 1⟩] (by decide) (by decide) hP (by decide) (by decide) (by intro f hf; simp at hf; rcases hf with rfl | rfl; exact odd3; exact odd5)
    exact RowOfAns.use HO hb fun A C w' h1 h2 => by rw [hL]; exact k A C w' h1 h2
  · intro w1 A C hE
    have := new_right w1 A C (knRow 3) hE (kn_row 3 (by omega)) _ (kn 3) (knRow_last 3)
    rw [hL] at this
    exact this
theorem kni4 : KnI 4 469762049 3 2 (knFs 4) := fun w => (entries_any w).mono fun _ w' ⟨he, hb, p0, p1, p2, p3, p4, p5⟩ => ⟨_, _, _, _, _, _, _, _, _, _, _, _, _, _, _, _, _, _, _, _, _, _, _, _, _, _, _, _, _, _, _, _, he, hb, rfl, rfl, rfl, p4⟩
theorem known4 (W : World) : FNew W 17 #[.int .i64 4] (kn 4) := by
  obtain ⟨L, hL⟩ : ∃ L, (knRow 4).length = L := ⟨_, rfl⟩
  refine knwn_walk W 4 (by decide) 469762049 3 2 L (knFs 4) (knRow 4) (kn 4) kni4 ?_ ?_
  · intro w1 w2 b C hP hb R k
    have HO : RowOfAns w1 (.agg #[.int .u64 469762049, .int .u64 3, .slice (some ⟨b, 0, none⟩) 2 C]) (knRow 4) := rowof_walk w1 (some ⟨b, 0, none⟩) C 469762049 3 ⟨2, 26⟩ [⟨7, 1⟩] (by decide) (by decide) hP (by decide) (by decide) (by intro f hf; simp at hf; subst hf; exact odd7)
    exact RowOfAns.use HO hb fun A C w' h1 h2 => by rw [hL]; exact k A C w' h1 h2
  · intro w1 A C hE
    have := new_right w1 A C (knRow 4) hE (kn_row 4 (by omega)) _ (kn 4) (knRow_last 4)
    rw [hL] at this
    exact this
theorem kni5 : KnI 5 167772161 3 2 (knFs 5) := fun w => (entries_any w).mono fun _ w' ⟨he, hb, p0, p1, p2, p3, p4, p5⟩ => ⟨_, _, _, _, _, _, _, _, _, _, _, _, _, _, _, _, _, _, _, _, _, _, _, _, _, _, _, _, _, _, _, _, he, hb, rfl, rfl, rfl, p5⟩
theorem known5 (W : World) : FNew W 17 #[.int .i64 5] (kn 5) := by
  obtain ⟨L, hL⟩ : ∃ L, (knRow 5).length = L := ⟨_, rfl⟩
  refine knwn_walk W 5 (by decide) 167772161 3 2 L (knFs 5) (knRow 5) (kn 5) kni5 ?_ ?_
  · intro w1 w2 b C hP hb R k
    have HO : RowOfAns w1 (.agg #[.int .u64 167772161, .int .u64 3, .slice (some ⟨b, 0, none⟩) 2 C]) (knRow 5) := rowof_walk w1 (some ⟨b, 0, none⟩) C 167772161 3 ⟨2, 25⟩ [⟨5, 1⟩] (by decide) (by decide) hP (by decide) (by decide) (by intro f hf; simp at hf; subst hf; exact odd5)
    exact RowOfAns.use HO hb fun A C w' h1 h2 => by rw [hL]; exact k A C w' h1 h2
  · intro w1 A C hE
    have := new_right w1 A C (knRow 5) hE (kn_row 5 (by omega)) _ (kn 5) (knRow_last 5)
    rw [hL] at this
    exact this
theorem known_yes (W : World) (i : Nat) (hi : i ≤ 5) : FNew W 17 #[.int .i64 (i : Int)] (kn i) := by
  rcases (show i = 0 ∨ i = 1 ∨ i = 2 ∨ i = 3 ∨ i = 4 ∨ i = 5 by omega) with rfl | rfl | rfl | rfl | rfl | rfl
  · exact known0 W
  · exact known1 W
  · exact known2 W
  · exact known3 W
  · exact known4 W
  · exact known5 W
end Go.Proofs.YtpjfapibjihbbaaGreatDoor

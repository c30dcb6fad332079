/-
  What part of a view answers: the same with fewer indexes of an axis. No condition but that the rows lie there, each of at most 100 ints, and that nothing goes round.
-/
import Derived.Test.YtccknfhhmdoffaaVw8
namespace Go.Proofs.Ytccknfhhmdoffaa
set_option linter.unusedVariables false
open Go.RowKit

theorem Two.alloc {w : World} {base : Nat} {A1 : Option Addr} {C1 : Nat} {zs : List Int} {A2 : Option Addr} {C2 : Nat} {ss : List Int} (h : Two w base A1 C1 zs A2 C2 ss) (x : Obj) : Two (w.alloc x) base A1 C1 zs A2 C2 ss := ⟨h.sh.alloc x, h.st.alloc x, h.ne⟩
theorem Two.mono {w : World} {base base' : Nat} {A1 : Option Addr} {C1 : Nat} {zs : List Int} {A2 : Option Addr} {C2 : Nat} {ss : List Int} (h : Two w base A1 C1 zs A2 C2 ss) (hb : base' ≤ base) : Two w base' A1 C1 zs A2 C2 ss := ⟨h.sh.mono hb, h.st.mono hb, h.ne⟩
theorem Two.below {w w' : World} {base : Nat} {A1 : Option Addr} {C1 : Nat} {zs : List Int} {A2 : Option Addr} {C2 : Nat} {ss : List Int} (h : Two w base A1 C1 zs A2 C2 ss) (hb : Below w.heap.size w w') : Two w' base A1 C1 zs A2 C2 ss := ⟨h.sh.below hb, h.st.below hb, h.ne⟩
theorem Two.other {w : World} {base : Nat} {A1 : Option Addr} {C1 : Nat} {zs : List Int} {A2 : Option Addr} {C2 : Nat} {ss : List Int} (h : Two w base A1 C1 zs A2 C2 ss) {B : Nat} (hB : B < base) (k : Nat) (v : Value) : Two (w.setCell ⟨B, k, none⟩ v) base A1 C1 zs A2 C2 ss :=
  ⟨h.sh.other (fun g o e => by subst e; have := h.sh.base.1; omega) k v, h.st.other (fun g o e => by subst e; have := h.st.base.1; omega) k v, h.ne⟩
theorem Two.past {w : World} {base : Nat} {A1 : Option Addr} {C1 : Nat} {zs : List Int} {A2 : Option Addr} {C2 : Nat} {ss : List Int} (h : Two w base A1 C1 zs A2 C2 ss) {B : Nat} (h1 : ∀ g o, A1 = some ⟨g, o, none⟩ → g < B) (h2 : ∀ g o, A2 = some ⟨g, o, none⟩ → g < B) (k : Nat) (v : Value) : Two (w.setCell ⟨B, k, none⟩ v) base A1 C1 zs A2 C2 ss :=
  ⟨h.sh.other (fun g o e => by have := h1 g o e; omega) k v, h.st.other (fun g o e => by have := h2 g o e; omega) k v, h.ne⟩
theorem Two.set1 {w : World} {base g : Nat} {C1 : Nat} {zs : List Int} {A2 : Option Addr} {C2 : Nat} {ss : List Int} (h : Two w base (some ⟨g, 0, none⟩) C1 zs A2 C2 ss) (k : Nat) (z : Int) : Two (w.setCell ⟨g, k, none⟩ (.int .i64 z)) base (some ⟨g, 0, none⟩) C1 (zs.set k z) A2 C2 ss :=
  ⟨h.sh.set k z, h.st.other (fun g' o e => fun e' => h.ne g g' 0 o rfl e e'.symm) k _, h.ne⟩
theorem Two.set2 {w : World} {base g : Nat} {C1 : Nat} {zs : List Int} {A1 : Option Addr} {C2 : Nat} {ss : List Int} (h : Two w base A1 C1 zs (some ⟨g, 0, none⟩) C2 ss) (k : Nat) (z : Int) : Two (w.setCell ⟨g, k, none⟩ (.int .i64 z)) base A1 C1 zs (some ⟨g, 0, none⟩) C2 (ss.set k z) :=
  ⟨h.sh.other (fun g' o e => fun e' => h.ne g' g o 0 e rfl e') k _, h.st.set k z, h.ne⟩

/-- The strides, of an axis only so many indexes. -/
def sts (ss : List Int) (k : Nat) (c s : Int) : List Int := if 1 < c then ss.set k (sg ss k * s) else ss
theorem sts_len (ss : List Int) (k : Nat) (c s : Int) : (sts ss k c s).length = ss.length := by unfold sts; split <;> simp
theorem put_fin {X w : World} {B : Nat} {t : TypeId} {x y z : Value} (bX : Blk X B t #[x, y, z]) {A1 A2 : Option Addr} {C1 C2 : Nat} {zs ss : List Int} (tX : Two X (B + 1) A1 C1 zs A2 C2 ss) (hB : w.heap.size ≤ B) (hX : Below w.heap.size w X) (o : Int) (L L' : Nat) :
    ∃ Y, ((X.setCell ⟨B, 0, none⟩ (.int .i64 o)).setCell ⟨B, 1, none⟩ (.slice A1 L C1)).setCell ⟨B, 2, none⟩ (.slice A2 L' C2) = Y ∧ Blk Y B t #[.int .i64 o, .slice A1 L C1, .slice A2 L' C2] ∧ Two Y w.heap.size A1 C1 zs A2 C2 ss ∧ Below w.heap.size w Y := by
  refine ⟨_, rfl, ((bX.set 0 _).set 1 _).set 2 _, (((tX.other (Nat.lt_succ_self _) 0 _).other (Nat.lt_succ_self _) 1 _).other (Nat.lt_succ_self _) 2 _).mono (by omega), ?_⟩
  exact ((hX.setCell (p := ⟨B, 0, none⟩) hB _).setCell (p := ⟨B, 1, none⟩) hB _).setCell (p := ⟨B, 2, none⟩) hB _
set_option maxHeartbeats 2000000 in
theorem part_any (W : World) (o : Int) (A : Option Addr) (C : Nat) (A' : Option Addr) (C' : Nat) (zs ss : List Int) (hD : ZAt W A C zs) (hZ : ZAt W A' C' ss) (h1 : zs.length ≤ 100) (h2 : ss.length ≤ 100)
    (k : Nat) (hk1 : k < zs.length) (hk2 : k < ss.length) (f s c : Int) (wa : wrap64 (f * sg ss k) = f * sg ss k) (wb : wrap64 (o + f * sg ss k) = o + f * sg ss k) (wc : 1 < c → wrap64 (sg ss k * s) = sg ss k * s) :
    NewV W 40 #[vw o A zs.length C A' ss.length C', .int .i64 (k : Int), .int .i64 f, .int .i64 s, .int .i64 c] (o + f * sg ss k) (zs.set k c) (sts ss k c s) := by
  intro w hw
  have HC := copied_any W o A C A' C' zs ss hD hZ h1 h2
  rw [List.length_set, sts_len]
  unfold vw at *
  have HCu := fun {w : World} (hw : Below W.heap.size W w) {R : Ending → World → Prop} k => HC.use hw (R := R) k
  clear HC
  obtain ⟨x, hx⟩ : ∃ x, zs[k]? = some x := ⟨_, List.getElem?_eq_getElem hk1⟩
  obtain ⟨z, hz⟩ : ∃ z, ss[k]? = some z := ⟨_, List.getElem?_eq_getElem hk2⟩
  obtain ⟨b, q, hA, hb, c0, _⟩ := hZ.get k z hz
  subst hA
  rw [sg_in hz] at wa wb wc ⊢
  obtain ⟨t, ht⟩ : ∃ t, z * s = t := ⟨_, rfl⟩
  have HS : Hid (sts ss k c s = if 1 < c then ss.set k t else ss) := by unfold Hid sts; rw [sg_in hz, ht]
  rw [ht] at wc
  have HW : Hid (1 < c → wrap64 (z * s) = t) := by rw [ht]; exact wc
  obtain ⟨L, hL⟩ : ∃ L, zs.length = L := ⟨_, rfl⟩
  obtain ⟨L', hL'⟩ : ∃ L', ss.length = L' := ⟨_, rfl⟩
  simp only [hL, hL'] at HCu hk1 hk2 ⊢
  have HL : Hid (zs.length = L) := hL
  have HL' : Hid (ss.length = L') := hL'
  have hkL : (k : Int) < (L : Int) := by omega
  have hkL' : (k : Int) < (L' : Int) := by omega
  obtain ⟨y, hy⟩ : ∃ y, f * z = y := ⟨_, rfl⟩
  obtain ⟨u, hu⟩ : ∃ u, o + y = u := ⟨_, rfl⟩
  have w0 : wrap64 (f * z) = y := by rw [wa, hy]
  rw [hy] at wb ⊢
  have w1 : wrap64 (o + y) = u := by rw [wb, hu]
  rw [hu]
  have HX : Hid (zs[k]? = some x) := hx
  have HZ : Hid (ss[k]? = some z) := hz
  have hB0 : Below w.heap.size w ((w.alloc (.cells #[.int .i64 o, .slice A L C, .slice (some ⟨b, q, none⟩) L' C'] 28)).alloc (.cells #[.int .i64 0, .slice none 0 0, .slice none 0 0] 28)) := bb (below_alloc _ _) (below_alloc _ _)
  have b0 := (Blk.new w 28 #[.int .i64 o, .slice A L C, .slice (some ⟨b, q, none⟩) L' C']).alloc (.cells #[.int .i64 0, .slice none 0 0, .slice none 0 0] 28)
  have b1 := Blk.new (w.alloc (.cells #[.int .i64 o, .slice A L C, .slice (some ⟨b, q, none⟩) L' C'] 28)) 28 #[.int .i64 0, .slice none 0 0, .slice none 0 0]
  rw [World.size_alloc] at b1
  have hw0 := hw.trans (hB0.mono hw.size)
  clear hD hZ h1 h2 hL hL' hx hz wa wb wc hy hu ht
  go_enter Try.func40, Try.ntmps40
  go_wp2_with (go_at_call 37; refine HCu hw0 fun A1 C1 A2 C2 w2 tw hb2 => ?_)
  rw [World.size_alloc, World.size_alloc] at tw
  obtain ⟨g1, cur1, rfl, d1, l1, m1, n1, z1, r1⟩ := tw.sh.blk (by rw [HL.out]; omega)
  obtain ⟨g2, cur2, rfl, d2, l2, m2, n2, z2, r2⟩ := tw.st.blk (by rw [HL'.out]; omega)
  rw [HL.out] at m1
  rw [HL'.out] at m2
  have e0 := b0.below hb2
  have e1 := b1.below hb2
  have lt0 := e0.lt
  have lt1 := e1.lt
  have lt2 := d1.lt
  have lt3 := d2.lt
  have hbn := tw.ne g1 g2 0 0 rfl rfl
  have hB2 := bb hB0 hb2
  obtain ⟨V, hV⟩ : ∃ V, w2.alloc (.cells #[.int .i64 o, .slice (some ⟨g1, 0, none⟩) L C1, .slice (some ⟨g2, 0, none⟩) L' C2] 28) = V := ⟨_, rfl⟩
  have v0 := e0.alloc (.cells #[.int .i64 o, .slice (some ⟨g1, 0, none⟩) L C1, .slice (some ⟨g2, 0, none⟩) L' C2] 28)
  rw [hV] at v0
  have v1 := e1.alloc (.cells #[.int .i64 o, .slice (some ⟨g1, 0, none⟩) L C1, .slice (some ⟨g2, 0, none⟩) L' C2] 28)
  rw [hV] at v1
  have v2 : Blk V w2.heap.size 28 #[.int .i64 o, .slice (some ⟨g1, 0, none⟩) L C1, .slice (some ⟨g2, 0, none⟩) L' C2] := by rw [← hV]; exact Blk.new _ _ _
  have v3 := d1.alloc (.cells #[.int .i64 o, .slice (some ⟨g1, 0, none⟩) L C1, .slice (some ⟨g2, 0, none⟩) L' C2] 28)
  rw [hV] at v3
  have v4 := d2.alloc (.cells #[.int .i64 o, .slice (some ⟨g1, 0, none⟩) L C1, .slice (some ⟨g2, 0, none⟩) L' C2] 28)
  rw [hV] at v4
  have tV := tw.alloc (.cells #[.int .i64 o, .slice (some ⟨g1, 0, none⟩) L C1, .slice (some ⟨g2, 0, none⟩) L' C2] 28)
  rw [hV] at tV
  have hBV : Below w.heap.size w V := by rw [← hV]; exact bthen hB2 (Nat.le_refl _) (below_alloc _ _)
  have cz : V.cell? ⟨b, q + k, none⟩ = some (.int .i64 z) := ((bcell (hw.trans (hBV.mono hw.size))).1 b (q + k) hb).trans c0
  rw [hV]
  have q0 : V.cell? ⟨w.heap.size, 2, none⟩ = some (.slice (some ⟨b, q, none⟩) L' C') := v0.cell 2
  have q1 : V.cell? ⟨w2.heap.size, 0, none⟩ = some (.int .i64 o) := v2.cell 0
  have q2 : V.cell? ⟨w2.heap.size, 1, none⟩ = some (.slice (some ⟨g1, 0, none⟩) L C1) := v2.cell 1
  have q3 : V.cell? ⟨w2.heap.size, 2, none⟩ = some (.slice (some ⟨g2, 0, none⟩) L' C2) := v2.cell 2
  have q4 : V.cell? ⟨g1, k, none⟩ = some (.int .i64 x) := (v3.cell k).trans (r1 k x HX.out)
  have q5 : V.cell? ⟨g2, k, none⟩ = some (.int .i64 z) := (v4.cell k).trans (r2 k z HZ.out)
  have q6 : V.cell? ⟨w.heap.size + 1, 0, none⟩ = some (.int .i64 0) := v1.cell 0
  have q7 : V.cell? ⟨w.heap.size + 1, 1, none⟩ = some (.slice none 0 0) := v1.cell 1
  have q8 : V.cell? ⟨w.heap.size + 1, 2, none⟩ = some (.slice none 0 0) := v1.cell 2
  have f1 := v2.frozen 0
  have f2 := v3.frozen k
  have f3 := v4.frozen k
  have f4 := v1.frozen 0
  have f5 := v1.frozen 1
  have f6 := v1.frozen 2
  have BV : Hid (Below w.heap.size w V) := hBV
  have B1 : Hid (Blk V (w.heap.size + 1) 28 #[.int .i64 0, .slice none 0 0, .slice none 0 0]) := v1
  have TV : Hid (Two V (w.heap.size + 1 + 1) (some ⟨g1, 0, none⟩) C1 zs (some ⟨g2, 0, none⟩) C2 ss) := tV
  have ne1 : g1 ≠ g2 := hbn
  have ne2 : g1 ≠ w2.heap.size := by omega
  have ne3 : g2 ≠ w2.heap.size := by omega
  have ne4 : g1 ≠ w.heap.size + 1 := by omega
  have ne5 : g2 ≠ w.heap.size + 1 := by omega
  have ne6 : w2.heap.size ≠ w.heap.size + 1 := by omega
  have ne7 : b ≠ w2.heap.size := by have := hw.size; omega
  clear hV v0 v1 v2 v3 v4 tV hBV e0 e1 d1 d2 hb2 tw b0 b1 hB0 hB2 r1 r2 HCu hw0 hbn
  go_region
  all_goals
    have T1 : Hid (Two (V.setCell ⟨w2.heap.size, 0, none⟩ (.int .i64 u)) (w.heap.size + 1 + 1) (some ⟨g1, 0, none⟩) C1 zs (some ⟨g2, 0, none⟩) C2 ss) := TV.out.past (fun g o e => by cases e; exact lt2) (fun g o e => by cases e; exact lt3) 0 _
    have K1 : Hid (Below w.heap.size w (V.setCell ⟨w2.heap.size, 0, none⟩ (.int .i64 u))) := BV.out.setCell (p := ⟨w2.heap.size, 0, none⟩) (Nat.le_of_lt lt0) _
    have D1 : Hid (Blk (V.setCell ⟨w2.heap.size, 0, none⟩ (.int .i64 u)) (w.heap.size + 1) 28 #[.int .i64 0, .slice none 0 0, .slice none 0 0]) := B1.out.other (fun e => ne6 e.symm) 0 _
    have hg1 : w.heap.size ≤ g1 := by omega
    have hg2 : w.heap.size ≤ g2 := by omega
    by_cases hc : 1 < c
    · have w3 := HW.out hc
      obtain ⟨Y, hY, bY, tY, kY⟩ := put_fin (w := w) (B := w.heap.size + 1) (((D1.out.other ne4.symm k (.int .i64 c)).other ne5.symm k (.int .i64 t))) (((T1.out.set1 k c).set2 k t)) (Nat.le_succ _) ((K1.out.setCell (p := ⟨g1, k, none⟩) hg1 (.int .i64 c)).setCell (p := ⟨g2, k, none⟩) hg2 (.int .i64 t)) u L L'
      have y0 : Y.cell? ⟨w.heap.size + 1, 0, none⟩ = some (.int .i64 u) := bY.cell 0
      have y1 : Y.cell? ⟨w.heap.size + 1, 1, none⟩ = some (.slice (some ⟨g1, 0, none⟩) L C1) := bY.cell 1
      have y2 : Y.cell? ⟨w.heap.size + 1, 2, none⟩ = some (.slice (some ⟨g2, 0, none⟩) L' C2) := bY.cell 2
      have HT : Hid (Two Y w.heap.size (some ⟨g1, 0, none⟩) C1 (zs.set k c) (some ⟨g2, 0, none⟩) C2 (sts ss k c s)) := by unfold Hid; rw [HS.out, if_pos hc]; exact tY
      have HY : Hid (Below w.heap.size w Y) := kY
      clear bY tY kY
      go_wp2
      exact bodyPost_ret (v := .agg #[.int .i64 u, .slice (some ⟨g1, 0, none⟩) L C1, .slice (some ⟨g2, 0, none⟩) L' C2]) (by simp [results, Try.results40, go_sem, y0, y1, y2]) rfl ⟨_, _, _, _, rfl, HT.out.below (below_drewZ _), bthen HY.out (Nat.le_refl _) (below_drewZ _)⟩
    · obtain ⟨Y, hY, bY, tY, kY⟩ := put_fin (w := w) (B := w.heap.size + 1) (((D1.out.other ne4.symm k (.int .i64 c)))) (((T1.out.set1 k c))) (Nat.le_succ _) ((K1.out.setCell (p := ⟨g1, k, none⟩) hg1 (.int .i64 c))) u L L'
      have y0 : Y.cell? ⟨w.heap.size + 1, 0, none⟩ = some (.int .i64 u) := bY.cell 0
      have y1 : Y.cell? ⟨w.heap.size + 1, 1, none⟩ = some (.slice (some ⟨g1, 0, none⟩) L C1) := bY.cell 1
      have y2 : Y.cell? ⟨w.heap.size + 1, 2, none⟩ = some (.slice (some ⟨g2, 0, none⟩) L' C2) := bY.cell 2
      have HT : Hid (Two Y w.heap.size (some ⟨g1, 0, none⟩) C1 (zs.set k c) (some ⟨g2, 0, none⟩) C2 (sts ss k c s)) := by unfold Hid; rw [HS.out, if_neg hc]; exact tY
      have HY : Hid (Below w.heap.size w Y) := kY
      clear bY tY kY
      go_wp2
      exact bodyPost_ret (v := .agg #[.int .i64 u, .slice (some ⟨g1, 0, none⟩) L C1, .slice (some ⟨g2, 0, none⟩) L' C2]) (by simp [results, Try.results40, go_sem, y0, y1, y2]) rfl ⟨_, _, _, _, rfl, HT.out.below (below_drewZ _), bthen HY.out (Nat.le_refl _) (below_drewZ _)⟩
end Go.Proofs.Ytccknfhhmdoffaa

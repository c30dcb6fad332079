/-
  What radix4's lay does: of one number, of two, of four parts. No condition but that the rows lie there.
-/
import Derived.Test.YtehljcflodilhaaGreatDoorF37
import Derived.Test.YtehljcflodilhaaGreatDoorF35
namespace Go.Proofs.YtehljcflodilhaaGreatDoor
set_option linter.unusedVariables false
open Go.RowKit

theorem mulC {c x y : Nat} (h : c * x = y) (hy : y ≤ 16777216) : wrap64 ((c : Int) * (x : Int)) = (y : Int) ∧ IntKind.i64.wrap ((c : Int) * (x : Int)) = (y : Int) := mulI' h hy
theorem slice_four (a b c d : Nat) (g m t0 t1 t2 t3 : Nat) : (∀ w, (Instr.index 88 (.agg #[.slice (some ⟨g, a, none⟩) m t0, .slice (some ⟨g, b, none⟩) m t1, .slice (some ⟨g, c, none⟩) m t2, .slice (some ⟨g, d, none⟩) m t3]) (.int .i64 0)).run Tryz.prog w = .ok (.slice (some ⟨g, a, none⟩) m t0) w) ∧ (∀ w, (Instr.index 88 (.agg #[.slice (some ⟨g, a, none⟩) m t0, .slice (some ⟨g, b, none⟩) m t1, .slice (some ⟨g, c, none⟩) m t2, .slice (some ⟨g, d, none⟩) m t3]) (.int .i64 1)).run Tryz.prog w = .ok (.slice (some ⟨g, b, none⟩) m t1) w) ∧ (∀ w, (Instr.index 88 (.agg #[.slice (some ⟨g, a, none⟩) m t0, .slice (some ⟨g, b, none⟩) m t1, .slice (some ⟨g, c, none⟩) m t2, .slice (some ⟨g, d, none⟩) m t3]) (.int .i64 2)).run Tryz.prog w = .ok (.slice (some ⟨g, c, none⟩) m t2) w) ∧ (∀ w, (Instr.index 88 (.agg #[.slice (some ⟨g, a, none⟩) m t0, .slice (some ⟨g, b, none⟩) m t1, .slice (some ⟨g, c, none⟩) m t2, .slice (some ⟨g, d, none⟩) m t3]) (.int .i64 3)).run Tryz.prog w = .ok (.slice (some ⟨g, d, none⟩) m t3) w) :=
  ⟨fun _ => by kernel_rfl, fun _ => by kernel_rfl, fun _ => by kernel_rfl, fun _ => by kernel_rfl⟩
set_option maxRecDepth 100000 in
set_option maxHeartbeats 2000000 in
theorem lay_one (W : World) (a : Option Addr) (p v g C N o s st Cs Ls Ds : Nat) (B : Option Addr) (D : Nat) (bl os : Nat) (x A : Nat → Nat) (ho : o < N) (hN : N ≤ 4096) (hL : 1 ≤ Ls) (hLN : Ls ≤ 4096) (hx : x s < p)
    (hc : W.cell? ⟨bl, os, none⟩ = some (.int .u64 (x s : Int))) :
    InQ W 20 #[.agg #[.pointer a, .slice B N D], .slice (some ⟨g, o, none⟩) (1 : Nat) Cs, .slice (some ⟨bl, os, none⟩) Ls Ds, .int .i64 (st : Int)] g C (lf N A) (lf N (layF p v x st 1 s o A)) := by
  intro w hw hO
  have hbl : bl < W.heap.size := block_lt_of_cell hc
  have c0 := ((bcell hw).1 bl os hbl).trans hc
  have hge := hO.ge
  obtain ⟨b1, z1⟩ := hO.cellF (x := A o) ho rfl
  obtain ⟨bo, hbo⟩ : ∃ b, w.heap.size = b := ⟨_, rfl⟩
  obtain ⟨w1, hw1⟩ : ∃ X, w.alloc (.cells #[.pointer a, .slice B N D] 51) = X := ⟨_, rfl⟩
  have hB : Below w.heap.size w w1 := hw1 ▸ below_alloc _ _
  have c1 := ((bcell hB).1 bl os (Nat.lt_of_lt_of_le hbl hw.size)).trans c0
  have b2 := ((bcell hB).1 g o hge.2).trans b1
  have z2 := ((bcell hB).2 g o hge.2).trans z1
  obtain ⟨y, hy⟩ : ∃ y, x s = y := ⟨_, rfl⟩
  rw [hy] at c1
  have HO : Hid (OwnU (w1.setCell ⟨g, o, none⟩ (.int .u64 (y : Int))) W.heap.size (some ⟨g, 0, none⟩) C (lf N (layF p v x st 1 s o A))) := by
    unfold Hid
    rw [← layF_one hx N, hy]
    exact (hO.below hB).set o y
  have HK : Hid (Kg g w (w1.setCell ⟨g, o, none⟩ (.int .u64 (y : Int)))) := (Kg.of hB).trans (Kg.set _ _ _ _)
  have q1 : (0 : Int) < (Ls : Int) := by omega
  have q2 : (Ls : Int) ≤ 9223372036854775807 := by omega
  clear hw hO hbl c0 hge b1 z1 hB hy hx hc
  go_enter Tryz.func20, Tryz.ntmps20
  go_wp2
  first
    | go_end0
    | refine bodyPost_ret (results_none rfl _ _ _) rfl ?_
  exact ⟨rfl, HO.out, HK.out⟩
set_option maxRecDepth 100000 in
set_option maxHeartbeats 4000000 in
theorem lay_two (W : World) (a : Option Addr) (p v g C N o s st Cs Ls Ds : Nat) (B : Option Addr) (D : Nat) (bl os : Nat) (x A : Nat → Nat) (ho : o + 2 ≤ N) (hN : N ≤ 4096) (hL : st < Ls) (h1 : 1 ≤ st) (hLN : Ls ≤ 4096) (hp : Prm p) (h3 : 3 ≤ p) (hor : OrdN (v ^ st) p 2)
    (hc : W.cell? ⟨bl, os, none⟩ = some (.int .u64 (x s : Int))) (hd : W.cell? ⟨bl, os + st, none⟩ = some (.int .u64 (x (s + st) : Int)))
    (HA : ∀ w, Below W.heap.size W w → AnsW w 40 #[.pointer a, .int .u64 (x s : Int), .int .u64 (x (s + st) : Int)] (.int .u64 (((x s + x (s + st)) % p : Nat) : Int)))
    (HS : ∀ w, Below W.heap.size W w → AnsW w 41 #[.pointer a, .int .u64 (x s : Int), .int .u64 (x (s + st) : Int)] (.int .u64 (((x s + negN (x (s + st)) p) % p : Nat) : Int))) :
    InQ W 20 #[.agg #[.pointer a, .slice B N D], .slice (some ⟨g, o, none⟩) (2 : Nat) Cs, .slice (some ⟨bl, os, none⟩) Ls Ds, .int .i64 (st : Int)] g C (lf N A) (lf N (layF p v x st 2 s o A)) := by
  intro w hw hO
  have hst := layF_two (x := x) (A := A) (s := s) (o := o) hp h3 hor N
  obtain ⟨y0, hy0⟩ : ∃ y, x s = y := ⟨_, rfl⟩
  obtain ⟨y1, hy1⟩ : ∃ y, x (s + st) = y := ⟨_, rfl⟩
  rw [hy0] at hc HA HS hst
  rw [hy1] at hd HA HS hst
  obtain ⟨n0, hn0⟩ : ∃ y, (y0 + y1) % p = y := ⟨_, rfl⟩
  obtain ⟨n1, hn1⟩ : ∃ y, (y0 + negN y1 p) % p = y := ⟨_, rfl⟩
  rw [hn0] at HA hst
  rw [hn1] at HS hst
  have hbl : bl < W.heap.size := block_lt_of_cell hc
  have hge := hO.ge
  obtain ⟨bo, hbo⟩ : ∃ b, w.heap.size = b := ⟨_, rfl⟩
  have C0 := CAt.new w #[.pointer a, .slice B N D] 51
  obtain ⟨X, hX⟩ : ∃ X, w.alloc (.cells #[.pointer a, .slice B N D] 51) = X := ⟨_, rfl⟩
  have hB : Below w.heap.size w X := hX ▸ below_alloc _ _
  rw [hX, hbo] at C0
  have nb3 : ¬ bo = g := by omega
  have nb4 : ¬ bl = g := by omega
  have HWX : Hid (Below W.heap.size W X) := bb hw hB
  have HKX : Hid (Kg g w X) := Kg.of hB
  have HOX : Hid (OwnU X W.heap.size (some ⟨g, 0, none⟩) C (lf N A)) := hO.below hB
  have HXY : Hid (∀ Y, Below X.heap.size X Y → Y.cell? ⟨bo, 0, none⟩ = some (.pointer a) ∧ Y.cell? ⟨bl, os, none⟩ = some (.int .u64 (y0 : Int)) ∧ Y.cell? ⟨bl, os + st, none⟩ = some (.int .u64 (y1 : Int))) := fun Y hY =>
    ⟨(C0.kg (Kg.of (g := bo + 1) hY) (by omega)).2 0 _ rfl, ((bcell (bb HWX.out hY)).1 bl os hbl).trans hc, ((bcell (bb HWX.out hY)).1 bl (os + st) hbl).trans hd⟩
  have HKS : Hid (∀ (Y : World) (j : Nat) (u : Value), (fun Y : World => Y.cell? ⟨bo, 0, none⟩ = some (.pointer a) ∧ Y.cell? ⟨bl, os, none⟩ = some (.int .u64 (y0 : Int)) ∧ Y.cell? ⟨bl, os + st, none⟩ = some (.int .u64 (y1 : Int))) Y → (fun Y : World => Y.cell? ⟨bo, 0, none⟩ = some (.pointer a) ∧ Y.cell? ⟨bl, os, none⟩ = some (.int .u64 (y0 : Int)) ∧ Y.cell? ⟨bl, os + st, none⟩ = some (.int .u64 (y1 : Int))) (Y.setCell ⟨g, j, none⟩ u)) := fun Y j u h =>
    ⟨World.grownBy.cell (Kg.set g j Y u) h.1 (fun e => nb3 (by cases e; rfl)), World.grownBy.cell (Kg.set g j Y u) h.2.1 (fun e => nb4 (by cases e; rfl)), World.grownBy.cell (Kg.set g j Y u) h.2.2 (fun e => nb4 (by cases e; rfl))⟩
  have HXF : Hid (∀ Y, Below X.heap.size X Y → (Y.cell? ⟨g, o, none⟩ = some (.int .u64 (A o : Int)) ∧ Y.frozen? ⟨g, o, none⟩ = false) ∧ (Y.cell? ⟨g, o + 1, none⟩ = some (.int .u64 (A (o + 1) : Int)) ∧ Y.frozen? ⟨g, o + 1, none⟩ = false)) := fun Y hY => ⟨(HOX.out.below hY).cellF (by omega) rfl, (HOX.out.below hY).cellF (by omega) rfl⟩
  have HSY : Hid (∀ Y, Below X.heap.size X Y → AnsW Y 41 #[.pointer a, .int .u64 (y0 : Int), .int .u64 (y1 : Int)] (.int .u64 (n1 : Int))) := fun Y hY => HS Y (bb HWX.out hY)
  have A0 := HA X.drew (bb HWX.out (below_drewN X 1))
  have HO5 : Hid (∀ Y, Below X.heap.size X Y → OwnU ((Y.setCell ⟨g, o, none⟩ (.int .u64 (n0 : Int))).setCell ⟨g, o + 1, none⟩ (.int .u64 (n1 : Int))) W.heap.size (some ⟨g, 0, none⟩) C (lf N (layF p v x st 2 s o A)) ∧ Kg g w ((Y.setCell ⟨g, o, none⟩ (.int .u64 (n0 : Int))).setCell ⟨g, o + 1, none⟩ (.int .u64 (n1 : Int)))) := fun Y hY => by
    rw [← hst]
    exact ⟨((HOX.out.below hY).set _ _).set _ _, (HKX.out.trans (Kg.of hY)).trans ((Kg.set _ _ _ _).trans (Kg.set _ _ _ _))⟩
  have q1 : (0 : Int) < (Ls : Int) := by omega
  have q2 : (Ls : Int) ≤ 9223372036854775807 := by omega
  have q3 : (st : Int) < (Ls : Int) := by omega
  have q4 : (0 : Int) ≤ (st : Int) := by omega
  have q5 : 0 < Ls := by omega
  have q6 : ¬ Ls = 0 := by omega
  have q7 : st < Ls := by omega
  have q8 : ¬ (Ls : Int) ≤ 0 := by omega
  clear hw hO hbl hge hB hy0 hy1 hn0 hn1 hc hd HA HS hst C0 nb3 nb4 ho hN hL h1 hLN hp h3 hor
  go_enter Tryz.func20, Tryz.ntmps20
  go_wp2
  go_region_held3 (fun Y => Y.cell? ⟨bo, 0, none⟩ = some (.pointer a) ∧ Y.cell? ⟨bl, os, none⟩ = some (.int .u64 (y0 : Int)) ∧ Y.cell? ⟨bl, os + st, none⟩ = some (.int .u64 (y1 : Int))) (first | exact HXY.out _ (below_drewN X 1) | exact S1 | exact S2 | exact HKS.out _ _ _ S2 | exact HKS.out _ _ _ (HKS.out _ _ _ S2))
    ((first
      | (go_at_call 40; (with_reducible refine AnsW.useL A0 fun X1 hX1 => ?_); have hb1 := bu1 hX1; have S1 := HXY.out X1 hb1; have A1 := HSY.out X1 hb1)
      | (go_at_call 41; (with_reducible refine AnsW.useL A1 fun X2 hX2 => ?_); have hb2 := bb hb1 (bu2 hX2); have S2 := HXY.out X2 hb2; obtain ⟨⟨b0, z0⟩, b1, z1⟩ := HXF.out X2 hb2)))
  have HO6 := HO5.out X2 hb2
  clear HO5 HXF HSY HKS HXY S1 A0 A1 hX1 hX2 b0 z0 b1 z1
  go_wp2
  first
    | go_end0
    | refine bodyPost_ret (results_none rfl _ _ _) rfl ?_
  exact ⟨rfl, HO6.1, HO6.2⟩
set_option maxRecDepth 100000 in
set_option maxHeartbeats 4000000 in
theorem lay_more (W : World) (a : Option Addr) (p v g C N o s st st4 Cs Ls Ds n M c : Nat) (B : Option Addr) (D : Nat) (bl os : Nat) (x A : Nat → Nat) (P : Nat → Value) (hM4 : 4 * M = n) (hM : 1 ≤ M) (hnN : n * st = N) (h1 : 1 ≤ st) (hN : N ≤ 4096) (hLs : Ls + s = N) (hs : s < st) (hDs : Ls ≤ Ds) (hp : Prm p) (h3 : 3 ≤ p) (hor : OrdN (v ^ st) p (4 * M)) (hc : c = st * M) (h4 : 4 * st = st4)
    (hP : ∀ k q, k < 4 → k * M = q → P k = .slice (some ⟨g, o + q, none⟩) M (Cs - q))
    (HQ : AnsB W 42 #[.slice (some ⟨g, o, none⟩) n Cs] (.agg #[P 0, P 1, P 2, P 3]))
    (HI : ∀ (k : Nat) (q : Nat) (F : Nat → Nat), k < 4 → k * st = q → (∀ j, j < N → F j < p) → InQ W 20 #[.agg #[.pointer a, .slice B N D], P k, .slice (some ⟨bl, os + q, none⟩) (Ls - q) (Ds - q), .int .i64 (st4 : Int)] g C (lf N F) (lf N (layF p v x st4 M (s + q) (o + k * M) F)))
    (HJ : ∀ F : Nat → Nat, (∀ j, j < N → F j < p) → InQ W 43 #[.agg #[.pointer a, .slice B N D], .agg #[P 0, P 1, P 2, P 3], .int .i64 (st : Int)] g C (lf N F) (lf N (jqF p v c st M o F))) (hA : ∀ j, j < N → A j < p) :
    InQ W 20 #[.agg #[.pointer a, .slice B N D], .slice (some ⟨g, o, none⟩) n Cs, .slice (some ⟨bl, os, none⟩) Ls Ds, .int .i64 (st : Int)] g C (lf N A) (lf N (layF p v x st n s o A)) := by
  intro w hw hO
  have hge := hO.ge
  have hn4 : n ≤ N := by rw [← hnN]; exact Nat.le_mul_of_pos_right n (by omega)
  have hstN : 4 * st ≤ N := by rw [← hnN]; exact Nat.mul_le_mul_right st (by omega)
  obtain ⟨bo, hbo⟩ : ∃ b, w.heap.size = b := ⟨_, rfl⟩
  have C0 := CAt.new w #[.pointer a, .slice B N D] 51
  obtain ⟨X, hX⟩ : ∃ X, w.alloc (.cells #[.pointer a, .slice B N D] 51) = X := ⟨_, rfl⟩
  have hB : Below w.heap.size w X := hX ▸ below_alloc _ _
  rw [hX, hbo] at C0
  have HWX : Hid (Below W.heap.size W X) := bb hw hB
  have HBO : Hid (w.heap.size = bo) := hbo
  have HKX : Hid (Kg g w X) := Kg.of hB
  have HOX : Hid (OwnU X W.heap.size (some ⟨g, 0, none⟩) C (lf N A)) := hO.below hB
  have HCX : Hid (CAt X bo [.pointer a, .slice B N D]) := C0
  have HG : Hid (W.heap.size ≤ g ∧ bo ≠ g ∧ g < X.heap.size) := ⟨hge.1, by omega, by have := hB.size; omega⟩
  have HN : Hid (4 * M = n ∧ 1 ≤ M ∧ n * st = N ∧ 1 ≤ st ∧ N ≤ 4096 ∧ Ls + s = N ∧ s < st ∧ Ls ≤ Ds ∧ 4 * st ≤ N ∧ n ≤ N) := ⟨hM4, hM, hnN, h1, hN, hLs, hs, hDs, hstN, hn4⟩
  have HPP : Hid (∀ k q, k < 4 → k * M = q → P k = .slice (some ⟨g, o + q, none⟩) M (Cs - q)) := hP
  have HQ' : Hid (AnsB W 42 #[.slice (some ⟨g, o, none⟩) n Cs] (.agg #[P 0, P 1, P 2, P 3])) := HQ
  have HI' := (show Hid _ from HI)
  have HJ' := (show Hid _ from HJ)
  have HR : Hid (Prm p ∧ 3 ≤ p ∧ OrdN (v ^ st) p (4 * M) ∧ c = st * M ∧ 4 * st = st4) := ⟨hp, h3, hor, hc, h4⟩
  have HAL : Hid (∀ j, j < N → A j < p) := hA
  have n1 : ¬ n = 1 := by omega
  have n2 : ¬ n = 2 := by omega
  have n1' : ((n : Int) == 1) = false := by simp; omega
  have n2' : ((n : Int) == 2) = false := by simp; omega
  have n3 : ¬ (n : Int) = 1 := by omega
  have n4 : ¬ (n : Int) = 2 := by omega
  have q2 : (Ls : Int) ≤ 9223372036854775807 := by omega
  have q3 : (n : Int) ≤ 9223372036854775807 := by omega
  obtain ⟨s0, t0, p0⟩ : ∃ A B, P 0 = .slice (some ⟨g, A, none⟩) M B := ⟨_, _, hP 0 _ (by omega) rfl⟩
  obtain ⟨s1, t1, p1⟩ : ∃ A B, P 1 = .slice (some ⟨g, A, none⟩) M B := ⟨_, _, hP 1 _ (by omega) rfl⟩
  obtain ⟨s2, t2, p2⟩ : ∃ A B, P 2 = .slice (some ⟨g, A, none⟩) M B := ⟨_, _, hP 2 _ (by omega) rfl⟩
  obtain ⟨s3, t3, p3⟩ : ∃ A B, P 3 = .slice (some ⟨g, A, none⟩) M B := ⟨_, _, hP 3 _ (by omega) rfl⟩
  have HP0 : Hid (P 0 = .slice (some ⟨g, s0, none⟩) M t0 ∧ P 1 = .slice (some ⟨g, s1, none⟩) M t1 ∧ P 2 = .slice (some ⟨g, s2, none⟩) M t2 ∧ P 3 = .slice (some ⟨g, s3, none⟩) M t3) := ⟨p0, p1, p2, p3⟩
  rw [p0, p1, p2, p3] at HQ
  clear hw hO hge hn4 hstN C0 hB hM4 hM hnN h1 hN hLs hs hDs hp h3 hor hc h4 hP HI HJ hA p0 p1 p2 p3 HQ'
  go_enter Tryz.func20, Tryz.ntmps20
  go_wp2_with (go_at_call 42; with_reducible refine AnsB.use HQ HWX.out fun Y hY => ?_)
  have HBY : Hid (Below X.heap.size X Y) := hY
  obtain ⟨bp, hbp⟩ : ∃ b, Y.heap.size = b := ⟨_, rfl⟩
  have C1 := CAt.new Y #[.slice (some ⟨g, s0, none⟩) M t0, .slice (some ⟨g, s1, none⟩) M t1, .slice (some ⟨g, s2, none⟩) M t2, .slice (some ⟨g, s3, none⟩) M t3] 88
  have hB2 := below_alloc Y (.cells #[.slice (some ⟨g, s0, none⟩) M t0, .slice (some ⟨g, s1, none⟩) M t1, .slice (some ⟨g, s2, none⟩) M t2, .slice (some ⟨g, s3, none⟩) M t3] 88)
  rw [hbp] at C1 ⊢
  obtain ⟨Z, hZ⟩ : ∃ Z, Y.alloc (.cells #[.slice (some ⟨g, s0, none⟩) M t0, .slice (some ⟨g, s1, none⟩) M t1, .slice (some ⟨g, s2, none⟩) M t2, .slice (some ⟨g, s3, none⟩) M t3] 88) = Z := ⟨_, rfl⟩
  rw [hZ] at C1 hB2 ⊢
  have hgY : g < Y.heap.size := Nat.lt_of_lt_of_le HG.out.2.2 hY.size
  have HBP : Hid (bp ≠ g) := by unfold Hid; omega
  have hXZ : Below X.heap.size X Z := bb hY hB2
  have HC0 : Hid (CAt Z bo [.pointer a, .slice B N D]) := HCX.out.kg (Kg.of (g := g) hXZ) HG.out.2.1
  have HC1 : Hid (CAt Z bp [.slice (some ⟨g, s0, none⟩) M t0, .slice (some ⟨g, s1, none⟩) M t1, .slice (some ⟨g, s2, none⟩) M t2, .slice (some ⟨g, s3, none⟩) M t3]) := C1
  have HKZ : Hid (Kg g w Z) := HKX.out.trans (Kg.of hXZ)
  have HWZ : Hid (Below W.heap.size W Z) := bb HWX.out hXZ
  have HOZ : Hid (OwnU Z W.heap.size (some ⟨g, 0, none⟩) C (lf N (subF p v x st M s o A 0))) := by
    unfold Hid
    rw [lf_ext (g := A) fun j _ => subF_zero p v x st M s o A j]
    exact HOX.out.below hXZ
  clear HBY C1 hB2 hZ hgY hXZ hY HQ hbp hX hbo n1 n2 n1' n2' n3 n4 q3
  go_loopw [16] (fun iv wr => ∃ k : Nat, iv = .int .i64 (k : Int) ∧ k ≤ 4 ∧ Hid (OwnU wr W.heap.size (some ⟨g, 0, none⟩) C (lf N (subF p v x st M s o A k))) ∧ Hid (Kg g Z wr)) (fun iv _ => 4 - (intOf iv).toNat)
  case atStart => exact ⟨0, rfl, by omega, HOZ, Kg.refl _ _⟩
  case round =>
    clear HOZ HKX HOX HCX
    obtain ⟨k, rfl, hk, HO, HK⟩ := hrel
    by_cases hlt : k < 4
    · obtain ⟨q, hq⟩ : ∃ q, k * st = q := ⟨_, rfl⟩
      obtain ⟨ok, ck, hpk⟩ : ∃ A B, P k = .slice (some ⟨g, A, none⟩) M B := ⟨_, _, HPP.out k _ hlt rfl⟩
      have hix : ∀ w, (Instr.index 88 (.agg #[.slice (some ⟨g, s0, none⟩) M t0, .slice (some ⟨g, s1, none⟩) M t1, .slice (some ⟨g, s2, none⟩) M t2, .slice (some ⟨g, s3, none⟩) M t3]) (.int .i64 (k : Int))).run Tryz.prog w = .ok (.slice (some ⟨g, ok, none⟩) M ck) w := by
        obtain ⟨i0, i1, i2, i3⟩ := slice_four s0 s1 s2 s3 g M t0 t1 t2 t3
        rcases (show k = 0 ∨ k = 1 ∨ k = 2 ∨ k = 3 by omega) with e | e | e | e
        · subst e; rw [← hpk, HP0.out.1]; exact i0
        · subst e; rw [← hpk, HP0.out.2.1]; exact i1
        · subst e; rw [← hpk, HP0.out.2.2.1]; exact i2
        · subst e; rw [← hpk, HP0.out.2.2.2]; exact i3
      have HIk := HI'.out k q (subF p v x st M s o A k) hlt hq fun j hj => by
        unfold subF
        split
        · exact Nat.mod_lt _ (by have := HR.out.2.1; omega)
        · exact HAL.out j hj
      rw [hpk, ← HR.out.2.2.2.2, lf_ext (f := layF p v x (4 * st) M (s + q) (o + k * M) (subF p v x st M s o A k)) (g := subF p v x st M s o A (k + 1)) (fun j _ => by rw [← hq]; exact subF_step p v x st M s o A k j HN.out.2.1), HR.out.2.2.2.2] at HIk
      have HWr : Hid (Below W.heap.size W wr) := HK.out.bel HWZ.out HG.out.1
      have e00 := (HC0.out.kg HK.out HG.out.2.1).2 0 _ rfl
      have e01 := (HC0.out.kg HK.out HG.out.2.1).2 1 _ rfl
      have hn := HN.out
      have hqs : q + st ≤ 4 * st := by rw [← hq, ← Nat.succ_mul]; exact Nat.mul_le_mul_right st hlt
      have k1 : (q : Int) ≤ (Ls : Int) := by omega
      have k3 : q ≤ Ls := by omega
      have k7 : q < Ds := by omega
      have k9 : ¬ q = Ds := by omega
      have k10 : ¬ Ds = q := by omega
      have k11 : ¬ Ds - q = 0 := by omega
      have k12 : (0 : Int) ≤ (q : Int) := by omega
      have hq16 : q ≤ 16777216 := by omega
      have hs16 : st4 ≤ 16777216 := by have := HR.out.2.2.2.2; omega
      have w1 : wrap64 ((k : Int) * (st : Int)) = (q : Int) := (mulI' hq hq16).1
      have w2 : IntKind.i64.wrap ((k : Int) * (st : Int)) = (q : Int) := (mulI' hq hq16).2
      have w3 : wrap64 (4 * (st : Int)) = (st4 : Int) := (mulC HR.out.2.2.2.2 hs16).1
      have w4 : IntKind.i64.wrap (4 * (st : Int)) = (st4 : Int) := (mulC HR.out.2.2.2.2 hs16).2
      have kt : (k : Int) < 4 := by omega
      clear hn hqs hq hpk hq16 hs16
      have HOd : Hid (OwnU wr.drew W.heap.size (some ⟨g, 0, none⟩) C (lf N (subF p v x st M s o A k))) := HO.out.below (below_drewN wr 1)
      have HWd : Hid (Below W.heap.size W wr.drew) := bb HWr.out (below_drewN wr 1)
      have HSY : Hid (∀ Y, Kg g wr.drew Y → Y.cell? ⟨bo, 0, none⟩ = some (.pointer a) ∧ Y.cell? ⟨bo, 1, none⟩ = some (.slice B N D)) := fun Y hY =>
        ⟨World.grownBy.cell hY (show wr.drew.cell? ⟨bo, 0, none⟩ = _ from e00) (fun e => HG.out.2.1 (by cases e; rfl)), World.grownBy.cell hY (show wr.drew.cell? ⟨bo, 1, none⟩ = _ from e01) (fun e => HG.out.2.1 (by cases e; rfl))⟩
      have HKd : Hid (Kg g Z wr.drew) := HK.out.trans (Kg.of (below_drewN wr 1))
      clear HO HK HI' e00 e01
      go_wp2
      clear hix
      go_region_held3 (fun Y => Y.cell? ⟨bo, 0, none⟩ = some (.pointer a) ∧ Y.cell? ⟨bo, 1, none⟩ = some (.slice B N D)) (first | exact HSY.out _ (Kg.refl _ _) | exact S1)
        ((go_at_call 20; (with_reducible refine InQ.use HIk HWd.out HOd.out fun Y hO hK => ?_); have S1 := HSY.out Y hK; have HO2 : Hid (OwnU Y W.heap.size (some ⟨g, 0, none⟩) C (lf N (subF p v x st M s o A (k + 1)))) := hO; have HK2 : Hid (Kg g Z Y) := HKd.out.trans hK))
      clear S1 hO hK HSY HIk HOd HWd HKd w1 w2 w3 w4 k1 k3 k7 k9 k10 k11 k12
      go_wp2
      go_roundw
      case rel => exact ⟨k + 1, by go_num, by omega, HO2, HK2⟩
      case measure => simp [intOf]; omega
    · obtain rfl : k = 4 := by omega
      have hm := HN.out
      have HJk := HJ'.out (subF p v x st M s o A 4) fun j hj => by
        unfold subF
        split
        · exact Nat.mod_lt _ (by have := HR.out.2.1; omega)
        · exact HAL.out j hj
      rw [lf_ext (f := jqF p v c st M o (subF p v x st M s o A 4)) (g := layF p v x st n s o A) (fun j _ => by rw [← hm.1]; exact jqF_right HR.out.1 HR.out.2.1 hm.2.1 HR.out.2.2.1 HR.out.2.2.2.1 j), HP0.out.1, HP0.out.2.1, HP0.out.2.2.1, HP0.out.2.2.2] at HJk
      have HWr : Hid (Below W.heap.size W wr) := HK.out.bel HWZ.out HG.out.1
      have e00 := (HC0.out.kg HK.out HG.out.2.1).2 0 _ rfl
      have e01 := (HC0.out.kg HK.out HG.out.2.1).2 1 _ rfl
      have f00 := (HC1.out.kg HK.out HBP.out).2 0 _ rfl
      have f01 := (HC1.out.kg HK.out HBP.out).2 1 _ rfl
      have f02 := (HC1.out.kg HK.out HBP.out).2 2 _ rfl
      have f03 := (HC1.out.kg HK.out HBP.out).2 3 _ rfl
      clear hm HI' HJ'
      go_wp2_with (go_at_call 43; with_reducible refine InQ.use HJk HWr.out HO.out fun Y hO hK => ?_)
      first
        | go_end0
        | refine bodyPost_ret (results_none rfl _ _ _) rfl ?_
      exact ⟨rfl, hO, HKZ.out.trans (HK.out.trans hK)⟩
end Go.Proofs.YtehljcflodilhaaGreatDoor
/-
  What radix4's lay does with a field and its table: each power of two by quarters. No condition but that the field and the rows lie there.
-/
namespace Go.Proofs.YtehljcflodilhaaGreatDoor
set_option linter.unusedVariables false
open Go.RowKit

theorem lay_any {W : World} {b : Nat} {x : En} (F : FieldAt W b x) (hF : Fld x) {bl ol D' N v : Nat} {xs : List Nat} (hX : UAt W (some ⟨bl, ol, none⟩) D' xs) (hl : xs.length = N) (hN : N ≤ 4096) (hg : ∀ y ∈ xs, y < x.p) {B : Option Addr} {D : Nat} (hL : UAt W B D ((pws v x.p N).map fun y => up y x.p)) (ho : OrdN v x.p N) (g C : Nat) :
    ∀ (e n o s st Cs : Nat) (A : Nat → Nat), (n = 4 ^ e ∨ n = 2 * 4 ^ e) → n * st = N → 1 ≤ st → s < st → o + n ≤ N → n ≤ Cs → (∀ j, j < N → A j < x.p) →
      InQ W 20 #[.agg #[.pointer (some ⟨b, 0, none⟩), .slice B N D], .slice (some ⟨g, o, none⟩) n Cs, .slice (some ⟨bl, ol + s, none⟩) (N - s) (D' - s), .int .i64 (st : Int)] g C (lf N A) (lf N (layF x.p v (atL xs) st n s o A)) := by
  obtain ⟨h3, hodd, hlt⟩ := hF.num
  have hp : 0 < x.p := by omega
  have hND : N ≤ D' := by have := hX.cap; omega
  have hlx : ∀ j, j < N → atL xs j < x.p := fun j hj => hg _ (atL_mem (by omega))
  have hcell : ∀ j, j < N → W.cell? ⟨bl, ol + j, none⟩ = some (.int .u64 (atL xs j : Int)) := fun j hj => (hX.at (get_of (by omega))).1
  intro e
  induction e with
  | zero =>
    intro n o s st Cs A hn hnN h1 hs hoN hC hA
    rcases hn with hn | hn
    · obtain rfl : n = 1 := by simpa using hn
      exact lay_one W _ x.p v g C N o s st Cs (N - s) (D' - s) B D bl (ol + s) (atL xs) A (by omega) hN (by omega) (by omega) (hlx s (by omega)) (hcell s (by omega))
    · obtain rfl : n = 2 := by simpa using hn
      have hor : OrdN (v ^ st) x.p 2 := OrdN.pow (r := st) (by rw [Nat.mul_comm, hnN]; exact ho) h1
      have x0 := hlx s (by omega)
      have x1 := hlx (s + st) (by omega)
      exact lay_two W _ x.p v g C N o s st Cs (N - s) (D' - s) B D bl (ol + s) (atL xs) A (by omega) hN (by omega) h1 (by omega) hF.prm (by omega) hor (hcell s (by omega)) (by rw [Nat.add_assoc]; exact hcell (s + st) (by omega))
        (fun w hw => fAdd_any (F.below hw) _ _ (by omega) (by omega)) (fun w hw => fSub_any (F.below hw) _ _ (by omega) (by omega))
  | succ e ih =>
    intro n o s st Cs A hn hnN h1 hs hoN hC hA
    obtain ⟨M, hM, hMe⟩ : ∃ M, 4 * M = n ∧ (M = 4 ^ e ∨ M = 2 * 4 ^ e) := by
      rcases hn with hn | hn
      · exact ⟨4 ^ e, by rw [hn, Nat.pow_succ'], Or.inl rfl⟩
      · exact ⟨2 * 4 ^ e, by rw [hn, Nat.pow_succ', Nat.mul_left_comm], Or.inr rfl⟩
    have hM1 : 1 ≤ M := by
      have := Nat.pow_pos (n := e) (show 0 < 4 by omega)
      rcases hMe with h | h <;> omega
    have h4 : 4 * M * st = N := by rw [hM]; exact hnN
    have hsN : st ≤ N := by rw [← h4]; exact Nat.le_mul_of_pos_left st (by omega)
    have hor : OrdN (v ^ st) x.p (4 * M) := OrdN.pow (r := st) (by rw [Nat.mul_comm, h4]; exact ho) h1
    obtain ⟨P, hP⟩ : ∃ P : Nat → Value, ∀ k, P k = .slice (some ⟨g, o + k * M, none⟩) M (Cs - k * M) := ⟨_, fun _ => rfl⟩
    have e0 : P 0 = .slice (some ⟨g, o, none⟩) M Cs := by rw [hP, Nat.zero_mul, Nat.add_zero, Nat.sub_zero]
    have e1 : P 1 = .slice (some ⟨g, o + M, none⟩) M (Cs - M) := by rw [hP, Nat.one_mul]
    have hP2 : ∀ k q, k < 4 → k * M = q → P k = .slice (some ⟨g, o + q, none⟩) M (Cs - q) := fun k q _ hq => by rw [hP, hq]
    refine lay_more W _ x.p v g C N o s st (4 * st) Cs (N - s) (D' - s) n M (st * M) B D bl (ol + s) (atL xs) A P hM hM1 hnN h1 hN (by omega) hs (by omega) hF.prm (by omega) hor rfl rfl hP2
      (quarters_walk W g o n Cs M P (by omega) hM1 (by omega) hC hP2) (fun k q Fn hk hq hFn => ?_) (fun Fn hFn => ?_) hA
    · have hq1 : q + st ≤ 4 * st := by rw [← hq, ← Nat.succ_mul]; exact Nat.mul_le_mul_right st hk
      have hq2 : k * M + M ≤ 4 * M := by rw [← Nat.succ_mul]; exact Nat.mul_le_mul_right M hk
      have g1 : o + k * M + M ≤ N := by
        clear hMe
        omega
      have g2 : M ≤ Cs - k * M := by
        clear hMe
        omega
      have := ih M (o + k * M) (s + q) (4 * st) (Cs - k * M) Fn hMe (by rw [← Nat.mul_assoc, Nat.mul_comm M 4]; exact h4) (by omega) (by omega) g1 g2 hFn
      rw [← Nat.add_assoc ol s q, Nat.sub_add_eq N, Nat.sub_add_eq D'] at this
      rw [hP]
      exact this
    · rw [e0, e1, hP 2, hP 3]
      refine joinq_walk W _ x.p v g C N o M st (st * M) _ _ _ _ B D _ Fn h4 hM1 h1 hN rfl (by omega) hL (by rw [List.length_map, pws_len]) hp hFn (fun w hw k l y hk hy => ?_) (fun w hw y z hy hz => fAdd_any (F.below hw) _ _ (by omega) (by omega)) (fun w hw y z hy hz => fSub_any (F.below hw) _ _ (by omega) (by omega))
      have h2 := Nat.mod_lt (v ^ k) hp
      rw [tab_at hk]
      exact fTimes_lift (F.below hw) _ _ (by omega) (by omega)
/-- What it lays of a whole list: the sums. -/
theorem layF_all {x : En} {i : Bool} {xs : List Nat} (A : Nat → Nat) : lf xs.length (layF x.p (twR x xs.length i) (atL xs) 1 xs.length 0 0 A) = smL x i xs := by
  refine lf_ext fun j hj => ?_
  unfold layF
  rw [if_pos (by omega), Nat.pow_one, Nat.sub_zero]
  congr 1
  exact tS_ext fun u _ => by rw [Nat.zero_add, Nat.mul_one]
theorem two_four (c : Nat) : 2 ^ c = 4 ^ (c / 2) ∨ 2 ^ c = 2 * 4 ^ (c / 2) := by
  have h4 : ∀ e, 4 ^ e = 2 ^ (2 * e) := fun e => by rw [Nat.pow_mul]
  rw [h4]
  rcases Nat.mod_two_eq_zero_or_one c with h | h
  · left; congr 1; omega
  · right; rw [← Nat.pow_succ']; congr 1; omega
end Go.Proofs.YtehljcflodilhaaGreatDoor
/-
  What radix4's check and Run answer. No condition but that the field and the list lie there.
-/
namespace Go.Proofs.YtehljcflodilhaaGreatDoor
set_option linter.unusedVariables false
open Go.RowKit

/-! ### check -/
theorem chq_err (w : World) (v : Option Addr) (A : Option Addr) (n C : Nat) (e : Int) (he : (e != 0) = true) (hlen : (n : Int) ≤ 9223372036854775807) (HC : AnsW w 35 #[.pointer v, .int .i64 (n : Int), .int .i64 4096] (.int .i64 e)) : AnsW w 18 #[.pointer v, .slice A n C] (.int .i64 e) := by
  intro j
  go_enter Tryz.func18, Tryz.ntmps18
  go_wp2_with (go_at_call 35; with_reducible refine AnsW.use HC _ fun n1 => ?_)
  go_ret
  exact ⟨rfl, _, rfl⟩
theorem chq_kind (w : World) (v : Option Addr) (A : Option Addr) (n C : Nat) (hlen : (n : Int) ≤ 9223372036854775807) (HC : AnsW w 35 #[.pointer v, .int .i64 (n : Int), .int .i64 4096] (.int .i64 0)) (HF : Ans 36 #[.int .i64 (n : Int)] (.bool false)) : AnsW w 18 #[.pointer v, .slice A n C] (.int .i64 11) := by
  intro j
  go_enter Tryz.func18, Tryz.ntmps18
  go_wp2_with (first
    | (go_at_call 35; with_reducible refine AnsW.use HC _ fun n1 => ?_)
    | (go_at_call 36; with_reducible refine Ans.use HF _ fun n2 => ?_))
  go_ret
  exact ⟨rfl, n1 + n2, by simp [Nat.add_assoc]⟩
theorem chq_good (w : World) (v : Option Addr) (A : Option Addr) (n C : Nat) (hlen : (n : Int) ≤ 9223372036854775807) (HC : AnsW w 35 #[.pointer v, .int .i64 (n : Int), .int .i64 4096] (.int .i64 0)) (HF : Ans 36 #[.int .i64 (n : Int)] (.bool true)) (HG : AnsW w 37 #[.pointer v, .slice A n C] (.bool true)) : AnsW w 18 #[.pointer v, .slice A n C] (.int .i64 0) := by
  intro j
  go_enter Tryz.func18, Tryz.ntmps18
  go_wp2_with (first
    | (go_at_call 35; with_reducible refine AnsW.use HC _ fun n1 => ?_)
    | (go_at_call 36; with_reducible refine Ans.use HF _ fun n2 => ?_)
    | (go_at_call 37; with_reducible refine AnsW.use HG _ fun n3 => ?_))
  go_ret
  exact ⟨rfl, n1 + n2 + n3, by simp [Nat.add_assoc]⟩
theorem chq_bad (w : World) (v : Option Addr) (A : Option Addr) (n C : Nat) (hlen : (n : Int) ≤ 9223372036854775807) (HC : AnsW w 35 #[.pointer v, .int .i64 (n : Int), .int .i64 4096] (.int .i64 0)) (HF : Ans 36 #[.int .i64 (n : Int)] (.bool true)) (HG : AnsW w 37 #[.pointer v, .slice A n C] (.bool false)) : AnsW w 18 #[.pointer v, .slice A n C] (.int .i64 9) := by
  intro j
  go_enter Tryz.func18, Tryz.ntmps18
  go_wp2_with (first
    | (go_at_call 35; with_reducible refine AnsW.use HC _ fun n1 => ?_)
    | (go_at_call 36; with_reducible refine Ans.use HF _ fun n2 => ?_)
    | (go_at_call 37; with_reducible refine AnsW.use HG _ fun n3 => ?_))
  go_ret
  exact ⟨rfl, n1 + n2 + n3, by simp [Nat.add_assoc]⟩
theorem chq_any {W : World} {b : Nat} {x : En} (F : FieldAt W b x) {A : Option Addr} {C : Nat} {xs : List Nat} (hU : UAt W A C xs) : AnsW W 18 #[pt b, .slice A xs.length C] (.int .i64 (ck2 x.p xs)) := by
  have hlen := hU.len
  have HC := dftck_any F (xs.length : Int) 4096 (by omega)
  have HF := fits_any (xs.length : Int)
  have HG := dftgood_any F hU
  unfold ck2
  by_cases h : ckD x.p (xs.length : Int) 4096 = 0
  · rw [h] at HC
    rw [if_neg (by omega)]
    cases hf : fitV (xs.length : Int)
    · rw [hf] at HF
      rw [if_pos rfl]
      exact chq_kind W _ A _ C hlen HC HF
    · rw [hf] at HF
      rw [if_neg (by decide)]
      cases hg : goodB x.p xs
      · rw [hg] at HG
        rw [if_pos rfl]
        exact chq_bad W _ A _ C hlen HC HF HG
      · rw [hg] at HG
        rw [if_neg (by decide)]
        exact chq_good W _ A _ C hlen HC HF HG
  · rw [if_pos h]
    exact chq_err W _ A _ C _ (by simp only [bne_iff_ne, ne_eq]; exact h) hlen HC

/-! ### Run -/
theorem runq_err (w : World) (v : Option Addr) (A : Option Addr) (n C : Nat) (i : Bool) (e : Int) (he : (e != 0) = true) (HC : AnsW w 18 #[.pointer v, .slice A n C] (.int .i64 e)) : AnsW w 7 #[.pointer v, .slice A n C, .bool i] (.tuple #[.slice none 0 0, .int .i64 e]) := by
  intro j
  go_enter Tryz.func7, Tryz.ntmps7
  go_wp2_with (go_at_call 18; with_reducible refine AnsW.use HC _ fun n1 => ?_)
  go_ret2
  exact ⟨rfl, _, rfl⟩
set_option maxRecDepth 100000 in
set_option maxHeartbeats 4000000 in
theorem runq_no (W : World) (b : Nat) (A : Option Addr) (n C : Nat) (ls l : List Nat) (S : Nat → Nat) (h1 : 1 ≤ n) (hn : n ≤ 4096) (hll : ls.length = n) (hls : ∀ y ∈ ls, y < 18446744073709551616) (hS : ∀ j, j < n → S j < 18446744073709551616)
    (HC : ∀ w, Below W.heap.size W w → AnsW w 18 #[pt b, .slice A n C] (.int .i64 0))
    (HL : ∀ w, Below W.heap.size W w → OwnT w 19 #[pt b, .int .i64 (n : Int), .bool false] ls)
    (HY : ∀ w B D g, Below W.heap.size W w → UAt w B D ls → InQ w 20 #[.agg #[pt b, .slice B n D], .slice (some ⟨g, 0, none⟩) n n, .slice A n C, .int .i64 1] g n (lf n fun _ => 0) (lf n S))
    (HE : Ends W (some ⟨b, 0, none⟩) false n (lf n S) l) : OwnT W 7 #[pt b, .slice A n C, .bool false] l := by
  intro w hw
  rw [HE.len]
  obtain ⟨ii, hii, hzi, hsi, hbi⟩ := info_parts infoWd
  have HC1 := HC w hw
  have HL1 : ∀ (x : Nat) {R : Ending → World → Prop}, (∀ g C1 w', OwnU w' w.heap.size (some ⟨g, 0, none⟩) C1 ls → Below w.heap.size w w' → R (.returned (.tuple #[.slice (some ⟨g, 0, none⟩) n C1, .int .i64 0])) w') → Calls Tryz.prog 19 #[pt b, .int .i64 (n : Int), .bool false] (w.drewN x) R :=
    fun x R k => OwnT.useG (HL w hw) hll h1 (below_drewN w x) fun g C1 w' q1 q2 => k g C1 w' (q1.base (Nat.le_refl _)) (bb (below_drewN w x) q2)
  have HY' := (show Hid _ from HY)
  have HE' : Hid (Ends W (some ⟨b, 0, none⟩) false n (lf n S) l) := HE
  have HN : Hid (1 ≤ n ∧ n ≤ 4096) := ⟨h1, hn⟩
  have HLS : Hid (∀ y ∈ ls, y < 18446744073709551616) := hls
  have HSS : Hid (∀ x ∈ lf n S, x < 18446744073709551616) := lf_lt hS
  have HW : Hid (Below W.heap.size W w) := hw
  have hlenn : (n : Int) ≤ 9223372036854775807 := by omega
  have ew : IntKind.u64.wrap (n : Int) = (n : Int) := by rw [IntKind.wrap_u64]; omega
  clear HC HL HY HE hll hls hS h1 hn hw
  go_enter Tryz.func7, Tryz.ntmps7
  go_wp2_with (first
    | (go_at_call 18; with_reducible refine AnsW.use0 HC1 fun n1 => ?_)
    | (go_at_call 19; with_reducible refine HL1 _ fun gl C1 w2 hO2 hB2 => ?_)
    | (at_make; refine Hid.out ?_))
  unfold Hid
  have HO2 : Hid (UAt w2 (some ⟨gl, 0, none⟩) C1 ls) := hO2.words HLS.out
  have HB2 : Hid (Below w.heap.size w w2) := hB2
  clear HC1 HL1 hO2 hB2
  refine wpList_make_full _ rfl _ _ 26 rfl w2.heap.size 22 ii _ 1 Tryz.underlying26 hii hzi hsi .i64 .i64 (n : Int) (n : Int) n rfl rfl rfl rfl (by have := HN.out; rw [hbi]; omega) (by have := HN.out; unfold maxLen; omega) (Nat.le_refl _) ?_
  intro w3 hR hG1
  obtain ⟨gc, hgc⟩ : ∃ gc, w2.heap.size = gc := ⟨_, rfl⟩
  have hR1 : OwnU w3 w2.heap.size (some ⟨w2.heap.size, 0, none⟩) n (lf n fun _ => 0) := by
    have e : (madeCells (Value.int .u64 0).cells (n * 1)).toList = ucells (lf n fun _ => 0) := by
      rw [made_list rfl, lf_zero]; simp [ucells]
    unfold OwnU
    rw [← e, lf_len]; exact hR
  have hB3 : Below w2.heap.size w2 w3 := (Below.refl _ _).grown hG1 (Nat.le_refl _) (fun k ek => by cases ek)
  rw [hgc] at hR1 ⊢
  have HYk := HY'.out w2 _ C1 gc (bb HW.out HB2.out) HO2.out
  have HR2 : Hid (OwnU w3 w2.heap.size (some ⟨gc, 0, none⟩) n (lf n fun _ => 0)) := by unfold Hid; rw [hgc]; exact hR1
  have HB3 : Hid (Below w2.heap.size w2 w3) := hB3
  have HGC : Hid (w2.heap.size ≤ gc) := by unfold Hid; omega
  clear hR hR1 hG1 hgc hB3 HY'
  go_wp2_with (go_at_call 20; with_reducible refine InQ.use HYk HB3.out HR2.out fun w5 hO5 hK5 => ?_)
  have HO5 : Hid (OwnU w5 w.heap.size (some ⟨gc, 0, none⟩) n (lf n S)) := hO5.base HB2.out.size
  have HB5 : Hid (Below w.heap.size w w5) := bb HB2.out (hK5.bel HB3.out HGC.out)
  clear hO5 hK5 HYk
  go_wp2
  go_ret2
  have hl := HE'.out.no rfl
  exact ⟨_, _, rfl, by rw [hl]; exact HO5.out, HB5.out⟩
set_option maxRecDepth 100000 in
set_option maxHeartbeats 4000000 in
theorem runq_yes (W : World) (b : Nat) (A : Option Addr) (n C : Nat) (ls l : List Nat) (S : Nat → Nat) (h1 : 1 ≤ n) (hn : n ≤ 4096) (hll : ls.length = n) (hls : ∀ y ∈ ls, y < 18446744073709551616) (hS : ∀ j, j < n → S j < 18446744073709551616)
    (HC : ∀ w, Below W.heap.size W w → AnsW w 18 #[pt b, .slice A n C] (.int .i64 0))
    (HL : ∀ w, Below W.heap.size W w → OwnT w 19 #[pt b, .int .i64 (n : Int), .bool true] ls)
    (HY : ∀ w B D g, Below W.heap.size W w → UAt w B D ls → InQ w 20 #[.agg #[pt b, .slice B n D], .slice (some ⟨g, 0, none⟩) n n, .slice A n C, .int .i64 1] g n (lf n fun _ => 0) (lf n S))
    (HE : Ends W (some ⟨b, 0, none⟩) true n (lf n S) l) : OwnT W 7 #[pt b, .slice A n C, .bool true] l := by
  intro w hw
  rw [HE.len]
  obtain ⟨ii, hii, hzi, hsi, hbi⟩ := info_parts infoWd
  have HC1 := HC w hw
  have HL1 : ∀ (x : Nat) {R : Ending → World → Prop}, (∀ g C1 w', OwnU w' w.heap.size (some ⟨g, 0, none⟩) C1 ls → Below w.heap.size w w' → R (.returned (.tuple #[.slice (some ⟨g, 0, none⟩) n C1, .int .i64 0])) w') → Calls Tryz.prog 19 #[pt b, .int .i64 (n : Int), .bool true] (w.drewN x) R :=
    fun x R k => OwnT.useG (HL w hw) hll h1 (below_drewN w x) fun g C1 w' q1 q2 => k g C1 w' (q1.base (Nat.le_refl _)) (bb (below_drewN w x) q2)
  have HY' := (show Hid _ from HY)
  have HE' : Hid (Ends W (some ⟨b, 0, none⟩) true n (lf n S) l) := HE
  have HN : Hid (1 ≤ n ∧ n ≤ 4096) := ⟨h1, hn⟩
  have HLS : Hid (∀ y ∈ ls, y < 18446744073709551616) := hls
  have HSS : Hid (∀ x ∈ lf n S, x < 18446744073709551616) := lf_lt hS
  have HW : Hid (Below W.heap.size W w) := hw
  have hlenn : (n : Int) ≤ 9223372036854775807 := by omega
  have ew : IntKind.u64.wrap (n : Int) = (n : Int) := by rw [IntKind.wrap_u64]; omega
  clear HC HL HY HE hll hls hS h1 hn hw
  go_enter Tryz.func7, Tryz.ntmps7
  go_wp2_with (first
    | (go_at_call 18; with_reducible refine AnsW.use0 HC1 fun n1 => ?_)
    | (go_at_call 19; with_reducible refine HL1 _ fun gl C1 w2 hO2 hB2 => ?_)
    | (at_make; refine Hid.out ?_))
  unfold Hid
  have HO2 : Hid (UAt w2 (some ⟨gl, 0, none⟩) C1 ls) := hO2.words HLS.out
  have HB2 : Hid (Below w.heap.size w w2) := hB2
  clear HC1 HL1 hO2 hB2
  refine wpList_make_full _ rfl _ _ 26 rfl w2.heap.size 22 ii _ 1 Tryz.underlying26 hii hzi hsi .i64 .i64 (n : Int) (n : Int) n rfl rfl rfl rfl (by have := HN.out; rw [hbi]; omega) (by have := HN.out; unfold maxLen; omega) (Nat.le_refl _) ?_
  intro w3 hR hG1
  obtain ⟨gc, hgc⟩ : ∃ gc, w2.heap.size = gc := ⟨_, rfl⟩
  have hR1 : OwnU w3 w2.heap.size (some ⟨w2.heap.size, 0, none⟩) n (lf n fun _ => 0) := by
    have e : (madeCells (Value.int .u64 0).cells (n * 1)).toList = ucells (lf n fun _ => 0) := by
      rw [made_list rfl, lf_zero]; simp [ucells]
    unfold OwnU
    rw [← e, lf_len]; exact hR
  have hB3 : Below w2.heap.size w2 w3 := (Below.refl _ _).grown hG1 (Nat.le_refl _) (fun k ek => by cases ek)
  rw [hgc] at hR1 ⊢
  have HYk := HY'.out w2 _ C1 gc (bb HW.out HB2.out) HO2.out
  have HR2 : Hid (OwnU w3 w2.heap.size (some ⟨gc, 0, none⟩) n (lf n fun _ => 0)) := by unfold Hid; rw [hgc]; exact hR1
  have HB3 : Hid (Below w2.heap.size w2 w3) := hB3
  have HGC : Hid (w2.heap.size ≤ gc) := by unfold Hid; omega
  clear hR hR1 hG1 hgc hB3 HY'
  go_wp2_with (go_at_call 20; with_reducible refine InQ.use HYk HB3.out HR2.out fun w5 hO5 hK5 => ?_)
  have HO5 : Hid (OwnU w5 w.heap.size (some ⟨gc, 0, none⟩) n (lf n S)) := hO5.base HB2.out.size
  have HB5 : Hid (Below w.heap.size w w5) := bb HB2.out (hK5.bel HB3.out HGC.out)
  clear hO5 hK5 HYk
  have HSc := HE'.out.yes rfl w5 _ _ (bb HW.out HB5.out) (HO5.out.words HSS.out)
  have HSu : Hid (∀ {R : Ending → World → Prop}, (∀ A1 C5 w', OwnU w' w.heap.size A1 C5 l → Below w.heap.size w w' → R (.returned (.slice A1 n C5)) w') → Calls Tryz.prog 21 #[pt b, .slice (some ⟨gc, 0, none⟩) n n] w5 R) := fun {R} k => OwnR.use HSc (Below.refl _ _) fun A1 C5 w' q1 q2 => by
    rw [HE'.out.len]
    exact k A1 C5 w' (q1.base HB5.out.size) (bb HB5.out q2)
  clear HSc
  go_wp2_with (go_at_call 21; with_reducible refine HSu.out fun A6 C6 w6 hO6 hB6 => ?_)
  go_ret2
  exact ⟨_, _, rfl, hO6, hB6⟩

/-- Run, of a list that is transformed. -/
theorem runq_ok {W : World} {b : Nat} {x : En} (F : FieldAt W b x) (hF : Fld x) {A : Option Addr} {C : Nat} {xs : List Nat} (hU : UAt W A C xs) (hk : ck2 x.p xs = 0) (i : Bool) : OwnT W 7 #[pt b, .slice A xs.length C, .bool i] (dT x i xs) := by
  obtain ⟨c, hc, hl, hd, hg⟩ := ck2_ok hk
  obtain ⟨h3, hodd, hlt⟩ := hF.num
  have h1 : 1 ≤ xs.length := by rw [hl]; exact Nat.two_pow_pos c
  have hn : xs.length ≤ 4096 := by rw [hl]; exact two_le hc
  have ho := twR_ord hF h1 hd i
  have hE := ends_any F hF h1 hn hd i
  obtain ⟨ba, oa, rfl⟩ := hU.addr h1
  have HC : ∀ w, Below W.heap.size W w → AnsW w 18 #[pt b, .slice (some ⟨ba, oa, none⟩) xs.length C] (.int .i64 0) := fun w hw => (chq_any (F.below hw) (hU.below hw)).to (by rw [hk])
  have HL : ∀ w, Below W.heap.size W w → OwnT w 19 #[pt b, .int .i64 (xs.length : Int), .bool i] ((pws (twR x xs.length i) x.p xs.length).map fun y => up y x.p) := fun w hw => lifted_yes w b x (F.below hw) hF xs.length h1 hn hd i
  have hls : ∀ y ∈ (pws (twR x xs.length i) x.p xs.length).map (fun y => up y x.p), y < 18446744073709551616 := fun y hy => by
    obtain ⟨z, _, rfl⟩ := List.mem_map.1 hy
    have := up_lt z x.p (by omega); omega
  have HY : ∀ w B D g, Below W.heap.size W w → UAt w B D ((pws (twR x xs.length i) x.p xs.length).map fun y => up y x.p) → InQ w 20 #[.agg #[pt b, .slice B xs.length D], .slice (some ⟨g, 0, none⟩) xs.length xs.length, .slice (some ⟨ba, oa, none⟩) xs.length C, .int .i64 1] g xs.length (lf xs.length fun _ => 0) (lf xs.length (layF x.p (twR x xs.length i) (atL xs) 1 xs.length 0 0 fun _ => 0)) := fun w B D g hw hL => by
    have h2 := two_four c
    rw [← hl] at h2
    exact lay_any (F.below hw) hF (hU.below hw) rfl hn hg hL ho g xs.length (c / 2) xs.length 0 0 1 xs.length (fun _ => 0) h2 (Nat.mul_one _) (Nat.le_refl _) (by omega) (by omega) (Nat.le_refl _) (fun j _ => by omega)
  have hS : ∀ j, j < xs.length → layF x.p (twR x xs.length i) (atL xs) 1 xs.length 0 0 (fun _ => 0) j < 18446744073709551616 := fun j _ => by
    unfold layF
    split
    · have := Nat.mod_lt (tS (twR x xs.length i ^ 1) xs.length (fun u => atL xs (0 + u * 1)) (j - 0)) (show 0 < x.p by omega)
      omega
    · omega
  rw [← layF_all (x := x) (i := i) (fun _ => 0)] at hE
  cases i
  · exact runq_no W b _ xs.length C _ _ _ h1 hn (by rw [List.length_map, pws_len]) hls hS HC HL HY hE
  · exact runq_yes W b _ xs.length C _ _ _ h1 hn (by rw [List.length_map, pws_len]) hls hS HC HL HY hE
theorem runq_bad {W : World} {b : Nat} {x : En} (F : FieldAt W b x) {A : Option Addr} {C : Nat} {xs : List Nat} (hU : UAt W A C xs) (hk : ck2 x.p xs ≠ 0) (i : Bool) : AnsW W 7 #[pt b, .slice A xs.length C, .bool i] (.tuple #[.slice none 0 0, .int .i64 (ck2 x.p xs)]) :=
  runq_err W _ A _ C i _ (by simp only [bne_iff_ne, ne_eq]; exact hk) (chq_any F hU)
theorem runq_nil (w : World) (A : Option Addr) (n C : Nat) (i : Bool) (hlen : (n : Int) ≤ 9223372036854775807) : AnsW w 7 #[.pointer none, .slice A n C, .bool i] (.tuple #[.slice none 0 0, .int .i64 2]) :=
  runq_err w none A n C i 2 (by decide) (chq_err w none A n C 2 (by decide) hlen (ck_nil w _ _))
end Go.Proofs.YtehljcflodilhaaGreatDoor

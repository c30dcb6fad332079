/-
  The walk of ViewSlices, of a slice that fits: true. No condition but that the rows lie there.
-/
import Derived.Test.YtccknfhhmdoffaaVl7
namespace Go.Proofs.Ytccknfhhmdoffaa
set_option linter.unusedVariables false
open Go.RowKit

theorem slices_box {V Y : World} {I0 k : Nat} {t : TypeId} {p q : Nat → Nat} {v : Int} (hv : v = (q k : Int)) (b : Blk V I0 t (cs4 p)) (hk : k < 4) (hY : V.setCell ⟨I0, k, none⟩ (.int .i64 v) = Y) (hq : ∀ j, q j = if j = k then q k else p j) : Blk Y I0 t (cs4 q) := by
  rw [← hY, hv]
  have := b.set k (.int .i64 (q k : Int))
  rw [cs4_set _ hk] at this
  have e : cs4 q = cs4 (fun j => if j = k then q k else p j) := congrArg cs4 (funext hq)
  rw [e]; exact this
theorem L2.put {W w : World} {B D : Nat} {t u : TypeId} {vv uu : Array Value} {X Y : World} {I0 k : Nat} {v : Value} (T : L2 W w B D t u vv uu X) (hY : X.setCell ⟨I0, k, none⟩ v = Y) (h1 : w.heap.size < I0) (h2 : W.heap.size < I0) (h3 : B < I0 := by omega) (h4 : D < I0 := by omega) : Hid (L2 W w B D t u vv uu Y) := by
  unfold Hid
  rw [← hY]
  exact ⟨T.hW.setCell (p := ⟨I0, k, none⟩) (Nat.le_of_lt h2) _, T.hB.setCell (p := ⟨I0, k, none⟩) (Nat.le_of_lt h1) _, T.b1.other (by omega) _ _, T.b2.other (by omega) _ _⟩
theorem L2.dr {W w : World} {B D : Nat} {t u : TypeId} {vv uu : Array Value} {X : World} (h : L2 W w B D t u vv uu X) (n : Nat) : L2 W w B D t u vv uu (X.drewN n) := h.next (below_drewN _ _)
theorem zcell {w : World} {b r C : Nat} {zs : List Int} (h : ZAt w (some ⟨b, r, none⟩) C zs) {i : Nat} {z : Int} (hz : zs[i]? = some z) : w.cell? ⟨b, r + i, none⟩ = some (.int .i64 z) := by
  obtain ⟨b', r', e, _, c, _⟩ := h.get i z hz
  cases e
  exact c
set_option maxRecDepth 20000 in
set_option maxHeartbeats 8000000 in
theorem slices_many (W : World) (o : Int) (A : Option Addr) (C : Nat) (A' : Option Addr) (C' : Nat) (ds : List Nat) (ss : List Int) (hD : ZAt W A C (ints ds)) (hZ : ZAt W A' C' ss) (hO : Ok o ds ss) (k d : Nat) (hd : ds[k]? = some d) (h : gtB ds.length ds.length = false) (f s : Int) (c : Nat) (hn0 : Fit d f s c) (hc : 1 < c) :
    AnsB W 6 #[vw o A ds.length C A' ds.length C', .int .i64 (k : Int), .int .i64 f, .int .i64 s, .int .i64 (c : Int)] (.bool true) := by
  intro w hw
  have hS := hO.shp
  have h4 := hS.few
  have hk : k < ds.length := (List.getElem?_eq_some_iff.1 hd).1
  have hd1 : 1 ≤ d := hS.pos d (List.mem_of_getElem? hd)
  have hdl := ln_le hS hd
  obtain ⟨f1, f2, f3, f4, f5⟩ := id hn0
  have HA := alive_any W
  have HG := great_any W o A ds.length C A' ds.length C'
  have HO := of_any W o A ds.length C A' ds.length C'
  rw [h] at HG
  have HP := slice_ok W o A C A' C' ds ss hD hZ hO k d hd f s c hn0
  have hst := slice_stand hO hd hn0
  rw [ints_set] at HP
  have hO' := hst.ok hO
  have hl1 : (ds.set k c).length = ds.length := by rw [List.length_set]
  have hl2 : (sts ss k c s).length = ds.length := by rw [sts_len, hO.len]
  have HPu : ∀ {w : World}, Below W.heap.size W w → ∀ {R : Ending → World → Prop}, (∀ A1 C1 A2 C2 w', ZAt w' A1 C1 (ints (ds.set k c)) → ZAt w' A2 C2 (sts ss k c s) → Below w.heap.size w w' → R (.returned (.tuple #[.agg #[.int .i64 (o + f * sg ss k), .slice A1 ds.length C1, .slice A2 ds.length C2], .int .i64 0])) w') → Calls Try.prog 22 #[vw o A ds.length C A' ds.length C', .int .i64 (k : Int), .int .i64 f, .int .i64 s, .int .i64 (c : Int)] w R := fun {w} hw {R} K => by
    refine HP.use hw fun A1 C1 A2 C2 w' h1 h2 h3 => ?_
    rw [ints_len, hl1, hl2]
    exact K A1 C1 A2 C2 w' h1 h2 h3
  have HAll : Hid (∀ (Y : World) A1 C1 A2 C2, Below W.heap.size W Y → ZAt Y A1 C1 (ints (ds.set k c)) → ZAt Y A2 C2 (sts ss k c s) →
      ZAt Y A C (ints ds) ∧
      AnsB Y 14 #[.agg #[.int .i64 o, .slice A ds.length C, .slice A' ds.length C'], .int .i64 4096] (.int .i64 0) ∧
      AnsB Y 13 #[.agg #[.int .i64 (o + f * sg ss k), .slice A1 ds.length C1, .slice A2 ds.length C2], .int .i64 4096] (.int .i64 0) ∧
      AnsB Y 19 #[.slice A1 ds.length C1] (.tuple #[.int .i64 (pr (ds.set k c) : Int), .int .i64 0]) ∧
      (∀ {w X' : World} {B D : Nat} {t u : TypeId} {x y z x' y' z' : Value} (Q : L2 Y w B D t u #[x, y, z] #[x', y', z'] X') {R : Ending → World → Prop}, (∀ A5 C5 X'', ZAt X'' A5 C5 (cls (o + f * sg ss k) (sts ss k c s) (ds.set k c)) → L2 Y w B D t u #[x, y, z] #[x', y', z'] X'' → Below X'.heap.size X' X'' → X''.cell? ⟨B, 0, none⟩ = some x → X''.cell? ⟨B, 1, none⟩ = some y → X''.cell? ⟨B, 2, none⟩ = some z → X''.cell? ⟨D, 0, none⟩ = some x' → X''.cell? ⟨D, 1, none⟩ = some y' → X''.cell? ⟨D, 2, none⟩ = some z' → R (.returned (.slice A5 (pr (ds.set k c)) C5)) X'') → Calls Try.prog 16 #[.agg #[.int .i64 (o + f * sg ss k), .slice A1 ds.length C1, .slice A2 ds.length C2]] X' R) ∧
      (∀ n, n < pr (ds.set k c) → AnsB Y 23 #[.slice A1 ds.length C1, .int .i64 (n : Int)] (.agg #[.int .i64 (ix (ds.set k c) n 0 : Int), .int .i64 (ix (ds.set k c) n 1 : Int), .int .i64 (ix (ds.set k c) n 2 : Int), .int .i64 (ix (ds.set k c) n 3 : Int)])) ∧
      (∀ n, n < pr (ds.set k c) → AnsB Y 24 #[.agg #[.int .i64 o, .slice A ds.length C, .slice A' ds.length C'], .agg #[.int .i64 (slI k f s c (ix (ds.set k c) n) 0 : Int), .int .i64 (slI k f s c (ix (ds.set k c) n) 1 : Int), .int .i64 (slI k f s c (ix (ds.set k c) n) 2 : Int), .int .i64 (slI k f s c (ix (ds.set k c) n) 3 : Int)]] (.int .i64 (ce (o + f * sg ss k) (sts ss k c s) (ds.set k c) n)))) := fun Y A1 C1 A2 C2 hb h1 h2 => by
    have hD' := hD.below hb
    have hZ' := hZ.below hb
    have a1 := rcheck_any Y o A C A' C' (ints ds) ss hD' hZ' 4096 0 hO.chk
    rw [ints_len, hO.len] at a1
    have a2 := check_any Y _ A1 C1 A2 C2 _ _ h1 h2 4096 0 hO'.chk
    rw [ints_len, hl1, hl2] at a2
    have a3 := cells_ok Y _ A1 C1 A2 C2 _ _ h1 h2 hO'
    rw [hl1] at a3
    have a4 := (rsize_any Y A1 C1 _ h1).toB
    rw [ints_len, hl1, errV_shape hst.shp, sizeV_shape hst.shp] at a4
    have a5 := fun n hn => rat_any Y A1 C1 _ hst.shp h1 n hn
    rw [hl1] at a5
    refine ⟨hD', a1, a2, a4, fun {w X' B D t u x y z x' y' z'} Q {R} K => L2.row a3 Q fun A5 C5 X'' g1 g2 g3 g4 g5 g6 g7 g8 g9 => ?_, a5, fun n hn => rcell_stand Y o A C A' C' hZ' hO hst hn⟩
    have := K A5 C5 X'' g1 g2 g3 g4 g5 g6 g7 g8 g9
    rw [show (cls (o + f * sg ss k) (sts ss k c s) (ds.set k c)).length = pr (ds.set k c) by unfold cls; rw [List.length_map, List.length_range]]
    exact this
  have HD : Hid ((ints ds)[k]? = some (d : Int)) := by unfold Hid ints; rw [List.getElem?_map, hd]; rfl
  have HD1 : Hid ((ints (ds.set k c))[k]? = some (c : Int)) := by unfold Hid; rw [← ints_set, List.getElem?_set, if_pos rfl, if_pos (by rw [ints_len]; exact hk)]
  have HW : Hid (∀ n, n < pr (ds.set k c) → ∃ y, wrap64 ((ix (ds.set k c) n k : Int) * s) = y ∧ wrap64 (f + y) = (slI k f s c (ix (ds.set k c) n) k : Int)) := fun n hn => by
    have hx := ix_lt hst.shp n (j := k) (by omega)
    rw [ln_set hk, if_pos rfl] at hx
    have hb := fit_in hn0 hx hc
    have hsm := mul_small (n := 4096) (a := (ix (ds.set k c) n k : Int)) (b := s) (by omega) (by omega) (by have := f5 (by omega); omega)
    refine ⟨(ix (ds.set k c) n k : Int) * s, wrap_mid (by omega) (by omega), ?_⟩
    rw [wrap_mid (by omega) (by omega)]
    unfold slI
    rw [if_pos rfl, if_pos hc]
    omega
  have HWj : Hid (∀ n j, slI k f s c (ix (ds.set k c) n) j = if j = k then slI k f s c (ix (ds.set k c) n) k else ix (ds.set k c) n j) := fun n j => by
    by_cases e : j = k
    · subst e; simp
    · unfold slI; rw [if_neg e, if_neg e]
  have HS4 : Hid (pr (ds.set k c) ≤ 4096) := hst.shp.max
  have g1 : 1 < (c : Int) := by omega
  have g2 := f5 (by omega)
  have g5 : (s != 0) = true := by simp [g2.1]
  have g6 : -(d : Int) < s := g2.2.1
  have g7 : s < (d : Int) := g2.2.2.1
  have hneg : wrap64 (-(d : Int)) = -(d : Int) := wrap_mid (by omega) (by omega)
  have hm := mul_small (n := 4096) (a := (c : Int) - 1) (b := s) (by omega) (by omega) (by omega)
  obtain ⟨a, ha⟩ : ∃ a, (c : Int) - 1 = a := ⟨_, rfl⟩
  have e1 : wrap64 ((c : Int) - 1) = a := by rw [← ha]; exact wrap_mid (by omega) (by omega)
  have g8 := g2.2.2.2
  rw [ha] at hm g8
  obtain ⟨p, hp⟩ : ∃ p, a * s = p := ⟨_, rfl⟩
  rw [hp] at hm g8
  have e2 : wrap64 (a * s) = p := by rw [hp]; exact wrap_mid (by omega) (by omega)
  obtain ⟨la, hla⟩ : ∃ la, f + p = la := ⟨_, rfl⟩
  have e3 : wrap64 (f + p) = la := by rw [← hla]; exact wrap_mid (by omega) (by omega)
  rw [hla] at g8
  obtain ⟨g8, g9⟩ := g8
  have f3' : 1 ≤ (c : Int) := f3
  have f4' : (c : Int) ≤ (d : Int) := f4
  obtain ⟨g, hg⟩ : ∃ g, ce (o + f * sg ss k) (sts ss k c s) (ds.set k c) = g := ⟨_, rfl⟩
  obtain ⟨l, hl⟩ : ∃ l, cls (o + f * sg ss k) (sts ss k c s) (ds.set k c) = l := ⟨_, rfl⟩
  have HLg : Hid (∀ n, n < pr (ds.set k c) → l[n]? = some (g n)) := fun n hn => by rw [← hl, ← hg]; unfold cls; rw [List.getElem?_map, List.getElem?_range hn]; rfl
  obtain ⟨I, hI⟩ : ∃ I, ix (ds.set k c) = I := ⟨_, rfl⟩
  obtain ⟨q, hq⟩ : ∃ q, (fun n => slI k f s c (I n)) = q := ⟨_, rfl⟩
  have hq' : ∀ n, slI k f s c (I n) = q n := fun n => by rw [← hq]
  obtain ⟨u, hu⟩ : ∃ u, o + f * sg ss k = u := ⟨_, rfl⟩
  obtain ⟨ps, hps⟩ : ∃ ps, sts ss k c s = ps := ⟨_, rfl⟩
  obtain ⟨zs, hzs⟩ : ∃ zs, ints ds = zs := ⟨_, rfl⟩
  obtain ⟨pz, hpz⟩ : ∃ pz, ints (ds.set k c) = pz := ⟨_, rfl⟩
  obtain ⟨N, hN⟩ : ∃ N, ds.length = N := ⟨_, rfl⟩
  obtain ⟨Sz, hSz⟩ : ∃ Sz, pr (ds.set k c) = Sz := ⟨_, rfl⟩
  unfold vw at *
  simp only [hg, hl] at HAll
  simp only [hI] at HAll HW HWj
  simp only [hq', hu, hps, hzs, hpz, hN, hSz] at HPu HAll HD HD1 HW HWj HS4 HG HO HLg h4 hk ⊢
  have hkN : (k : Int) < (N : Int) := by omega
  have hk4 : k < 4 := by omega
  have hk4' : (k : Int) < 4 := by omega
  have S := L1.new W w hw 24 (.int .i64 o) (.slice A N C) (.slice A' N C')
  clear hO hS hst hO' hD hZ hd h HP hl1 hl2 hd1 hdl hg hl hI hq hq' hu hps hzs hpz hN hSz h4 hn0 f5 hc g2 hm ha hp hla
  go_enter Try.func6, Try.ntmps6
  go_wp2_with (first
    | (go_at_call 10; (with_reducible refine L1.use HA S fun X2 S hb q0 q1 q2 => ?_))
    | (go_at_call 11; (with_reducible refine L1.use HG S fun X3 S hb q0 q1 q2 => ?_))
    | (go_at_call 12; (with_reducible refine L1.use HO S fun X4 S hb q0 q1 q2 => ?_))
    | (go_at_call 22; refine HPu S.hW fun A1 C1 A2 C2 X5 z1 z2 hb5 => ?_; have S := S.next hb5; obtain ⟨zD, HR, HC1, HSi, HCl, HAt, HCe⟩ := HAll.out X5 A1 C1 A2 C2 S.hW z1 z2; have T0 := S.two 28 (.int .i64 u) (.slice A1 N C1) (.slice A2 N C2); have T : L2 X5 w w.heap.size X5.heap.size 24 28 #[.int .i64 o, .slice A N C, .slice A' N C'] #[.int .i64 u, .slice A1 N C1, .slice A2 N C2] _ := ⟨below_alloc _ _, T0.hB, T0.b1, T0.b2⟩; clear T0; obtain ⟨q0, q1, q2, p0, p1, p2⟩ := T.cells; obtain ⟨ba, ra, rfl, hba, ca, _⟩ := zD.get k (d : Int) HD.out; obtain ⟨b1, r1, rfl, hb1, ca1, _⟩ := z1.get k (c : Int) HD1.out)
    | (go_at_call 14; (with_reducible refine L2.use HR T fun X6 T hb q0 q1 q2 p0 p1 p2 => ?_); have c6 := ((bcell T.hW).1 ba (ra + k) hba).trans ca; have d6 := ((bcell T.hW).1 b1 (r1 + k) hb1).trans ca1)
    | (go_at_call 13; (with_reducible refine L2.use HC1 T fun X7 T hb q0 q1 q2 p0 p1 p2 => ?_))
    | (go_at_call 19; (with_reducible refine L2.use HSi T fun X7 T hb q0 q1 q2 p0 p1 p2 => ?_))
    | (go_at_call 16; refine HCl T fun A5 C5 X8 z5 T hb q0 q1 q2 p0 p1 p2 => ?_))
  clear S HPu HAll HR HC1 HSi HCl c6 d6
  go_loopw [20] (fun v wr => ∃ m : Nat, v = .int .i64 m ∧ m ≤ Sz ∧ ZAt wr A5 C5 l ∧ L2 X5 w w.heap.size X5.heap.size 24 28 #[.int .i64 o, .slice (some ⟨ba, ra, none⟩) N C, .slice A' N C'] #[.int .i64 u, .slice (some ⟨b1, r1, none⟩) N C1, .slice A2 N C2] wr) (fun v _ => Sz - (intOf v).toNat)
  case atStart => exact ⟨0, rfl, by omega, z5, T⟩
  case round =>
    clear z5 T q0 q1 q2 p0 p1 p2 hb
    obtain ⟨m, rfl, hm, z5, T⟩ := hrel
    by_cases hlt : m < Sz
    · obtain ⟨b, r, rfl, hb, c0, _⟩ := z5.get m (g m) (HLg.out m hlt)
      have hmS : (m : Int) < (Sz : Int) := by omega
      have hmw : wrap64 ((m : Int) + 1) = (m : Int) + 1 := wrap_next (by have := HS4.out; omega)
      obtain ⟨y, hwa, hwb⟩ := HW.out m hlt
      have HAm := HAt m hlt
      have HCm := HCe m hlt
      have Z5 : Hid (ZAt wr (some ⟨b, r, none⟩) C5 l) := z5
      obtain ⟨q0, q1, q2, p0, p1, p2⟩ := T.cells
      have HQ : Hid (∀ j, q m j = if j = k then q m k else I m j) := HWj.out m
      clear z5
      go_wp2_with (go_at_call 23; (with_reducible refine L2.use HAm T fun Y1 T hb1 q0 q1 q2 p0 p1 p2 => ?_); obtain ⟨I0, hI0⟩ : ∃ I0, Y1.heap.size = I0 := ⟨_, rfl⟩; have bI : Blk _ _ 46 (cs4 (I m)) := Blk.new Y1 46 (cs4 (I m)); have T1 := T.next (below_alloc Y1 (.cells (cs4 (I m)) 46)); have Z6 := (Z5.out.below hb1); have Z7 := Z6.below (below_alloc Y1 (.cells (cs4 (I m)) 46)); have hbI : b ≠ I0 := (by have := hb1.size; omega); have lt1 : w.heap.size < I0 := (by rw [← hI0]; exact T.b1.lt); have lt2 : X5.heap.size < I0 := (by rw [← hI0]; exact T.b2.lt); obtain ⟨V1, hV1⟩ : ∃ V, Y1.alloc (.cells (cs4 (I m)) 46) = V := ⟨_, rfl⟩; rw [hV1] at bI T1 Z7; rw [hI0] at bI; have hV2 : Y1.alloc (.cells #[.int .i64 (I m 0 : Int), .int .i64 (I m 1 : Int), .int .i64 (I m 2 : Int), .int .i64 (I m 3 : Int)] 46) = V1 := hV1; clear T q0 q1 q2 p0 p1 p2 hV1 hb1 Z5; obtain ⟨q0, q1, q2, p0, p1, p2⟩ := T1.cells; have cI : V1.cell? ⟨I0, k, none⟩ = some (.int .i64 (I m k : Int)) := (bI.cell k).trans (cs4_get _ hk4); have fI := bI.frozen k; obtain ⟨Y2, hY2⟩ : ∃ Y, V1.setCell ⟨I0, k, none⟩ (.int .i64 (q m k : Int)) = Y := ⟨_, rfl⟩; have bI2 : Blk Y2 I0 46 (cs4 (q m)) := slices_box rfl bI hk4 hY2 HQ.out; have T2 : Hid (L2 X5 w w.heap.size X5.heap.size 24 28 #[.int .i64 o, .slice (some ⟨ba, ra, none⟩) N C, .slice A' N C'] #[.int .i64 u, .slice (some ⟨b1, r1, none⟩) N C1, .slice A2 N C2] Y2) := T1.put hY2 lt1 lt2; have Z8 : Hid (ZAt Y2 (some ⟨b, r, none⟩) C5 l) := (by unfold Hid; rw [← hY2]; exact Z7.other (fun g o _ e => by cases e; exact hbI) _ _); have y0 : Y2.cell? ⟨I0, 0, none⟩ = some (.int .i64 (q m 0 : Int)) := bI2.cell 0; have y1 : Y2.cell? ⟨I0, 1, none⟩ = some (.int .i64 (q m 1 : Int)) := bI2.cell 1; have y2 : Y2.cell? ⟨I0, 2, none⟩ = some (.int .i64 (q m 2 : Int)) := bI2.cell 2; have y3 : Y2.cell? ⟨I0, 3, none⟩ = some (.int .i64 (q m 3 : Int)) := bI2.cell 3; obtain ⟨t0, t1, t2, _⟩ := T2.out.cells; have T3 := T2.out.next (below_drewZ Y2); have c8 := zcell Z8.out (HLg.out m hlt); clear bI bI2 T1 Z7 HQ Z6)
      go_region_with (go_at_call 24; (first | (with_reducible refine L2.use HCm T3 fun Y4 T4 hb4 q0 q1 q2 p0 p1 p2 => ?_) | (with_reducible refine L2.use HCm (T2.out.dr 1) fun Y4 T4 hb4 q0 q1 q2 p0 p1 p2 => ?_)); have Z9 := Z8.out.below (bb (below_drewZ Y2) hb4); have c9 := zcell Z9 (HLg.out m hlt))
      all_goals
        go_wp2
        go_roundw
      all_goals
        first
          | exact ⟨m + 1, by first | rw [hmw, nat_next] | rw [nat_next], hlt, Z9, T4⟩
          | exact sub_next hlt
          | (rw [hmw]; exact sub_next hlt)
    · obtain rfl : m = Sz := by omega
      clear z5 HAt HCe
      go_wp2
      go_ret
      exact ⟨rfl, T.hB⟩
set_option maxRecDepth 20000 in
set_option maxHeartbeats 8000000 in
theorem slices_one (W : World) (o : Int) (A : Option Addr) (C : Nat) (A' : Option Addr) (C' : Nat) (ds : List Nat) (ss : List Int) (hD : ZAt W A C (ints ds)) (hZ : ZAt W A' C' ss) (hO : Ok o ds ss) (k d : Nat) (hd : ds[k]? = some d) (h : gtB ds.length ds.length = false) (f s : Int) (c : Nat) (hn0 : Fit d f s c) (hc : c = 1) :
    AnsB W 6 #[vw o A ds.length C A' ds.length C', .int .i64 (k : Int), .int .i64 f, .int .i64 s, .int .i64 (c : Int)] (.bool true) := by
  intro w hw
  have hS := hO.shp
  have h4 := hS.few
  have hk : k < ds.length := (List.getElem?_eq_some_iff.1 hd).1
  have hd1 : 1 ≤ d := hS.pos d (List.mem_of_getElem? hd)
  have hdl := ln_le hS hd
  obtain ⟨f1, f2, f3, f4, f5⟩ := id hn0
  have HA := alive_any W
  have HG := great_any W o A ds.length C A' ds.length C'
  have HO := of_any W o A ds.length C A' ds.length C'
  rw [h] at HG
  have HP := slice_ok W o A C A' C' ds ss hD hZ hO k d hd f s c hn0
  have hst := slice_stand hO hd hn0
  rw [ints_set] at HP
  have hO' := hst.ok hO
  have hl1 : (ds.set k c).length = ds.length := by rw [List.length_set]
  have hl2 : (sts ss k c s).length = ds.length := by rw [sts_len, hO.len]
  have HPu : ∀ {w : World}, Below W.heap.size W w → ∀ {R : Ending → World → Prop}, (∀ A1 C1 A2 C2 w', ZAt w' A1 C1 (ints (ds.set k c)) → ZAt w' A2 C2 (sts ss k c s) → Below w.heap.size w w' → R (.returned (.tuple #[.agg #[.int .i64 (o + f * sg ss k), .slice A1 ds.length C1, .slice A2 ds.length C2], .int .i64 0])) w') → Calls Try.prog 22 #[vw o A ds.length C A' ds.length C', .int .i64 (k : Int), .int .i64 f, .int .i64 s, .int .i64 (c : Int)] w R := fun {w} hw {R} K => by
    refine HP.use hw fun A1 C1 A2 C2 w' h1 h2 h3 => ?_
    rw [ints_len, hl1, hl2]
    exact K A1 C1 A2 C2 w' h1 h2 h3
  have HAll : Hid (∀ (Y : World) A1 C1 A2 C2, Below W.heap.size W Y → ZAt Y A1 C1 (ints (ds.set k c)) → ZAt Y A2 C2 (sts ss k c s) →
      ZAt Y A C (ints ds) ∧
      AnsB Y 14 #[.agg #[.int .i64 o, .slice A ds.length C, .slice A' ds.length C'], .int .i64 4096] (.int .i64 0) ∧
      AnsB Y 13 #[.agg #[.int .i64 (o + f * sg ss k), .slice A1 ds.length C1, .slice A2 ds.length C2], .int .i64 4096] (.int .i64 0) ∧
      AnsB Y 19 #[.slice A1 ds.length C1] (.tuple #[.int .i64 (pr (ds.set k c) : Int), .int .i64 0]) ∧
      (∀ {w X' : World} {B D : Nat} {t u : TypeId} {x y z x' y' z' : Value} (Q : L2 Y w B D t u #[x, y, z] #[x', y', z'] X') {R : Ending → World → Prop}, (∀ A5 C5 X'', ZAt X'' A5 C5 (cls (o + f * sg ss k) (sts ss k c s) (ds.set k c)) → L2 Y w B D t u #[x, y, z] #[x', y', z'] X'' → Below X'.heap.size X' X'' → X''.cell? ⟨B, 0, none⟩ = some x → X''.cell? ⟨B, 1, none⟩ = some y → X''.cell? ⟨B, 2, none⟩ = some z → X''.cell? ⟨D, 0, none⟩ = some x' → X''.cell? ⟨D, 1, none⟩ = some y' → X''.cell? ⟨D, 2, none⟩ = some z' → R (.returned (.slice A5 (pr (ds.set k c)) C5)) X'') → Calls Try.prog 16 #[.agg #[.int .i64 (o + f * sg ss k), .slice A1 ds.length C1, .slice A2 ds.length C2]] X' R) ∧
      (∀ n, n < pr (ds.set k c) → AnsB Y 23 #[.slice A1 ds.length C1, .int .i64 (n : Int)] (.agg #[.int .i64 (ix (ds.set k c) n 0 : Int), .int .i64 (ix (ds.set k c) n 1 : Int), .int .i64 (ix (ds.set k c) n 2 : Int), .int .i64 (ix (ds.set k c) n 3 : Int)])) ∧
      (∀ n, n < pr (ds.set k c) → AnsB Y 24 #[.agg #[.int .i64 o, .slice A ds.length C, .slice A' ds.length C'], .agg #[.int .i64 (slI k f s c (ix (ds.set k c) n) 0 : Int), .int .i64 (slI k f s c (ix (ds.set k c) n) 1 : Int), .int .i64 (slI k f s c (ix (ds.set k c) n) 2 : Int), .int .i64 (slI k f s c (ix (ds.set k c) n) 3 : Int)]] (.int .i64 (ce (o + f * sg ss k) (sts ss k c s) (ds.set k c) n)))) := fun Y A1 C1 A2 C2 hb h1 h2 => by
    have hD' := hD.below hb
    have hZ' := hZ.below hb
    have a1 := rcheck_any Y o A C A' C' (ints ds) ss hD' hZ' 4096 0 hO.chk
    rw [ints_len, hO.len] at a1
    have a2 := check_any Y _ A1 C1 A2 C2 _ _ h1 h2 4096 0 hO'.chk
    rw [ints_len, hl1, hl2] at a2
    have a3 := cells_ok Y _ A1 C1 A2 C2 _ _ h1 h2 hO'
    rw [hl1] at a3
    have a4 := (rsize_any Y A1 C1 _ h1).toB
    rw [ints_len, hl1, errV_shape hst.shp, sizeV_shape hst.shp] at a4
    have a5 := fun n hn => rat_any Y A1 C1 _ hst.shp h1 n hn
    rw [hl1] at a5
    refine ⟨hD', a1, a2, a4, fun {w X' B D t u x y z x' y' z'} Q {R} K => L2.row a3 Q fun A5 C5 X'' g1 g2 g3 g4 g5 g6 g7 g8 g9 => ?_, a5, fun n hn => rcell_stand Y o A C A' C' hZ' hO hst hn⟩
    have := K A5 C5 X'' g1 g2 g3 g4 g5 g6 g7 g8 g9
    rw [show (cls (o + f * sg ss k) (sts ss k c s) (ds.set k c)).length = pr (ds.set k c) by unfold cls; rw [List.length_map, List.length_range]]
    exact this
  have HD : Hid ((ints ds)[k]? = some (d : Int)) := by unfold Hid ints; rw [List.getElem?_map, hd]; rfl
  have HD1 : Hid ((ints (ds.set k c))[k]? = some (c : Int)) := by unfold Hid; rw [← ints_set, List.getElem?_set, if_pos rfl, if_pos (by rw [ints_len]; exact hk)]
  have HW : Hid (∀ n, n < pr (ds.set k c) → f = (slI k f s c (ix (ds.set k c) n) k : Int)) := fun n hn => by
    unfold slI
    rw [if_pos rfl, if_neg (by omega)]
    omega
  have HWj : Hid (∀ n j, slI k f s c (ix (ds.set k c) n) j = if j = k then slI k f s c (ix (ds.set k c) n) k else ix (ds.set k c) n j) := fun n j => by
    by_cases e : j = k
    · subst e; simp
    · unfold slI; rw [if_neg e, if_neg e]
  have HS4 : Hid (pr (ds.set k c) ≤ 4096) := hst.shp.max
  have g1 : ¬ 1 < (c : Int) := by omega
  have f3' : 1 ≤ (c : Int) := f3
  have f4' : (c : Int) ≤ (d : Int) := f4
  obtain ⟨g, hg⟩ : ∃ g, ce (o + f * sg ss k) (sts ss k c s) (ds.set k c) = g := ⟨_, rfl⟩
  obtain ⟨l, hl⟩ : ∃ l, cls (o + f * sg ss k) (sts ss k c s) (ds.set k c) = l := ⟨_, rfl⟩
  have HLg : Hid (∀ n, n < pr (ds.set k c) → l[n]? = some (g n)) := fun n hn => by rw [← hl, ← hg]; unfold cls; rw [List.getElem?_map, List.getElem?_range hn]; rfl
  obtain ⟨I, hI⟩ : ∃ I, ix (ds.set k c) = I := ⟨_, rfl⟩
  obtain ⟨q, hq⟩ : ∃ q, (fun n => slI k f s c (I n)) = q := ⟨_, rfl⟩
  have hq' : ∀ n, slI k f s c (I n) = q n := fun n => by rw [← hq]
  obtain ⟨u, hu⟩ : ∃ u, o + f * sg ss k = u := ⟨_, rfl⟩
  obtain ⟨ps, hps⟩ : ∃ ps, sts ss k c s = ps := ⟨_, rfl⟩
  obtain ⟨zs, hzs⟩ : ∃ zs, ints ds = zs := ⟨_, rfl⟩
  obtain ⟨pz, hpz⟩ : ∃ pz, ints (ds.set k c) = pz := ⟨_, rfl⟩
  obtain ⟨N, hN⟩ : ∃ N, ds.length = N := ⟨_, rfl⟩
  obtain ⟨Sz, hSz⟩ : ∃ Sz, pr (ds.set k c) = Sz := ⟨_, rfl⟩
  unfold vw at *
  simp only [hg, hl] at HAll
  simp only [hI] at HAll HW HWj
  simp only [hq', hu, hps, hzs, hpz, hN, hSz] at HPu HAll HD HD1 HW HWj HS4 HG HO HLg h4 hk ⊢
  have hkN : (k : Int) < (N : Int) := by omega
  have hk4 : k < 4 := by omega
  have hk4' : (k : Int) < 4 := by omega
  have S := L1.new W w hw 24 (.int .i64 o) (.slice A N C) (.slice A' N C')
  clear hO hS hst hO' hD hZ hd h HP hl1 hl2 hd1 hdl hg hl hI hq hq' hu hps hzs hpz hN hSz h4 hn0 f5 hc 
  go_enter Try.func6, Try.ntmps6
  go_wp2_with (first
    | (go_at_call 10; (with_reducible refine L1.use HA S fun X2 S hb q0 q1 q2 => ?_))
    | (go_at_call 11; (with_reducible refine L1.use HG S fun X3 S hb q0 q1 q2 => ?_))
    | (go_at_call 12; (with_reducible refine L1.use HO S fun X4 S hb q0 q1 q2 => ?_))
    | (go_at_call 22; refine HPu S.hW fun A1 C1 A2 C2 X5 z1 z2 hb5 => ?_; have S := S.next hb5; obtain ⟨zD, HR, HC1, HSi, HCl, HAt, HCe⟩ := HAll.out X5 A1 C1 A2 C2 S.hW z1 z2; have T0 := S.two 28 (.int .i64 u) (.slice A1 N C1) (.slice A2 N C2); have T : L2 X5 w w.heap.size X5.heap.size 24 28 #[.int .i64 o, .slice A N C, .slice A' N C'] #[.int .i64 u, .slice A1 N C1, .slice A2 N C2] _ := ⟨below_alloc _ _, T0.hB, T0.b1, T0.b2⟩; clear T0; obtain ⟨q0, q1, q2, p0, p1, p2⟩ := T.cells; obtain ⟨ba, ra, rfl, hba, ca, _⟩ := zD.get k (d : Int) HD.out; obtain ⟨b1, r1, rfl, hb1, ca1, _⟩ := z1.get k (c : Int) HD1.out)
    | (go_at_call 14; (with_reducible refine L2.use HR T fun X6 T hb q0 q1 q2 p0 p1 p2 => ?_); have c6 := ((bcell T.hW).1 ba (ra + k) hba).trans ca; have d6 := ((bcell T.hW).1 b1 (r1 + k) hb1).trans ca1)
    | (go_at_call 13; (with_reducible refine L2.use HC1 T fun X7 T hb q0 q1 q2 p0 p1 p2 => ?_))
    | (go_at_call 19; (with_reducible refine L2.use HSi T fun X7 T hb q0 q1 q2 p0 p1 p2 => ?_))
    | (go_at_call 16; refine HCl T fun A5 C5 X8 z5 T hb q0 q1 q2 p0 p1 p2 => ?_))
  clear S HPu HAll HR HC1 HSi HCl c6 d6
  go_loopw [20] (fun v wr => ∃ m : Nat, v = .int .i64 m ∧ m ≤ Sz ∧ ZAt wr A5 C5 l ∧ L2 X5 w w.heap.size X5.heap.size 24 28 #[.int .i64 o, .slice (some ⟨ba, ra, none⟩) N C, .slice A' N C'] #[.int .i64 u, .slice (some ⟨b1, r1, none⟩) N C1, .slice A2 N C2] wr) (fun v _ => Sz - (intOf v).toNat)
  case atStart => exact ⟨0, rfl, by omega, z5, T⟩
  case round =>
    clear z5 T q0 q1 q2 p0 p1 p2 hb
    obtain ⟨m, rfl, hm, z5, T⟩ := hrel
    by_cases hlt : m < Sz
    · obtain ⟨b, r, rfl, hb, c0, _⟩ := z5.get m (g m) (HLg.out m hlt)
      have hmS : (m : Int) < (Sz : Int) := by omega
      have hmw : wrap64 ((m : Int) + 1) = (m : Int) + 1 := wrap_next (by have := HS4.out; omega)
      have hwb : Hid (f = (q m k : Int)) := HW.out m hlt
      have HAm := HAt m hlt
      have HCm := HCe m hlt
      have Z5 : Hid (ZAt wr (some ⟨b, r, none⟩) C5 l) := z5
      obtain ⟨q0, q1, q2, p0, p1, p2⟩ := T.cells
      have HQ : Hid (∀ j, q m j = if j = k then q m k else I m j) := HWj.out m
      clear z5
      go_wp2_with (go_at_call 23; (with_reducible refine L2.use HAm T fun Y1 T hb1 q0 q1 q2 p0 p1 p2 => ?_); obtain ⟨I0, hI0⟩ : ∃ I0, Y1.heap.size = I0 := ⟨_, rfl⟩; have bI : Blk _ _ 46 (cs4 (I m)) := Blk.new Y1 46 (cs4 (I m)); have T1 := T.next (below_alloc Y1 (.cells (cs4 (I m)) 46)); have Z6 := (Z5.out.below hb1); have Z7 := Z6.below (below_alloc Y1 (.cells (cs4 (I m)) 46)); have hbI : b ≠ I0 := (by have := hb1.size; omega); have lt1 : w.heap.size < I0 := (by rw [← hI0]; exact T.b1.lt); have lt2 : X5.heap.size < I0 := (by rw [← hI0]; exact T.b2.lt); obtain ⟨V1, hV1⟩ : ∃ V, Y1.alloc (.cells (cs4 (I m)) 46) = V := ⟨_, rfl⟩; rw [hV1] at bI T1 Z7; rw [hI0] at bI; have hV2 : Y1.alloc (.cells #[.int .i64 (I m 0 : Int), .int .i64 (I m 1 : Int), .int .i64 (I m 2 : Int), .int .i64 (I m 3 : Int)] 46) = V1 := hV1; clear T q0 q1 q2 p0 p1 p2 hV1 hb1 Z5; obtain ⟨q0, q1, q2, p0, p1, p2⟩ := T1.cells; have cI : V1.cell? ⟨I0, k, none⟩ = some (.int .i64 (I m k : Int)) := (bI.cell k).trans (cs4_get _ hk4); have fI := bI.frozen k; obtain ⟨Y2, hY2⟩ : ∃ Y, V1.setCell ⟨I0, k, none⟩ (.int .i64 f) = Y := ⟨_, rfl⟩; have bI2 : Blk Y2 I0 46 (cs4 (q m)) := slices_box hwb.out bI hk4 hY2 HQ.out; have T2 : Hid (L2 X5 w w.heap.size X5.heap.size 24 28 #[.int .i64 o, .slice (some ⟨ba, ra, none⟩) N C, .slice A' N C'] #[.int .i64 u, .slice (some ⟨b1, r1, none⟩) N C1, .slice A2 N C2] Y2) := T1.put hY2 lt1 lt2; have Z8 : Hid (ZAt Y2 (some ⟨b, r, none⟩) C5 l) := (by unfold Hid; rw [← hY2]; exact Z7.other (fun g o _ e => by cases e; exact hbI) _ _); have y0 : Y2.cell? ⟨I0, 0, none⟩ = some (.int .i64 (q m 0 : Int)) := bI2.cell 0; have y1 : Y2.cell? ⟨I0, 1, none⟩ = some (.int .i64 (q m 1 : Int)) := bI2.cell 1; have y2 : Y2.cell? ⟨I0, 2, none⟩ = some (.int .i64 (q m 2 : Int)) := bI2.cell 2; have y3 : Y2.cell? ⟨I0, 3, none⟩ = some (.int .i64 (q m 3 : Int)) := bI2.cell 3; obtain ⟨t0, t1, t2, _⟩ := T2.out.cells; have T3 := T2.out.next (below_drewZ Y2); have c8 := zcell Z8.out (HLg.out m hlt); clear bI bI2 T1 Z7 HQ Z6)
      go_region_with (go_at_call 24; (first | (with_reducible refine L2.use HCm T3 fun Y4 T4 hb4 q0 q1 q2 p0 p1 p2 => ?_) | (with_reducible refine L2.use HCm (T2.out.dr 1) fun Y4 T4 hb4 q0 q1 q2 p0 p1 p2 => ?_)); have Z9 := Z8.out.below (bb (below_drewZ Y2) hb4); have c9 := zcell Z9 (HLg.out m hlt))
      all_goals
        go_wp2
        go_roundw
      all_goals
        first
          | exact ⟨m + 1, by first | rw [hmw, nat_next] | rw [nat_next], hlt, Z9, T4⟩
          | exact sub_next hlt
          | (rw [hmw]; exact sub_next hlt)
    · obtain rfl : m = Sz := by omega
      clear z5 HAt HCe
      go_wp2
      go_ret
      exact ⟨rfl, T.hB⟩
/-- ViewSlices. -/
theorem slices_law (W : World) (o : Int) (A : Option Addr) (C : Nat) (A' : Option Addr) (C' : Nat) (zs ss : List Int) (hD : ZAt W A C zs) (hZ : ZAt W A' C' ss) (k : Int) (_ : I64 k) (f : Int) (_ : I64 f) (s : Int) (_ : I64 s) (c : Int) (_ : I64 c) : AnsB W 6 #[vw o A zs.length C A' ss.length C', .int .i64 k, .int .i64 f, .int .i64 s, .int .i64 c] (.bool true) := by
  cases hg : gtB zs.length ss.length with
  | true => exact slices_great W o A _ C A' _ C' k f s c hg
  | false =>
    obtain ⟨e, he⟩ := chk_any o zs ss 4096
    have HR := rcheck_any W o A C A' C' zs ss hD hZ 4096 e he
    by_cases h0 : e = 0
    · subst h0
      obtain ⟨ds, rfl, hO⟩ := he.ok rfl
      by_cases hk : 0 ≤ k ∧ k < ((ints ds).length : Int)
      · obtain ⟨j, rfl⟩ := Int.eq_ofNat_of_zero_le hk.1
        have hj : j < ds.length := by have := hk.2; rw [ints_len] at this; omega
        rw [ints_len] at hg ⊢
        rw [hO.len] at hg ⊢
        have hd : ds[j]? = some ds[j] := List.getElem?_eq_getElem hj
        by_cases hf : Fit (ds[j] : Nat) f s c
        · obtain ⟨n, rfl⟩ := Int.eq_ofNat_of_zero_le (show 0 ≤ c by have := hf.2.2.1; omega)
          by_cases hc : 1 < n
          · exact slices_many W o A C A' C' ds ss hD hZ hO j _ hd hg f s n hf hc
          · exact slices_one W o A C A' C' ds ss hD hZ hO j _ hd hg f s n hf (by have := hf.2.2.1; omega)
        · exact slices_bad W o A C A' C' ds ss hD hZ hO j _ hd hg f s c hf
      · have hc : caE 0 (ints ds).length k = 10 := by
          unfold caE
          rw [if_pos rfl, if_neg (by simp [axB]; omega)]
        have HP := slice_err W o A C A' C' (ints ds) ss hD hZ 0 he k f s c (by rw [hc]; omega)
        rw [hc] at HP
        by_cases hk0 : k < 0
        · exact slices_axis1 W o A _ C A' _ C' k f s c hg hk0 HP HR
        · exact slices_axis2 W o A _ C A' _ C' k f s c hg hk0 (by omega) HP HR
    · have hc : caE e zs.length k = e := by unfold caE; rw [if_neg h0]
      have HP := slice_err W o A C A' C' zs ss hD hZ e he k f s c (by rw [hc]; exact h0)
      rw [hc] at HP
      exact slices_err W o A _ C A' _ C' k f s c hg e h0 HP HR
end Go.Proofs.Ytccknfhhmdoffaa

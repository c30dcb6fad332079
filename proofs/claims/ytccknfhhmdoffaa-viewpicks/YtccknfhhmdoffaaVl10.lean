/-
  ViewPicks walked: an index that can be picked. No condition but that the rows lie there.
-/
import Derived.Test.YtccknfhhmdoffaaVl9
namespace Go.Proofs.Ytccknfhhmdoffaa
set_option linter.unusedVariables false
open Go.RowKit
attribute [local go_sem ↓] appS_eq

set_option maxRecDepth 20000 in
set_option maxHeartbeats 8000000 in
theorem picks_good (W : World) (o : Int) (A : Option Addr) (C : Nat) (A' : Option Addr) (C' : Nat) (ds : List Nat) (ss : List Int) (hD : ZAt W A C (ints ds)) (hZ : ZAt W A' C' ss) (hO : Ok o ds ss) (k d : Nat) (hd : ds[k]? = some d) (h : gtB ds.length ds.length = false) (a : Nat) (ha : a < d) (hC1 : C ≠ k + 1) :
    AnsB W 8 #[vw o A ds.length C A' ds.length C', .int .i64 (k : Int), .int .i64 (a : Int)] (.bool true) := by
  intro w hw
  have hS := hO.shp
  have h4 := hS.few
  have hk : k < ds.length := (List.getElem?_eq_some_iff.1 hd).1
  have hCL : ds.length ≤ C := by have := hD.cap; rw [ints_len] at this; exact this
  have hCm : C ≤ 9223372036854775807 := by have := hD.max; unfold maxLen at this; omega
  have HA := alive_any W
  have HG := great_any W o A ds.length C A' ds.length C'
  have HO := of_any W o A ds.length C A' ds.length C'
  rw [h] at HG
  have HP := pick_ok W o A C A' C' ds ss hD hZ hO k d hd a (by omega) (by omega)
  have hst := pick_stand hO hd ha
  have hO' := hst.ok hO
  have hl1 : (ds.eraseIdx k).length = ds.length - 1 := by rw [List.length_eraseIdx, if_pos hk]
  have hl2 : (ss.eraseIdx k).length = ds.length - 1 := by rw [List.length_eraseIdx, hO.len, if_pos hk]
  have HPu : ∀ {w : World}, Below W.heap.size W w → ∀ {R : Ending → World → Prop}, (∀ A1 C1 A2 C2 w', ZAt w' A1 C1 (ints (ds.eraseIdx k)) → ZAt w' A2 C2 (ss.eraseIdx k) → Below w.heap.size w w' → R (.returned (.tuple #[.agg #[.int .i64 (o + (a : Int) * sg ss k), .slice A1 (ds.length - 1) C1, .slice A2 (ds.length - 1) C2], .int .i64 0])) w') → Calls Try.prog 26 #[vw o A ds.length C A' ds.length C', .int .i64 (k : Int), .int .i64 (a : Int)] w R := fun {w} hw {R} K => by
    refine HP.use hw fun A1 C1 A2 C2 w' h1 h2 h3 => ?_
    rw [ints_len, hl1, hl2]
    exact K A1 C1 A2 C2 w' h1 h2 h3
  obtain ⟨ba, ra, rfl, hba, ca⟩ := hD.nat hd
  have HAll : Hid (∀ (Y : World) A1 C1 A2 C2, Below W.heap.size W Y → ZAt Y A1 C1 (ints (ds.eraseIdx k)) → ZAt Y A2 C2 (ss.eraseIdx k) →
      ZAt Y (some ⟨ba, ra, none⟩) C (ints ds) ∧
      AnsB Y 14 #[.agg #[.int .i64 o, .slice (some ⟨ba, ra, none⟩) ds.length C, .slice A' ds.length C'], .int .i64 4096] (.int .i64 0) ∧
      AnsB Y 13 #[.agg #[.int .i64 (o + (a : Int) * sg ss k), .slice A1 (ds.length - 1) C1, .slice A2 (ds.length - 1) C2], .int .i64 4096] (.int .i64 0) ∧
      (∀ {w X' : World} {B D : Nat} {t u : TypeId} {x y z x' y' z' : Value} (Q : L2 Y w B D t u #[x, y, z] #[x', y', z'] X') {R : Ending → World → Prop}, (∀ A5 C5 X'', ZAt X'' A5 C5 (cls (o + (a : Int) * sg ss k) (ss.eraseIdx k) (ds.eraseIdx k)) → L2 Y w B D t u #[x, y, z] #[x', y', z'] X'' → Below X'.heap.size X' X'' → X''.cell? ⟨B, 0, none⟩ = some x → X''.cell? ⟨B, 1, none⟩ = some y → X''.cell? ⟨B, 2, none⟩ = some z → X''.cell? ⟨D, 0, none⟩ = some x' → X''.cell? ⟨D, 1, none⟩ = some y' → X''.cell? ⟨D, 2, none⟩ = some z' → R (.returned (.slice A5 (pr (ds.eraseIdx k)) C5)) X'') → Calls Try.prog 16 #[.agg #[.int .i64 (o + (a : Int) * sg ss k), .slice A1 (ds.length - 1) C1, .slice A2 (ds.length - 1) C2]] X' R) ∧
      (∀ n, n < pr (ds.eraseIdx k) → AnsB Y 23 #[.slice A1 (ds.length - 1) C1, .int .i64 (n : Int)] (.agg #[.int .i64 (ix (ds.eraseIdx k) n 0 : Int), .int .i64 (ix (ds.eraseIdx k) n 1 : Int), .int .i64 (ix (ds.eraseIdx k) n 2 : Int), .int .i64 (ix (ds.eraseIdx k) n 3 : Int)])) ∧
      (∀ n, n < pr (ds.eraseIdx k) → AnsB Y 24 #[.agg #[.int .i64 o, .slice (some ⟨ba, ra, none⟩) ds.length C, .slice A' ds.length C'], .agg #[.int .i64 (pkI k a (ix (ds.eraseIdx k) n) 0 : Int), .int .i64 (pkI k a (ix (ds.eraseIdx k) n) 1 : Int), .int .i64 (pkI k a (ix (ds.eraseIdx k) n) 2 : Int), .int .i64 (pkI k a (ix (ds.eraseIdx k) n) 3 : Int)]] (.int .i64 (ce (o + (a : Int) * sg ss k) (ss.eraseIdx k) (ds.eraseIdx k) n)))) := fun Y A1 C1 A2 C2 hb h1 h2 => by
    have hD' := hD.below hb
    have hZ' := hZ.below hb
    have a1 := rcheck_any Y o _ C A' C' (ints ds) ss hD' hZ' 4096 0 hO.chk
    rw [ints_len, hO.len] at a1
    have a2 := check_any Y _ A1 C1 A2 C2 _ _ h1 h2 4096 0 hO'.chk
    rw [ints_len, hl1, hl2] at a2
    have a3 := cells_ok Y _ A1 C1 A2 C2 _ _ h1 h2 hO'
    rw [hl1] at a3
    have a5 := fun n hn => rat_any Y A1 C1 _ hst.shp h1 n hn
    rw [hl1] at a5
    refine ⟨hD', a1, a2, fun {w X' B D t u x y z x' y' z'} Q {R} K => L2.row a3 Q fun A5 C5 X'' g1 g2 g3 g4 g5 g6 g7 g8 g9 => ?_, a5, fun n hn => rcell_stand Y o _ C A' C' hZ' hO hst hn⟩
    have := K A5 C5 X'' g1 g2 g3 g4 g5 g6 g7 g8 g9
    rw [show (cls (o + (a : Int) * sg ss k) (ss.eraseIdx k) (ds.eraseIdx k)).length = pr (ds.eraseIdx k) by unfold cls; rw [List.length_map, List.length_range]]
    exact this
  have HS4 : Hid (pr (ds.eraseIdx k) ≤ 4096) := hst.shp.max
  have HE1 : Hid (ints (ds.eraseIdx k) = (ints ds).take k ++ (ints ds).drop (k + 1)) := by unfold Hid ints; rw [List.eraseIdx_eq_take_drop_succ]; simp
  have HIl : Hid ((ints ds).length = ds.length) := ints_len ds
  have HIo : Hid (∀ n j, ds.length - 1 ≤ j → j < 4 → ix (ds.eraseIdx k) n j = 0) := fun n j h1 h2 => ix_out n (by rw [hl1]; exact h1) h2
  have HPl : Hid ((ints (ds.eraseIdx k)).length = ds.length - 1) := by unfold Hid; rw [ints_len, hl1]
  obtain ⟨g, hg⟩ : ∃ g, ce (o + (a : Int) * sg ss k) (ss.eraseIdx k) (ds.eraseIdx k) = g := ⟨_, rfl⟩
  obtain ⟨l, hl⟩ : ∃ l, cls (o + (a : Int) * sg ss k) (ss.eraseIdx k) (ds.eraseIdx k) = l := ⟨_, rfl⟩
  have HLg : Hid (∀ n, n < pr (ds.eraseIdx k) → l[n]? = some (g n)) := fun n hn => by rw [← hl, ← hg]; unfold cls; rw [List.getElem?_map, List.getElem?_range hn]; rfl
  obtain ⟨I, hI⟩ : ∃ I, ix (ds.eraseIdx k) = I := ⟨_, rfl⟩
  obtain ⟨u, hu⟩ : ∃ u, o + (a : Int) * sg ss k = u := ⟨_, rfl⟩
  obtain ⟨ps, hps⟩ : ∃ ps, ss.eraseIdx k = ps := ⟨_, rfl⟩
  obtain ⟨zs, hzs⟩ : ∃ zs, ints ds = zs := ⟨_, rfl⟩
  obtain ⟨pz, hpz⟩ : ∃ pz, ints (ds.eraseIdx k) = pz := ⟨_, rfl⟩
  obtain ⟨N, hN⟩ : ∃ N, ds.length = N := ⟨_, rfl⟩
  obtain ⟨M, hM⟩ : ∃ M, N - 1 = M := ⟨_, rfl⟩
  obtain ⟨Sz, hSz⟩ : ∃ Sz, pr (ds.eraseIdx k) = Sz := ⟨_, rfl⟩
  unfold vw at *
  simp only [hg, hl] at HAll
  simp only [hI] at HAll HIo
  simp only [hu, hps, hzs, hpz, hN, hSz] at HPu HAll HS4 HE1 HIl HPl HIo HG HO HLg h4 hk hCL ⊢
  simp only [hM] at HPu HAll HPl HIo
  have HM : Hid (N - 1 = M) := hM
  have HN4 : Hid (N ≤ 4) := h4
  have hkN : (k : Int) < (N : Int) := by omega
  have hai : ¬ (a : Int) < 0 := by omega
  have had : ¬ (d : Int) ≤ (a : Int) := by omega
  have hadd : decide (d ≤ a) = false := by simpa using (show ¬ d ≤ a by omega)
  have hNkd : decide (N ≤ k) = false := by simpa using (show ¬ N ≤ k by omega)
  have haid : decide ((a : Int) < 0) = false := by simp
  have hk4 : k < 4 := by omega
  have hk4' : (k : Int) < 4 := by omega
  have hkC : k ≤ C := by omega
  have hkC1 : k + 1 ≤ C := by omega
  have hkw : wrap64 ((k : Int) + 1) = (k : Int) + 1 := wrap_next (by omega)
  have HX1 : Hid ((N ≤ C ∧ C ≤ 9223372036854775807 ∧ ¬ C = k + 1) ∧ (0 : Int) ≤ (k : Int) + 1 ∧ (k : Int) + 1 ≤ (N : Int) ∧ (N : Int) ≤ (C : Int) ∧ k + 1 ≤ N ∧ k + 1 ≤ C ∧ k ≤ C ∧ (k : Int) ≤ (C : Int) ∧ (k : Int) + 1 ≤ (C : Int)) := ⟨⟨hCL, hCm, hC1⟩, pick_bounds hk hCL⟩
  have HM3 : Hid (M < 4 ∧ k ≤ M) := pick_few hM h4 hk
  have HKV : Hid (∀ k1, k + 1 = k1 → IntKind.i64.wrap ((k : Int) + 1) = (k1 : Int)) := fun k1 e => pick_wrap hk4 e
  have HKW : Hid (wrap64 ((k : Int) + 1) = (k : Int) + 1) := hkw
  clear hCL hCm hC1 hkC hkC1 hkw
  have S := L1.new W w hw 24 (.int .i64 o) (.slice (some ⟨ba, ra, none⟩) N C) (.slice A' N C')
  clear hO hS hst hO' hZ hd h HP hl1 hl2 hg hl hI hu hps hpz hN hSz h4 hM hzs hD
  go_enter Try.func8, Try.ntmps8
  go_upto_region 13 with (first
    | (go_at_call 10; (with_reducible refine L1.use HA S fun X2 S hb q0 q1 q2 => ?_))
    | (go_at_call 11; (with_reducible refine L1.use HG S fun X3 S hb q0 q1 q2 => ?_))
    | (go_at_call 12; (with_reducible refine L1.use HO S fun X4 S hb q0 q1 q2 => ?_))
    | (go_at_call 26; refine HPu S.hW fun A1 C1 A2 C2 X5 z1 z2 hb5 => ?_; have S := S.next hb5; obtain ⟨zD, HR, HC1, HCl, HAt, HCe⟩ := HAll.out X5 A1 C1 A2 C2 S.hW z1 z2; have T0 := S.two 28 (.int .i64 u) (.slice A1 M C1) (.slice A2 M C2); have T : L2 X5 w w.heap.size X5.heap.size 24 28 #[.int .i64 o, .slice (some ⟨ba, ra, none⟩) N C, .slice A' N C'] #[.int .i64 u, .slice A1 M C1, .slice A2 M C2] _ := ⟨below_alloc _ _, T0.hB, T0.b1, T0.b2⟩; have ca5 := ((bcell S.hW).1 ba (ra + k) hba).trans ca; have hba5 := Nat.lt_of_lt_of_le hba S.hW.size; clear T0; obtain ⟨q0, q1, q2, p0, p1, p2⟩ := T.cells)
    | (go_at_call 14; (with_reducible refine L2.use HR T fun X6 T hb q0 q1 q2 p0 p1 p2 => ?_); have c6 := ((bcell T.hW).1 ba (ra + k) hba5).trans ca5))
  have hTT := T
  clear S HPu HAll HR c6
  go_cut [98] from 70 to 98 (fun c wx => c = .bool false ∧ L2 X5 w w.heap.size X5.heap.size 24 28 #[.int .i64 o, .slice (some ⟨ba, ra, none⟩) N C, .slice A' N C'] #[.int .i64 u, .slice A1 M C1, .slice A2 M C2] wx)
  case first =>
    have zX := zD.below T.hW
    obtain ⟨V1, V2, V3, D1, e1, D2, e2, hV1, hr1, hr2, hB1, hB2, hB3, zV⟩ := strikes X6 ba ra C zs zX k (by rw [HIl.out]; omega) (by rw [HIl.out]; have := HN4.out; omega)
    rw [HIl.out] at hr2
    rw [HM.out] at hr2
    have S1 := T.next hB1
    have S2 := T.next hB2
    have S3 := T.next hB3
    obtain ⟨I0, hI0⟩ : ∃ I0, X6.heap.size = I0 := ⟨_, rfl⟩
    rw [hI0] at hr1
    have HS : AnsB V3 15 #[.slice A1 M C1, .slice D2 M e2] (.bool true) := by
      rw [← HE1.out] at zV
      have := same_any V3 A1 C1 pz (z1.below (S3.hW)) D2 e2 pz zV
      rw [HPl.out, show smB pz pz = true by simp [smB]] at this
      exact this
    obtain ⟨a10, a11, a12, a13, a14, a15⟩ := S1.cells
    obtain ⟨a20, a21, a22, a23, a24, a25⟩ := S2.cells
    obtain ⟨a30, a31, a32, a33, a34, a35⟩ := S3.cells
    have T3 : Hid (L2 X5 w w.heap.size X5.heap.size 24 28 #[.int .i64 o, .slice (some ⟨ba, ra, none⟩) N C, .slice A' N C'] #[.int .i64 u, .slice A1 M C1, .slice A2 M C2] V3) := S3
    clear S1 S2 S3 hB1 hB2 hB3 zV zX zD T HCl HAt HCe HC1
    obtain ⟨q0, q1, q2, p0, p1, p2⟩ := hTT.cells
    clear hTT
    obtain ⟨⟨hx1, hx2, hx3⟩, hx4, hx5, hx6, hx7, hx8, hx9, hx10, hx11⟩ := HX1.out
    have hkw := HKW.out
    obtain ⟨k1, hk1⟩ : ∃ k1, k + 1 = k1 := ⟨_, rfl⟩
    have hk2 : (k : Int) + 1 = (k1 : Int) := by rw [← hk1]; rfl
    have HK1 : Hid (k + 1 = k1) := hk1
    have hkw : wrap64 ((k : Int) + 1) = (k1 : Int) := by rw [hkw, hk2]
    rw [hk2] at hx5 hx11
    rw [hk1] at hx3 hx7 hx8 hr2
    clear hx4 hk1 hx1 hx2 hk2
    have hkw2 : IntKind.i64.wrap ((k : Int) + 1) = (k1 : Int) := HKV.out k1 HK1.out
    go_region_held3 (fun X => X.cell? ⟨w.heap.size, 1, none⟩ = some (.slice (some ⟨ba, ra, none⟩) N C) ∧ X.cell? ⟨X5.heap.size, 1, none⟩ = some (.slice A1 M C1) ∧ X.cell? ⟨X5.heap.size, 2, none⟩ = some (.slice A2 M C2)) (first | exact ⟨q1, p1, p2⟩ | exact ⟨a11, a14, a15⟩ | exact ⟨a21, a24, a25⟩ | exact ⟨a31, a34, a35⟩ | exact ⟨b1, b4, b5⟩)
      ((go_at_call 15; (with_reducible refine AnsB.use HS (Below.refl _ _) fun X7 hb7 => ?_); have T7 := T3.out.next hb7; obtain ⟨b0, b1, b2, b3, b4, b5⟩ := T7.cells))
    all_goals
      go_wp2_with fail
      go_meet
      case rel => exact ⟨rfl, T7⟩
  case rest =>
    obtain ⟨rfl, T⟩ := hcut
    obtain ⟨q0, q1, q2, p0, p1, p2⟩ := T.cells
    clear hTT
    go_wp2_with (go_at_call 16; refine HCl T fun A5 C5 X8 z5 T hb q0 q1 q2 p0 p1 p2 => ?_)
    clear HCl
    go_loopw [102] (fun v wr => ∃ m : Nat, v = .int .i64 m ∧ m ≤ Sz ∧ ZAt wr A5 C5 l ∧ L2 X5 w w.heap.size X5.heap.size 24 28 #[.int .i64 o, .slice (some ⟨ba, ra, none⟩) N C, .slice A' N C'] #[.int .i64 u, .slice A1 M C1, .slice A2 M C2] wr) (fun v _ => Sz - (intOf v).toNat)
    case atStart => exact ⟨0, rfl, by omega, z5, T⟩
    case round =>
      clear z5 T q0 q1 q2 p0 p1 p2 hb
      obtain ⟨m, rfl, hm, z5, T⟩ := hrel
      by_cases hlt : m < Sz
      · obtain ⟨b, r, rfl, hb, c0, _⟩ := z5.get m (g m) (HLg.out m hlt)
        have hmS : (m : Int) < (Sz : Int) := by omega
        have HMW : Hid (wrap64 ((m : Int) + 1) = (m : Int) + 1) := wrap_next (by have := HS4.out; omega)
        have HAm := HAt m hlt
        have HCm := HCe m hlt
        have HI0 : Hid (∀ j, M ≤ j → j < 4 → I m j = 0) := HIo.out m
        have Z5 : Hid (ZAt wr (some ⟨b, r, none⟩) C5 l) := z5
        obtain ⟨q0, q1, q2, p0, p1, p2⟩ := T.cells
        clear z5
        go_wp2_with (go_at_call 23; (with_reducible refine L2.use HAm T fun Y1 T hb1 q0 q1 q2 p0 p1 p2 => ?_); obtain ⟨V1, I1, hV1, hI1, bI, bX, T1, Z1, lt1, lt2, lt3⟩ := pick_boxes T hb1 Z5.out (I m); have hV2 : (Y1.alloc (.cells #[.int .i64 (I m 0 : Int), .int .i64 (I m 1 : Int), .int .i64 (I m 2 : Int), .int .i64 (I m 3 : Int)] 46)).alloc (.cells #[.int .i64 0, .int .i64 0, .int .i64 0, .int .i64 0] 46) = V1 := hV1; clear T Z5 hb1; obtain ⟨q0, q1, q2, p0, p1, p2⟩ := T1.cells)
        rw [pkX_zero k (I m)] at bX
        have hbI : b < I1 := lt1 b r rfl (Nat.lt_of_le_of_lt (Nat.zero_le _) (List.getElem?_eq_some_iff.1 (HLg.out m hlt)).1)
        have HL5 : Hid (X5.heap.size ≤ I1 + 1 ∧ w.heap.size ≤ I1 + 1 ∧ w.heap.size < I1 + 1 ∧ X5.heap.size < I1 + 1) := pick_room lt2 lt3
        have HbI : Hid (b < I1) := hbI
        clear q0 q1 q2 p0 p1 p2 c0 hb hV1 hV2 lt1
        go_loopw [114] (fun v wx => ∃ n : Nat, v = .int .i64 n ∧ n ≤ M ∧ ZAt wx (some ⟨b, r, none⟩) C5 l ∧ L2 X5 w w.heap.size X5.heap.size 24 28 #[.int .i64 o, .slice (some ⟨ba, ra, none⟩) N C, .slice A' N C'] #[.int .i64 u, .slice A1 M C1, .slice A2 M C2] wx ∧ Blk wx I1 46 (cs4 (I m)) ∧ Blk wx (I1 + 1) 46 (cs4 (pkX k (I m) n))) (fun v _ => M - (intOf v).toNat)
        case atStart => exact ⟨0, rfl, by omega, Z1, T1, bI, bX⟩
        case round =>
          clear Z1 T1 bI bX
          obtain ⟨n, rfl, hn, Z1, T1, bI, bX⟩ := hrel
          obtain ⟨q0, q1, q2, p0, p1, p2⟩ := T1.cells
          by_cases hnt : n < M
          · obtain ⟨hnM, hn4, hn4', hm4, hm4', hnw⟩ := pick_step hnt HM3.out.1
            have cI : wr.cell? ⟨I1, n, none⟩ = some (.int .i64 (I m n : Int)) := (bI.cell n).trans (cs4_get _ hn4)
            by_cases hnk : n < k
            · have hnk' : (n : Int) < (k : Int) := Int.ofNat_lt.2 hnk
              have cX : wr.cell? ⟨I1 + 1, n, none⟩ = some (.int .i64 (pkX k (I m) n n : Int)) := (bX.cell n).trans (cs4_get _ hn4)
              have fX := bX.frozen n
              obtain ⟨Y2, hY2⟩ : ∃ Y, wr.setCell ⟨I1 + 1, n, none⟩ (.int .i64 (I m n : Int)) = Y := ⟨_, rfl⟩
              have b2 : Blk Y2 (I1 + 1) 46 (cs4 (pkX k (I m) (n + 1))) := by
                rw [← hY2, pkX_lo (I m) hnk, ← cs4_set _ hn4]; exact bX.set n _
              have b1 : Blk Y2 I1 46 (cs4 (I m)) := by rw [← hY2]; exact bI.other (Nat.ne_of_lt (Nat.lt_succ_self _)) _ _
              have T2 : L2 X5 w w.heap.size X5.heap.size 24 28 #[.int .i64 o, .slice (some ⟨ba, ra, none⟩) N C, .slice A' N C'] #[.int .i64 u, .slice A1 M C1, .slice A2 M C2] Y2 := by rw [← hY2]; exact T1.set _ n _ HL5.out.2.1 HL5.out.1 HL5.out.2.2.1 HL5.out.2.2.2
              have Z2 : ZAt Y2 (some ⟨b, r, none⟩) C5 l := by rw [← hY2]; exact Z1.other (fun g o _ e => by cases e; exact Nat.ne_of_lt (Nat.lt_succ_of_lt HbI.out)) _ _
              have HNW : Hid (wrap64 ((n : Int) + 1) = (n : Int) + 1) := hnw
              have HNT : Hid (n < M) := hnt
              clear bI bX T1 Z1 hnw hm4 hm4' hnM hn hnt
              go_wp2_with fail
              go_roundw
              all_goals
                first
                  | exact ⟨n + 1, by first | rw [HNW.out, nat_next] | rw [nat_next], HNT.out, Z2, T2, b1, b2⟩
                  | exact sub_next HNT.out
                  | (rw [HNW.out]; exact sub_next HNT.out)
            · have hnk' : ¬ (n : Int) < (k : Int) := fun e => hnk (Int.ofNat_lt.1 e)
              have cX : wr.cell? ⟨I1 + 1, n + 1, none⟩ = some (.int .i64 (pkX k (I m) n (n + 1) : Int)) := (bX.cell (n + 1)).trans (cs4_get _ hm4)
              have fX := bX.frozen (n + 1)
              obtain ⟨Y2, hY2⟩ : ∃ Y, wr.setCell ⟨I1 + 1, n + 1, none⟩ (.int .i64 (I m n : Int)) = Y := ⟨_, rfl⟩
              have b2 : Blk Y2 (I1 + 1) 46 (cs4 (pkX k (I m) (n + 1))) := by
                rw [← hY2, pkX_hi (I m) (Nat.not_lt.1 hnk), ← cs4_set _ hm4]; exact bX.set (n + 1) _
              have b1 : Blk Y2 I1 46 (cs4 (I m)) := by rw [← hY2]; exact bI.other (Nat.ne_of_lt (Nat.lt_succ_self _)) _ _
              have T2 : L2 X5 w w.heap.size X5.heap.size 24 28 #[.int .i64 o, .slice (some ⟨ba, ra, none⟩) N C, .slice A' N C'] #[.int .i64 u, .slice A1 M C1, .slice A2 M C2] Y2 := by rw [← hY2]; exact T1.set _ (n + 1) _ HL5.out.2.1 HL5.out.1 HL5.out.2.2.1 HL5.out.2.2.2
              have Z2 : ZAt Y2 (some ⟨b, r, none⟩) C5 l := by rw [← hY2]; exact Z1.other (fun g o _ e => by cases e; exact Nat.ne_of_lt (Nat.lt_succ_of_lt HbI.out)) _ _
              have HNW : Hid (wrap64 ((n : Int) + 1) = (n : Int) + 1) := hnw
              have HNT : Hid (n < M) := hnt
              clear bI bX T1 Z1 hnw hnM hn hnt
              go_wp2_with fail
              go_roundw
              all_goals
                first
                  | exact ⟨n + 1, by first | rw [HNW.out, nat_next] | rw [nat_next], HNT.out, Z2, T2, b1, b2⟩
                  | exact sub_next HNT.out
                  | (rw [HNW.out]; exact sub_next HNT.out)
          · obtain rfl : M = n := Nat.le_antisymm (Nat.not_lt.1 hnt) hn
            have cX : wr.cell? ⟨I1 + 1, k, none⟩ = some (.int .i64 (pkX k (I m) M k : Int)) := (bX.cell k).trans (cs4_get _ hk4)
            have fX := bX.frozen k
            obtain ⟨Y2, hY2⟩ : ∃ Y, wr.setCell ⟨I1 + 1, k, none⟩ (.int .i64 (a : Int)) = Y := ⟨_, rfl⟩
            have b2 : Blk Y2 (I1 + 1) 46 (cs4 (pkI k a (I m))) := by
              rw [← hY2, ← pkX_end (a := a) HM3.out.2 HI0.out, ← cs4_set _ hk4]; exact bX.set k _
            have T2 : L2 X5 w w.heap.size X5.heap.size 24 28 #[.int .i64 o, .slice (some ⟨ba, ra, none⟩) N C, .slice A' N C'] #[.int .i64 u, .slice A1 M C1, .slice A2 M C2] Y2 := by rw [← hY2]; exact T1.set _ k _ HL5.out.2.1 HL5.out.1 HL5.out.2.2.1 HL5.out.2.2.2
            have Z2 : ZAt Y2 (some ⟨b, r, none⟩) C5 l := by rw [← hY2]; exact Z1.other (fun g o _ e => by cases e; exact Nat.ne_of_lt (Nat.lt_succ_of_lt HbI.out)) _ _
            have y0 : Y2.cell? ⟨I1 + 1, 0, none⟩ = some (.int .i64 (pkI k a (I m) 0 : Int)) := b2.cell 0
            have y1 : Y2.cell? ⟨I1 + 1, 1, none⟩ = some (.int .i64 (pkI k a (I m) 1 : Int)) := b2.cell 1
            have y2 : Y2.cell? ⟨I1 + 1, 2, none⟩ = some (.int .i64 (pkI k a (I m) 2 : Int)) := b2.cell 2
            have y3 : Y2.cell? ⟨I1 + 1, 3, none⟩ = some (.int .i64 (pkI k a (I m) 3 : Int)) := b2.cell 3
            obtain ⟨t0, t1, t2, _⟩ := T2.cells
            have HZ2 : Hid (ZAt Y2 (some ⟨b, r, none⟩) C5 l) := Z2
            clear bI bX T1 Z1 b2 Z2
            go_wp2_with (go_at_call 24; (with_reducible refine L2.use HCm T2 fun Y4 T4 hb4 q0 q1 q2 p0 p1 p2 => ?_); have Z9 := HZ2.out.below hb4)
            have hmw := HMW.out
            go_roundw
            all_goals
              first
                | exact ⟨m + 1, by first | rw [hmw, nat_next] | rw [nat_next], hlt, Z9, T4⟩
                | exact sub_next hlt
                | (rw [hmw]; exact sub_next hlt)
      · obtain rfl : Sz = m := Nat.le_antisymm (Nat.not_lt.1 hlt) hm
        obtain ⟨q0, q1, q2, p0, p1, p2⟩ := T.cells
        clear z5 HAt HCe
        go_wp2_with (go_at_call 13; (with_reducible refine L2.use HC1 T fun X9 T hb q0 q1 q2 p0 p1 p2 => ?_))
        go_ret
        exact ⟨rfl, T.hB⟩
end Go.Proofs.Ytccknfhhmdoffaa

/-
  The statement FieldMakes: there is a field (row).
-/
import Derived.Test.YtikmopnadmgilaaGreatB31
import Derived.Deep.DeepCutAuto
import Derived.Deep.CutBlock
namespace Go.Proofs.YtikmopnadmgilaaGreat
set_option linter.unusedVariables false
open Go.RowKit

set_option maxRecDepth 100000 in
set_option maxHeartbeats 16000000 in
theorem makes_row_yes (W : World) (kind z q : Int) (k0 : (kind == 0) = false) (k1 : (kind == 1) = false) (A : Option Addr) (C : Nat) (es : List En) (hE : EntsAt W A C es) (h40 : es.length ≤ 40) (n v : Int) (p g : Nat) (x : En) (hx : x.p = p ∧ x.g = g) (hfx : FsOk x) (p1 : 1 ≤ p) (p2 : p < 9223372036854775808) (HO : AnsB W 11 #[srcV kind z q A es.length C] (ofV (p : Int) (g : Int) 0))
    (HR : RowsC W (.slice A es.length C) es.length es) (HN : ∀ w A' C', EntsAt w A' C' es → FNew w 14 #[.slice A' es.length C', .int .u64 q] x) : AnsB W 3 #[srcV kind z q A es.length C, .int .i64 n, .int .u64 v] (.bool true) := by
  intro w hw
  obtain ⟨L, hL⟩ : ∃ L, es.length = L := ⟨_, rfl⟩
  have HL : Hid (es.length = L) := hL
  rw [hL] at h40 HO HR HN ⊢
  clear hL
  obtain ⟨t0, t1, t2, t3⟩ := four_cells w (.int .i64 kind) (.int .i64 z) (.int .u64 q) (.slice A L C) 25
  obtain ⟨V, hV⟩ : ∃ V, w.alloc (.cells #[.int .i64 kind, .int .i64 z, .int .u64 q, .slice A L C] 25) = V := ⟨_, rfl⟩
  have hBV : Below w.heap.size w V := hV ▸ below_alloc _ _
  obtain ⟨bo, hbo⟩ : ∃ bo, w.heap.size = bo := ⟨_, rfl⟩
  have hVs : bo < V.heap.size := by rw [← hV, ← hbo]; simp
  rw [hV, hbo] at t0 t1 t2 t3
  have hWV := bb hw hBV
  have HXX : Hid (x.p = p ∧ x.g = g) := hx
  have HFX : Hid (FsOk x) := hfx
  have hl16 := hfx.len
  obtain ⟨fl, hfl⟩ : ∃ fl, x.fs.length = fl := ⟨_, rfl⟩
  have HFL : Hid (x.fs.length = fl) := hfl
  rw [hfl] at hl16
  have HP0 : ∀ (w : World) (b : Nat), FieldAt w b x → AnsW w 16 #[pt b] (.int .u64 (p : Int)) := fun w b F => ansW_int (fP_any F) (by rw [hx.1])
  have HG0 : ∀ (w : World) (b : Nat), FieldAt w b x → AnsW w 17 #[pt b] (.int .u64 (g : Int)) := fun w b F => ansW_int (fG_any F) (by rw [hx.2])
  have HV0 : ∀ (w : World) (b : Nat), FieldAt w b x → AnsW w 18 #[pt b, .int .u64 v] (.bool (decide (v < (p : Int)))) := fun w b F => fGood_walk w _ _ _ (HP0 w b F)
  have HC0 : ∀ (w : World) (b : Nat), FieldAt w b x → FacC w b x := fun w b F => fac_c F (by omega)
  clear hx hfx hfl
  go_enter Tryz.func3, Tryz.ntmps3
  go_wp2_with (first | (go_at_call 10; with_reducible refine AnsM.use alive6 fun w1 hb1 => ?_; have s0 := keep_cell hb1 hVs t0; have s1 := keep_cell hb1 hVs t1; have s2 := keep_cell hb1 hVs t2; have s3 := keep_cell hb1 hVs t3; have hW1 := bb hWV hb1))
  go_loopw [29] (fun v wr => ∃ k : Nat, v = .int .i64 (k : Int) ∧ k ≤ L ∧ Hid (∀ j y, j < k → es[j]? = some y → ¬ 20 < y.fs.length) ∧ Below V.heap.size V wr) (fun v _ => L - (intOf v).toNat)
  case atStart => exact ⟨0, rfl, by omega, fun j y hj => absurd hj (by omega), hb1⟩
  case round =>
    clear hb1 s0 s1 s2 s3 hW1
    obtain ⟨k, rfl, hk, HI, hB⟩ := hrel
    by_cases hlt : k < L
    · have hlt' : k < es.length := by rw [HL.out]; exact hlt
      obtain ⟨y, hy⟩ : ∃ y, es[k]? = some y := ⟨_, List.getElem?_eq_getElem hlt'⟩
      obtain ⟨b, o, A', C', rfl, hb, c0, c1, c2, hP, hp, hg⟩ := hE.get k y hy
      have hBW : Below W.heap.size W wr := bb hWV hB
      have c0' := keep_cell hBW hb c0
      have c1' := keep_cell hBW hb c1
      have c2' := keep_cell hBW hb c2
      have hfm : y.fs.length ≤ 9223372036854775807 := by have := hP.cap; have := hP.max; unfold maxLen at this; omega
      obtain ⟨pp, hp'⟩ : ∃ p : Int, (y.p : Int) = p := ⟨_, rfl⟩
      obtain ⟨gg, hg'⟩ : ∃ g : Int, (y.g : Int) = g := ⟨_, rfl⟩
      obtain ⟨fl, hfl⟩ : ∃ fl : Nat, y.fs.length = fl := ⟨_, rfl⟩
      rw [hp'] at c0'
      rw [hg'] at c1'
      rw [hfl] at c2' hfm
      by_cases ht : 20 < fl
      · clear c0 c1 c2 hp' hg' hfl hy HI hP hlt'
        go_wp2
        go_ret
        exact ⟨rfl, bb hBV (bb hB (below_alloc _ _))⟩
      · have HS' : Hid (∀ j y, j < k + 1 → es[j]? = some y → ¬ 20 < y.fs.length) := by
          intro j y' hj hy'
          by_cases h : j < k
          · exact HI.out j y' h hy'
          · obtain rfl : j = k := by omega
            rw [hy] at hy'; cases hy'; omega
        clear c0 c1 c2 hp' hg' hfl hy HI hP hlt'
        go_wp2
        go_roundw
        case rel => exact ⟨k + 1, by go_num, by omega, HS', bb hB (below_alloc _ _)⟩
        case measure => simp [intOf]; omega
    · obtain rfl : k = L := by omega
      clear HI
      have hb1 := hB
      have hW1 := bb hWV hB
      have s0 := keep_cell hb1 hVs t0
      have s1 := keep_cell hb1 hVs t1
      have s2 := keep_cell hb1 hVs t2
      have s3 := keep_cell hb1 hVs t3
      go_upto_block 2 with (first | (go_at_call 11; with_reducible refine AnsB.use HO hW1 fun w3 hb3 => ?_; have u0 := keep_cell (bb hb1 hb3) hVs t0; have u1 := keep_cell (bb hb1 hb3) hVs t1; have u2 := keep_cell (bb hb1 hb3) hVs t2; have u3 := keep_cell (bb hb1 hb3) hVs t3; have hW3 := bb hW1 hb3))
      go_cut [12, 13] from 20 (fun fv ev wx => ∃ fb, fv = pt fb ∧ ev = .int .i64 0 ∧ FieldAt wx fb x ∧ Below w3.heap.size w3 wx)
      case first =>
        go_wp2
        go_region_with (first
          | (go_at_call 15; with_reducible refine RowsC.use HR (bb hW3 (below_drew _)) fun A2 C2 wq hEq hbq => ?_; have HN2 := HN wq A2 C2 hEq; have hbd := bb (below_drew w3) hbq; have r2 := keep_cell hbd (Nat.lt_of_lt_of_le hVs (bb hb1 hb3).size) u2)
          | (go_at_call 14; with_reducible refine FNew.use HN2 (Below.refl _ _) fun fb w4 hF4 hb4 => ?_))
        all_goals
          go_wp2
          go_meet
          case rel => exact ⟨fb, rfl, rfl, hF4, bb hbd hb4⟩
      case rest =>
        obtain ⟨fb, rfl, rfl, hF4, hb4⟩ := hcut
        have HP1 := HP0 wc fb hF4; have HG1 := HG0 wc fb hF4; have HV1 := HV0 wc fb hF4; have HC1 := HC0 wc fb hF4
        go_upto_region 25 with (first | (go_at_call 16; first | (with_reducible refine AnsW.use HP1 _ fun m0 => ?_) | (with_reducible refine AnsW.use0 HP1 fun m0 => ?_)) | (go_at_call 17; first | (with_reducible refine AnsW.use HG1 _ fun m1 => ?_) | (with_reducible refine AnsW.use0 HG1 fun m1 => ?_)) | (go_at_call 18; first | (with_reducible refine AnsW.use HV1 _ fun m2 => ?_) | (with_reducible refine AnsW.use0 HV1 fun m2 => ?_)) | (go_at_call 20; with_reducible refine FacC.use HC1 HFL.out hwx fun A5 C5 w5 hP5 hb5 => ?_))
        go_cut [16] from 20 (fun s wx => s = .int .u64 1 ∧ Below wc.heap.size wc wx)
        case first =>
          go_wp2
          go_meet
          case rel => exact ⟨rfl, below_drewN _ _⟩
        case rest =>
          obtain ⟨rfl, hwx⟩ := hcut
          go_wp2_with (first | (go_at_call 20; with_reducible refine FacC.use HC1 HFL.out hwx fun A5 C5 w5 hP5 hb5 => ?_))
          have hb45 := bb hwx hb5
          have HP5 : Hid (PowsAt w5 A5 C5 x.fs) := hP5
          have q1 : (1 : Int) ≤ (p : Int) := by omega
          have q2 : (p : Int) < 9223372036854775808 := by omega
          clear hP5
          go_loopw [16, 161] (fun m vv wr => ∃ j y : Nat, m = .int .u64 (y : Int) ∧ vv = .int .i64 (j : Int) ∧ j ≤ fl ∧ Hid (y = mulTo x.fs j) ∧ y < 18446744073709551616 ∧ Below w5.heap.size w5 wr) (fun _ vv _ => fl - (intOf vv).toNat)
          case atStart => exact ⟨0, 1, rfl, rfl, by omega, by unfold Hid mulTo; rfl, by omega, Below.refl _ _⟩
          case round =>
            obtain ⟨j, y, rfl, rfl, hj, HY, hy, hB⟩ := hrel
            by_cases hlt : j < fl
            · obtain ⟨ff, hff⟩ : ∃ ff, x.fs[j]? = some ff := ⟨_, List.getElem?_eq_getElem (by rw [HFL.out]; exact hlt)⟩
              obtain ⟨b6, o6, rfl, hb6, d0, d1, hok⟩ := HP5.out.get j ff hff
              obtain ⟨he1, he2⟩ := HFX.out.e ff (List.mem_of_getElem? hff)
              obtain ⟨E, hE'⟩ := Int.eq_ofNat_of_zero_le (show 0 ≤ ff.e by omega)
              obtain ⟨Q, hQ⟩ : ∃ Q, ff.q = Q := ⟨_, rfl⟩
              have hQl : Q < 18446744073709551616 := by rw [← hQ]; exact hok.1
              have d0' := keep_cell hB hb6 d0
              have d1' := keep_cell hB hb6 d1
              rw [hQ] at d0'
              rw [hE'] at d1' he1 he2
              have HFJ : Hid (x.fs[j]? = some ff ∧ ff.q = Q ∧ ff.e = (E : Int)) := ⟨hff, hQ, hE'⟩
              obtain ⟨g0, g1⟩ := two_cells wr (.int .u64 (Q : Int)) (.int .i64 (E : Int)) 50
              obtain ⟨X, hX⟩ : ∃ X, wr.alloc (.cells #[.int .u64 (Q : Int), .int .i64 (E : Int)] 50) = X := ⟨_, rfl⟩
              have hBX : Below wr.heap.size wr X := hX ▸ below_alloc _ _
              obtain ⟨bx, hbx⟩ : ∃ bx, wr.heap.size = bx := ⟨_, rfl⟩
              have hXs : bx < X.heap.size := by rw [← hX, ← hbx]; simp
              rw [hX, hbx] at g0 g1
              have hw4X := bb hb45 (bb hB hBX)
              have hw5X : Below w5.heap.size w5 X := bb hB hBX
              clear d0 d1 hff hQ hE' hok hB
              go_wp2
              have hE0 : ¬ E = 0 := by omega
              have hE62 : ¬ 62 < E := by omega
              have hEi : ¬ ((E : Int) < 1) := by omega
              have hEj : ¬ ((62 : Int) < (E : Int)) := by omega
              have hEd : decide ((E : Int) < 1) = false := decide_eq_false hEi
              have hEe : decide ((62 : Int) < (E : Int)) = false := decide_eq_false hEj
              go_cut [161, 189] from 161 to 200 (fun iv s wx => iv = .int .i64 (j : Int) ∧ s = .bool false ∧ Below X.heap.size X wx)
              case first =>
                by_cases h0 : j = 0
                · subst h0
                  clear hX hbx hE HO t0 t1 t2 t3 s0 s1 s2 s3 HP0 HG0 HV0 HC0 HP1 HG1 HV1 u0 u1 u2 u3 hF4 HP5 d0' d1' HY he1 he2
                  go_quiet (fail)
                  go_wp2
                  go_meet
                  case rel => exact ⟨rfl, by simp, below_drewN _ _⟩
                · obtain ⟨i, hi⟩ : ∃ i, j = i + 1 := ⟨j - 1, by omega⟩
                  have hji : (j : Int) - 1 = (i : Int) := by omega
                  have hwi : IntKind.i64.wrap (i : Int) = (i : Int) := by rw [IntKind.wrap_i64]; omega
                  have hil : i < fl := by omega
                  have hil' : (i : Int) < (fl : Int) := by omega
                  have hpos : 0 < j := by omega
                  have hj0 : (0 : Int) < (j : Int) := by omega
                  obtain ⟨f1, hf1⟩ : ∃ f1, x.fs[i]? = some f1 := ⟨_, List.getElem?_eq_getElem (by rw [HFL.out]; omega)⟩
                  have hup := HFX.out.up i f1 ff hf1 (by rw [← hi]; exact HFJ.out.1)
                  rw [HFJ.out.2.1] at hup
                  obtain ⟨R1, hR1⟩ : ∃ R1, f1.q = R1 := ⟨_, rfl⟩
                  rw [hR1] at hup
                  have HF1 : Hid (x.fs[i]? = some f1 ∧ f1.q = R1) := ⟨hf1, hR1⟩
                  have hup' : decide ((Q : Int) ≤ (R1 : Int)) = false := decide_eq_false (by omega)
                  have hupn : ¬ Q ≤ R1 := by omega
                  have hupi : ¬ ((Q : Int) ≤ (R1 : Int)) := by omega
                  clear hX hbx hf1 hR1 hE HO t0 t1 t2 t3 s0 s1 s2 s3 HP0 HG0 HV0 HC0 HP1 HG1 HV1 u0 u1 u2 u3 hF4 HP5 d0' d1' HY hup h0 hi he1 he2
                  go_region_with (first
                    | (go_at_call 20; with_reducible refine FacC.use HC1 HFL.out (bb hw4X (below_drew _)) fun A6 C6 w6 hP6 hb6' => ?_; obtain ⟨b8, o8, hA8, hb8, e0, e1, _⟩ := hP6.get i f1 HF1.out.1; subst hA8; rw [HF1.out.2] at e0; have hXw := bb (below_drew X) hb6'; have k0 := keep_cell hXw hXs g0; have k1 := keep_cell hXw hXs g1))
                  all_goals
                    go_wp2
                    go_meet
                    case rel => exact ⟨rfl, by simp, hXw⟩
              case rest =>
                obtain ⟨rfl, rfl, hXx⟩ := hcut
                have k0 := keep_cell hXx hXs g0
                have k1 := keep_cell hXx hXs g1
                clear hX hbx hE HO t0 t1 t2 t3 s0 s1 s2 s3 HP0 HG0 HV0 HC0 HP1 HG1 HV1 u0 u1 u2 u3 hF4 HP5 d0' d1'
                go_wp2
                go_loopw [16, 19] (fun m vv wi => ∃ i c : Nat, m = .int .u64 (c : Int) ∧ vv = .int .i64 (i : Int) ∧ i ≤ E ∧ Hid (c = y * Q ^ i % 18446744073709551616) ∧ c < 18446744073709551616 ∧ wi = wc) (fun _ vv _ => E - (intOf vv).toNat)
                case atStart => exact ⟨0, y, rfl, rfl, by omega, by unfold Hid; rw [Nat.pow_zero, Nat.mul_one, Nat.mod_eq_of_lt hy], hy, by first | rfl | trivial⟩
                case round =>
                  obtain ⟨i, c, rfl, rfl, hi, HI, hc, HW⟩ := hrel
                  by_cases hie : i < E
                  · obtain ⟨c2, hc2⟩ : ∃ c2, c * Q % 18446744073709551616 = c2 := ⟨_, rfl⟩
                    have hmul : IntKind.u64.wrap ((c : Int) * (Q : Int)) = (c2 : Int) := by rw [← Int.natCast_mul, wrap_nat, hc2]
                    have hc2l : c2 < 18446744073709551616 := hc2 ▸ Nat.mod_lt _ (by omega)
                    have HS : Hid (c2 = y * Q ^ (i + 1) % 18446744073709551616) := by
                      unfold Hid; rw [← hc2, HI.out, Nat.mod_mul_mod, Nat.mul_assoc, ← Nat.pow_succ]
                    clear hc2 HI HY
                    go_wp2
                    go_roundw
                    case rel => exact ⟨i + 1, c2, rfl, by go_num, by omega, HS, hc2l, by first | rfl | trivial⟩
                    case measure => simp [intOf]; omega
                  · obtain rfl : i = E := by omega
                    have HS : Hid (c = mulTo x.fs (j + 1)) := by
                      obtain ⟨e1, e2, e3⟩ := HFJ.out
                      unfold Hid; rw [HI.out, mulTo_step e1, e2, e3, Int.toNat_natCast, ← HY.out]
                    clear HI HY
                    go_wp2
                    go_roundw
                    case rel => exact ⟨j + 1, c, rfl, by go_num, by omega, HS, hc, bb hw5X hXx⟩
                    case measure => simp [intOf]; omega
            · obtain rfl : j = fl := by omega
              have e : (y : Int) = (p : Int) - 1 := by
                have e1 : y = x.p - 1 := by
                  rw [HY.out]
                  unfold mulTo
                  rw [List.take_of_length_le (by rw [HFL.out]; omega), HFX.out.prod, Nat.mod_eq_of_lt (by rw [HXX.out.1]; omega)]
                rw [HXX.out.1] at e1
                omega
              obtain ⟨Y, hY⟩ : ∃ Y : Int, (y : Int) = Y := ⟨_, rfl⟩
              rw [hY] at e ⊢
              subst e
              clear HY hY
              go_wp2
              go_ret
              exact ⟨by simp, bb hBV (bb hb1 (bb hb3 (bb hb4 (bb hb45 hB))))⟩
end Go.Proofs.YtikmopnadmgilaaGreat

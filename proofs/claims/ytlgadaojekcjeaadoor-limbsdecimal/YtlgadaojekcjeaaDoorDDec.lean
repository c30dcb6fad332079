/-
  The document's Decimal.
-/
import Derived.Test.YtlgadaojekcjeaaDoorDecQ
import Derived.Test.YtlgadaojekcjeaaDoorBPow
namespace Go.Proofs.YtlgadaojekcjeaaDoor
open Go.RowKit

theorem info5 : ∃ i, Tryd.prog.info? 5 = some i ∧ i.zero = some (.int .u8 0) ∧ i.size = 1 ∧ i.bytes = 1 := by
  have h : (Tryd.prog.info? 5).map (fun i => (i.zero, i.size, i.bytes)) = some (some (.int .u8 0), 1, 1) := by kernel_rfl
  cases hq : Tryd.prog.info? 5 with
  | none => rw [hq] at h; cases h
  | some i =>
    rw [hq] at h
    simp at h
    exact ⟨i, rfl, h.1, h.2.1, h.2.2⟩
theorem hid {p : Prop} (h : p) : Hid p := h

set_option maxHeartbeats 2000000 in
set_option maxRecDepth 100000 in
theorem ddec_walk (V : Nat) (D : List UInt8) (hV : Hid (V < 2 ^ 256)) (HD : Hid (D = Lib.decDigits V)) (w : World) : Calls Tryd.prog 32 #[.agg (bv V.testBit)] w fun e w' => e = .returned (.string ⟨D.toArray⟩) ∧ Below w.heap.size w w' := by
  go_enter Tryd.func32, Tryd.ntmps32
  go_wp2_with fail
  go_loopg [3, 4] 256 (fun g v i wr => ∃ (k n gb cap X : Nat), k ≤ 256 ∧ k = g ∧ v = .slice (some ⟨gb, 0, none⟩) n cap ∧ i = .int .i64 ((k : Int) - 1) ∧ 1 ≤ n ∧ n + k ≤ 257 ∧ Blk wr w.heap.size V.testBit ∧ wr.ownsRow (w.heap.size + 1) 5 1 v n (row X n) ∧ Below w.heap.size w wr ∧ Hid (X = V / 2 ^ k) ∧ Hid (Fits X n))
  case atStart =>
    refine ⟨256, 1, w.heap.size + 1, 1, 0, by omega, rfl, rfl, rfl, by omega, by omega, (Blk.new w _).old _, ?_, ((Below.refl _ _).alloc (Nat.le_refl _) _).alloc (by simp) _, ?_, fits_one⟩
    · refine ⟨by simp [row], .inr ⟨w.heap.size + 1, 1, #[.int .u8 0], rfl, Nat.le_refl _, ?_, by omega, by decide, rfl, ?_⟩⟩
      · have := _root_.Go.heap_alloc_new (w.alloc (.cells (bv V.testBit) 27)) (.cells #[.int .u8 0] 5)
        simpa using this
      · simp [row]
    · show 0 = V / 2 ^ 256
      rw [Nat.div_eq_of_lt hV.out]
  case round =>
    obtain ⟨k, n, gb, cap, X, hk, rfl, rfl, rfl, hn1, hnk, hA, hO, hW, HX, HF⟩ := hrel
    by_cases hk0 : k = 0
    · subst hk0
      clear hA
      go_wp2_with fail
      go_loopg [8, 47] n (fun g t i wr => ∃ (m : Nat) (T : List UInt8), m ≤ n ∧ g = n - m ∧ t = .string ⟨T.toArray⟩ ∧ i = .int .i64 m ∧ T.length = m ∧ wr.ownsRow (w.heap.size + 1) 5 1 (.slice (some ⟨gb, 0, none⟩) n cap) n (row X n) ∧ Below w.heap.size w wr ∧ Hid ((m < n → Lib.decDigits X = Lib.decDigits (X / 10 ^ m) ++ T) ∧ (m = n → Lib.decDigits X = T)))
      case atStart => exact ⟨0, [], by omega, rfl, rfl, rfl, rfl, hO, hW, ⟨fun _ => by simp, fun h => by omega⟩⟩
      case round =>
        clear hO hW
        obtain ⟨m, T, hm, rfl, rfl, rfl, hTl, hO, hW, HT⟩ := hrel
        have hTl2 : T.length ≤ 257 := by omega
        obtain ⟨hgb, hgw⟩ := hO.lt gb rfl
        by_cases hlt : m < n
        · have hlti : (m : Int) < n := by omega
          obtain ⟨d, hd⟩ : ∃ d, d = X / 10 ^ m % 10 := ⟨_, rfl⟩
          have d9 : d ≤ 9 := by omega
          have cl : wr.cell? ⟨gb, m, none⟩ = some (.int .u8 (d : Int)) := (hO.cellAt m (by omega)).trans (by rw [row_get _ _ _ hlt, ← hd])
          have hd0 : (0 : Int) ≤ d := by omega
          have hd9 : (d : Int) ≤ 9 := by omega
          have HD2 := hid hd
          clear hd
          obtain ⟨ub, hub⟩ : ∃ ub, ub = UInt8.ofNat (48 + d) := ⟨_, rfl⟩
          have hu : (ub.toNat : Int) = 48 + (d : Int) := by
            rw [hub, UInt8.toNat_ofNat']
            omega
          have HU := hid hub
          clear hub
          have cv : (convert 67 9 (.slice (some ⟨wr.heap.size, 0, none⟩) 1 1)).run Tryd.prog (wr.alloc (.cells #[.int .u8 (48 + (d : Int))] 5)) = .ok (.string ⟨[ub].toArray⟩) (wr.alloc (.cells #[.int .u8 (48 + (d : Int))] 5)) :=
            run_convert_bytes_back (P := Tryd.prog) (wr.alloc (.cells #[.int .u8 (48 + (d : Int))] 5)) 67 9 5 ⟨wr.heap.size, 0, none⟩ 1 [ub] Tryd.underlying67 Tryd.underlying5 Tryd.underlying9 (fun q hq => by
              have hq0 : q = 0 := by simp at hq; exact hq
              subst hq0
              simp only [List.getElem_cons_zero]
              rw [hu]
              simp [Addr.add, go_sem])
          have HO := hid (hO.alloc (.cells #[.int .u8 (48 + (d : Int))] 5))
          have HW := hid (hW.alloc hW.size (.cells #[.int .u8 (48 + (d : Int))] 5))
          clear hu
          go_wp2
          go_roundg (n - (m + 1))
          case measure => omega
          case rel =>
            refine ⟨m + 1, ub :: T, by omega, rfl, ?_, by go_num, by simp [hTl], HO.out, HW.out, ?_⟩
            · exact congrArg Value.string (Plain.bytes_append [ub] T)
            · refine ⟨fun h => ?_, fun h => ?_⟩
              · rw [HU.out, HD2.out]; exact dec_step HF.out h (HT.out.1 hlt)
              · rw [HU.out, HD2.out]; exact dec_last HF.out h (HT.out.1 hlt)
        · obtain rfl : m = n := by omega
          have e : T = D := by
            have h1 := HT.out.2 rfl
            rw [HX.out, Nat.pow_zero, Nat.div_one, ← HD.out] at h1
            exact h1.symm
          subst e
          go_wp2
          go_ret
          exact ⟨rfl, hW⟩
    · obtain ⟨j, rfl⟩ : ∃ j, k = j + 1 := ⟨k - 1, by omega⟩
      rw [show (((j + 1 : Nat) : Int) - 1) = (j : Int) by omega]
      have a1 := hA.cell j (by omega)
      have hj0 : (0 : Int) ≤ j := by omega
      have hj1 : (j : Int) < 256 := by omega
      obtain ⟨b, hb⟩ : ∃ b, V.testBit j = b := ⟨_, rfl⟩
      rw [hb] at a1
      have HB : Hid (V.testBit j = b) := hb
      clear hb
      cases b
      · have HY : Hid (2 * X + 0 = V / 2 ^ j) := by
          show _ = _
          have e1 : V / 2 ^ (j + 1) = V / 2 ^ j / 2 := by rw [Nat.pow_succ, Nat.div_div_eq_div_mul]
          have e2 := HB.out
          rw [Nat.testBit_eq_decide_div_mod_eq] at e2
          simp at e2
          rw [HX.out, e1]
          omega
        go_wp2_with fail
        go_loopg [5, 21] n (fun g c i wr => ∃ m : Nat, m ≤ n ∧ g = n - m ∧ c = .int .u8 (carry X 0 m : Nat) ∧ i = .int .i64 m ∧ Blk wr w.heap.size V.testBit ∧ wr.ownsRow (w.heap.size + 1) 5 1 (.slice (some ⟨gb, 0, none⟩) n cap) n (rowk X (2 * X + 0) n m) ∧ Below w.heap.size w wr)
        case atStart => exact ⟨0, by omega, rfl, by rw [carry_zero]; rfl, rfl, hA, by rw [rowk_zero]; exact hO, hW⟩
        case round =>
          clear a1 hA hO hW
          obtain ⟨m, hm, rfl, rfl, rfl, hA, hO, hW⟩ := hrel
          obtain ⟨hgb, hgw⟩ := hO.lt gb rfl
          have c1 := carry_le X 0 m (by omega)
          by_cases hlt : m < n
          · have hlti : (m : Int) < n := by omega
            obtain ⟨d, hd⟩ : ∃ d, d = X / 10 ^ m % 10 := ⟨_, rfl⟩
            have q1 : (2 * d + carry X 0 m) % 10 = (2 * X + 0) / 10 ^ m % 10 := by rw [hd]; exact carry_rem X 0 m
            have q2 : (2 * d + carry X 0 m) / 10 = carry X 0 (m + 1) := by rw [hd]; exact carry_quo X 0 m
            have d9 : d ≤ 9 := by omega
            have cl : wr.cell? ⟨gb, m, none⟩ = some (.int .u8 (d : Int)) := (hO.cellAt m (by omega)).trans (by rw [rowk_get _ _ _ _ hlt, ← hd])
            have fr := hO.frozenAt m
            have hd0 : (0 : Int) ≤ d := by omega
            have hd9 : (d : Int) ≤ 9 := by omega
            obtain ⟨c, hc⟩ : ∃ c, c = carry X 0 m := ⟨_, rfl⟩
            rw [← hc] at q1 q2 c1
            simp only [← hc]
            have hc0 : (0 : Int) ≤ c := by omega
            have hc1 : (c : Int) ≤ 1 := by omega
            have u1 : (2 * (d : Int) + (c : Int)) % 10 = (((2 * X + 0) / 10 ^ m % 10 : Nat) : Int) := by rw [← q1]; omega
            have u2 : (2 * (d : Int) + (c : Int)) / 10 = ((carry X 0 (m + 1) : Nat) : Int) := by rw [← q2]; omega
            have hS := (hO.stored m (.int .u8 ((2 * (d : Int) + (c : Int)) % 10))).1
            rw [u1, rowk_set _ _ _ _ hlt] at hS
            have HS := hid hS
            have U1 := hid u1
            have U2 := hid u2
            clear hS u1 u2 q1 q2 hc hd
            go_wp2
            go_roundg (n - (m + 1))
            case measure => omega
            case rel =>
              refine ⟨m + 1, by omega, rfl, ?_, by go_num, hA.other _ _ (by show _ ≠ gb; omega), ?_, hW.setCell (by show _ ≤ gb; omega) _⟩
              · rw [U2.out]
              · rw [U1.out]; exact HS.out
          · obtain rfl : m = n := by omega
            have hce := carry_end X 0 m HF.out.1
            rw [rowk_end] at hO
            rcases Nat.eq_zero_or_pos (carry X 0 m) with hz | hz
            · have HF2 : Hid (Fits (2 * X + 0) m) := fits_same HF.out (by rw [← hce]; exact hz)
              simp only [hz]
              clear hce hz c1
              go_wp2
              go_roundg j
              case measure => omega
              case rel => exact ⟨j, m, gb, cap, 2 * X + 0, by omega, rfl, rfl, by go_num, hn1, by omega, hA, hO, hW, HY, HF2⟩
            · have h1 : carry X 0 m = 1 := by omega
              have HF2 : Hid (Fits (2 * X + 0) (m + 1)) := fits_more HF.out hn1 (by omega) (by rw [← hce]; omega)
              have hrow : row (2 * X + 0) m ++ [.int .u8 1] = row (2 * X + 0) (m + 1) := by
                have := row_more (2 * X + 0) m (by rw [← hce]; omega)
                rw [← hce, h1] at this
                exact this
              have HRW := hid hrow
              simp only [h1]
              clear hce hz c1 h1 hrow
              obtain ⟨ti, hi, hz0, hz1, hz2⟩ := info5
              have hnews : ∀ (q : Nat) (u : Value), [Value.int .u8 1][q]? = some u → (wr.alloc (.cells #[.int .u8 1] 5)).cell? ((⟨wr.heap.size, 0, none⟩ : Addr).add q) = some u := by
                intro q u hq
                cases q with
                | zero =>
                  simp at hq
                  subst hq
                  simp [Addr.add, go_sem]
                | succ q => simp at hq
              have hO2 := hO.alloc (.cells #[.int .u8 1] 5)
              go_wp2_with (at_builtin; refine Hid.out ?_)
              unfold Hid
              refine (wpList_append_own _ rfl _ _ 67 rfl (w.heap.size + 1) 5 ti (.int .u8 0) 1 1 Tryd.underlying67 hi hz0 hz1 hz2 rfl (by omega) _ m _ rfl hO2 _ 1 1 [.int .u8 1] rfl rfl hnews (by simp [Value.oneCell']) (by have : (1000 : Nat) ≤ maxLen := (by decide); omega) (by omega) (by simp; omega) ?_)
              intro v' w2 hO3 hG _hN
              rw [HRW.out] at hO3
              obtain ⟨g2, cap2, hv⟩ : ∃ g2 cap2, v' = .slice (some ⟨g2, 0, none⟩) (m + 1) cap2 := by
                rcases hO3.2 with ⟨_, h⟩ | ⟨g2, cap2, _, h, _⟩
                · omega
                · exact ⟨g2, cap2, h⟩
              subst hv
              have hzw : (wr.alloc (.cells #[.int .u8 1] 5)).heap.size = wr.heap.size + 1 := by simp
              have hA2 : Blk w2 w.heap.size V.testBit := (hG.block w.heap.size (by rw [hzw]; omega) (by show some w.heap.size ≠ some gb; intro e; cases e; omega)).trans (hA.old _)
              have hW1 : Below w.heap.size w (wr.alloc (.cells #[.int .u8 1] 5)) := hW.alloc hW.size _
              have hW2 : Below w.heap.size w w2 := ⟨hG.os.trans hW1.os, hG.tape.trans hW1.tape, hG.output.trans hW1.output, Nat.le_trans hW1.size hG.size, fun q hq => (hG.block q (Nat.lt_of_lt_of_le hq hW1.size) (by show some q ≠ some gb; intro e; cases e; omega)).trans (hW1.block q hq)⟩
              clear hA hO hO2 hW hW1 hG hnews hi hz0 hz1 hz2 hzw
              go_wp2
              go_roundg j
              case measure => omega
              case rel => exact ⟨j, m + 1, g2, cap2, 2 * X + 0, by omega, rfl, rfl, by go_num, by omega, by omega, hA2, hO3, hW2, HY, HF2⟩
      · have HY : Hid (2 * X + 1 = V / 2 ^ j) := by
          show _ = _
          have e1 : V / 2 ^ (j + 1) = V / 2 ^ j / 2 := by rw [Nat.pow_succ, Nat.div_div_eq_div_mul]
          have e2 := HB.out
          rw [Nat.testBit_eq_decide_div_mod_eq] at e2
          simp at e2
          rw [HX.out, e1]
          omega
        go_wp2_with fail
        go_loopg [5, 21] n (fun g c i wr => ∃ m : Nat, m ≤ n ∧ g = n - m ∧ c = .int .u8 (carry X 1 m : Nat) ∧ i = .int .i64 m ∧ Blk wr w.heap.size V.testBit ∧ wr.ownsRow (w.heap.size + 1) 5 1 (.slice (some ⟨gb, 0, none⟩) n cap) n (rowk X (2 * X + 1) n m) ∧ Below w.heap.size w wr)
        case atStart => exact ⟨0, by omega, rfl, by rw [carry_zero]; rfl, rfl, hA, by rw [rowk_zero]; exact hO, hW⟩
        case round =>
          clear a1 hA hO hW
          obtain ⟨m, hm, rfl, rfl, rfl, hA, hO, hW⟩ := hrel
          obtain ⟨hgb, hgw⟩ := hO.lt gb rfl
          have c1 := carry_le X 1 m (by omega)
          by_cases hlt : m < n
          · have hlti : (m : Int) < n := by omega
            obtain ⟨d, hd⟩ : ∃ d, d = X / 10 ^ m % 10 := ⟨_, rfl⟩
            have q1 : (2 * d + carry X 1 m) % 10 = (2 * X + 1) / 10 ^ m % 10 := by rw [hd]; exact carry_rem X 1 m
            have q2 : (2 * d + carry X 1 m) / 10 = carry X 1 (m + 1) := by rw [hd]; exact carry_quo X 1 m
            have d9 : d ≤ 9 := by omega
            have cl : wr.cell? ⟨gb, m, none⟩ = some (.int .u8 (d : Int)) := (hO.cellAt m (by omega)).trans (by rw [rowk_get _ _ _ _ hlt, ← hd])
            have fr := hO.frozenAt m
            have hd0 : (0 : Int) ≤ d := by omega
            have hd9 : (d : Int) ≤ 9 := by omega
            obtain ⟨c, hc⟩ : ∃ c, c = carry X 1 m := ⟨_, rfl⟩
            rw [← hc] at q1 q2 c1
            simp only [← hc]
            have hc0 : (0 : Int) ≤ c := by omega
            have hc1 : (c : Int) ≤ 1 := by omega
            have u1 : (2 * (d : Int) + (c : Int)) % 10 = (((2 * X + 1) / 10 ^ m % 10 : Nat) : Int) := by rw [← q1]; omega
            have u2 : (2 * (d : Int) + (c : Int)) / 10 = ((carry X 1 (m + 1) : Nat) : Int) := by rw [← q2]; omega
            have hS := (hO.stored m (.int .u8 ((2 * (d : Int) + (c : Int)) % 10))).1
            rw [u1, rowk_set _ _ _ _ hlt] at hS
            have HS := hid hS
            have U1 := hid u1
            have U2 := hid u2
            clear hS u1 u2 q1 q2 hc hd
            go_wp2
            go_roundg (n - (m + 1))
            case measure => omega
            case rel =>
              refine ⟨m + 1, by omega, rfl, ?_, by go_num, hA.other _ _ (by show _ ≠ gb; omega), ?_, hW.setCell (by show _ ≤ gb; omega) _⟩
              · rw [U2.out]
              · rw [U1.out]; exact HS.out
          · obtain rfl : m = n := by omega
            have hce := carry_end X 1 m HF.out.1
            rw [rowk_end] at hO
            rcases Nat.eq_zero_or_pos (carry X 1 m) with hz | hz
            · have HF2 : Hid (Fits (2 * X + 1) m) := fits_same HF.out (by rw [← hce]; exact hz)
              simp only [hz]
              clear hce hz c1
              go_wp2
              go_roundg j
              case measure => omega
              case rel => exact ⟨j, m, gb, cap, 2 * X + 1, by omega, rfl, rfl, by go_num, hn1, by omega, hA, hO, hW, HY, HF2⟩
            · have h1 : carry X 1 m = 1 := by omega
              have HF2 : Hid (Fits (2 * X + 1) (m + 1)) := fits_more HF.out hn1 (by omega) (by rw [← hce]; omega)
              have hrow : row (2 * X + 1) m ++ [.int .u8 1] = row (2 * X + 1) (m + 1) := by
                have := row_more (2 * X + 1) m (by rw [← hce]; omega)
                rw [← hce, h1] at this
                exact this
              have HRW := hid hrow
              simp only [h1]
              clear hce hz c1 h1 hrow
              obtain ⟨ti, hi, hz0, hz1, hz2⟩ := info5
              have hnews : ∀ (q : Nat) (u : Value), [Value.int .u8 1][q]? = some u → (wr.alloc (.cells #[.int .u8 1] 5)).cell? ((⟨wr.heap.size, 0, none⟩ : Addr).add q) = some u := by
                intro q u hq
                cases q with
                | zero =>
                  simp at hq
                  subst hq
                  simp [Addr.add, go_sem]
                | succ q => simp at hq
              have hO2 := hO.alloc (.cells #[.int .u8 1] 5)
              go_wp2_with (at_builtin; refine Hid.out ?_)
              unfold Hid
              refine (wpList_append_own _ rfl _ _ 67 rfl (w.heap.size + 1) 5 ti (.int .u8 0) 1 1 Tryd.underlying67 hi hz0 hz1 hz2 rfl (by omega) _ m _ rfl hO2 _ 1 1 [.int .u8 1] rfl rfl hnews (by simp [Value.oneCell']) (by have : (1000 : Nat) ≤ maxLen := (by decide); omega) (by omega) (by simp; omega) ?_)
              intro v' w2 hO3 hG _hN
              rw [HRW.out] at hO3
              obtain ⟨g2, cap2, hv⟩ : ∃ g2 cap2, v' = .slice (some ⟨g2, 0, none⟩) (m + 1) cap2 := by
                rcases hO3.2 with ⟨_, h⟩ | ⟨g2, cap2, _, h, _⟩
                · omega
                · exact ⟨g2, cap2, h⟩
              subst hv
              have hzw : (wr.alloc (.cells #[.int .u8 1] 5)).heap.size = wr.heap.size + 1 := by simp
              have hA2 : Blk w2 w.heap.size V.testBit := (hG.block w.heap.size (by rw [hzw]; omega) (by show some w.heap.size ≠ some gb; intro e; cases e; omega)).trans (hA.old _)
              have hW1 : Below w.heap.size w (wr.alloc (.cells #[.int .u8 1] 5)) := hW.alloc hW.size _
              have hW2 : Below w.heap.size w w2 := ⟨hG.os.trans hW1.os, hG.tape.trans hW1.tape, hG.output.trans hW1.output, Nat.le_trans hW1.size hG.size, fun q hq => (hG.block q (Nat.lt_of_lt_of_le hq hW1.size) (by show some q ≠ some gb; intro e; cases e; omega)).trans (hW1.block q hq)⟩
              clear hA hO hO2 hW hW1 hG hnews hi hz0 hz1 hz2 hzw
              go_wp2
              go_roundg j
              case measure => omega
              case rel => exact ⟨j, m + 1, g2, cap2, 2 * X + 1, by omega, rfl, rfl, by go_num, by omega, by omega, hA2, hO3, hW2, HY, HF2⟩
end Go.Proofs.YtlgadaojekcjeaaDoor

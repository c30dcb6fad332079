/-
  The statement MixedParts: true, of all sources, lists and numbers. No condition but that the program's four factors lie there.
-/
import Derived.Test.YtkemlbjcfbnfiaaGreatDoorMoM
namespace Go.Proofs.YtkemlbjcfbnfiaaGreatDoor
set_option linter.unusedVariables false
open Go.RowKit

set_option maxRecDepth 100000 in
set_option maxHeartbeats 4000000 in
theorem pt_none (W : World) (kind z q : Int) (A : Option Addr) (L C : Nat) (hG : FacG W) (B : Option Addr) (n D : Nat) (r : Int) (hlen : (n : Int) ≤ 9223372036854775807) (HM : AnsB W 8 #[srcV kind z q A L C] noV) : AnsB W 6 #[srcV kind z q A L C, .slice B n D, .int .i64 r] (.bool true) := by
  intro w hw
  obtain ⟨t0, t1, t2, t3⟩ := four_cells w (.int .i64 kind) (.int .i64 z) (.int .u64 q) (.slice A L C) 25
  obtain ⟨V, hV⟩ : ∃ V, w.alloc (.cells #[.int .i64 kind, .int .i64 z, .int .u64 q, .slice A L C] 25) = V := ⟨_, rfl⟩
  have hBV : Below w.heap.size w V := hV ▸ below_alloc _ _
  obtain ⟨bo, hbo⟩ : ∃ bo, w.heap.size = bo := ⟨_, rfl⟩
  have hVs : bo < V.heap.size := by rw [← hV, ← hbo]; simp
  rw [hV, hbo] at t0 t1 t2 t3
  have hWV := bb hw hBV
  go_enter Tryz.func6, Tryz.ntmps6
  go_wp2_with (first
    | (go_at_call 7; with_reducible refine AnsB.use (alive14 _ hG) hWV fun w1 hb1 => ?_; have s0 := keep_cell hb1 hVs t0; have s1 := keep_cell hb1 hVs t1; have s2 := keep_cell hb1 hVs t2; have s3 := keep_cell hb1 hVs t3; have hW1 := bb hWV hb1)
    | (go_at_call 8; with_reducible refine AnsB.use HM hW1 fun w2 hb2 => ?_; have hW2 := bb hW1 hb2))
  go_ret
  exact ⟨rfl, bb hBV (bb hb1 hb2)⟩
set_option maxRecDepth 100000 in
set_option maxHeartbeats 4000000 in
theorem pt_less (W : World) (kind z q : Int) (A : Option Addr) (L C : Nat) (hG : FacG W) (B : Option Addr) (n D : Nat) (r : Int) (hlen : (n : Int) ≤ 9223372036854775807) (p g : Nat) (x : En) (p0 : 2 < p) (p1 : p < 9223372036854775808) (pz : ((p : Int) == 0) = false) (HM : Made W (srcV kind z q A L C) (p : Int) (g : Int) x) (h : r < 1) (hd : decide (r < 1) = true) : AnsB W 6 #[srcV kind z q A L C, .slice B n D, .int .i64 r] (.bool true) := by
  intro w hw
  obtain ⟨t0, t1, t2, t3⟩ := four_cells w (.int .i64 kind) (.int .i64 z) (.int .u64 q) (.slice A L C) 25
  obtain ⟨V, hV⟩ : ∃ V, w.alloc (.cells #[.int .i64 kind, .int .i64 z, .int .u64 q, .slice A L C] 25) = V := ⟨_, rfl⟩
  have hBV : Below w.heap.size w V := hV ▸ below_alloc _ _
  obtain ⟨bo, hbo⟩ : ∃ bo, w.heap.size = bo := ⟨_, rfl⟩
  have hVs : bo < V.heap.size := by rw [← hV, ← hbo]; simp
  rw [hV, hbo] at t0 t1 t2 t3
  have hWV := bb hw hBV
  go_enter Tryz.func6, Tryz.ntmps6
  go_wp2_with (first
    | (go_at_call 7; with_reducible refine AnsB.use (alive14 _ hG) hWV fun w1 hb1 => ?_; have s0 := keep_cell hb1 hVs t0; have s1 := keep_cell hb1 hVs t1; have s2 := keep_cell hb1 hVs t2; have s3 := keep_cell hb1 hVs t3; have hW1 := bb hWV hb1)
    | (go_at_call 8; with_reducible refine Made.use HM hW1 fun fb w2 hF hb2 => ?_; have hW2 := bb hW1 hb2))
  go_ret
  exact ⟨rfl, bb hBV (bb hb1 hb2)⟩
set_option maxRecDepth 100000 in
set_option maxHeartbeats 4000000 in
theorem pt_more (W : World) (kind z q : Int) (A : Option Addr) (L C : Nat) (hG : FacG W) (B : Option Addr) (n D : Nat) (r : Int) (hlen : (n : Int) ≤ 9223372036854775807) (p g : Nat) (x : En) (p0 : 2 < p) (p1 : p < 9223372036854775808) (pz : ((p : Int) == 0) = false) (HM : Made W (srcV kind z q A L C) (p : Int) (g : Int) x) (h : 7 < r) (hd1 : decide (r < 1) = false) (hd : decide (7 < r) = true) : AnsB W 6 #[srcV kind z q A L C, .slice B n D, .int .i64 r] (.bool true) := by
  intro w hw
  obtain ⟨t0, t1, t2, t3⟩ := four_cells w (.int .i64 kind) (.int .i64 z) (.int .u64 q) (.slice A L C) 25
  obtain ⟨V, hV⟩ : ∃ V, w.alloc (.cells #[.int .i64 kind, .int .i64 z, .int .u64 q, .slice A L C] 25) = V := ⟨_, rfl⟩
  have hBV : Below w.heap.size w V := hV ▸ below_alloc _ _
  obtain ⟨bo, hbo⟩ : ∃ bo, w.heap.size = bo := ⟨_, rfl⟩
  have hVs : bo < V.heap.size := by rw [← hV, ← hbo]; simp
  rw [hV, hbo] at t0 t1 t2 t3
  have hWV := bb hw hBV
  go_enter Tryz.func6, Tryz.ntmps6
  go_wp2_with (first
    | (go_at_call 7; with_reducible refine AnsB.use (alive14 _ hG) hWV fun w1 hb1 => ?_; have s0 := keep_cell hb1 hVs t0; have s1 := keep_cell hb1 hVs t1; have s2 := keep_cell hb1 hVs t2; have s3 := keep_cell hb1 hVs t3; have hW1 := bb hWV hb1)
    | (go_at_call 8; with_reducible refine Made.use HM hW1 fun fb w2 hF hb2 => ?_; have hW2 := bb hW1 hb2))
  go_ret
  exact ⟨rfl, bb hBV (bb hb1 hb2)⟩
set_option maxRecDepth 100000 in
set_option maxHeartbeats 4000000 in
theorem pt_long (W : World) (kind z q : Int) (A : Option Addr) (L C : Nat) (hG : FacG W) (B : Option Addr) (n D : Nat) (r : Int) (hlen : (n : Int) ≤ 9223372036854775807) (p g : Nat) (x : En) (p0 : 2 < p) (p1 : p < 9223372036854775808) (pz : ((p : Int) == 0) = false) (HM : Made W (srcV kind z q A L C) (p : Int) (g : Int) x) (hd1 : decide (r < 1) = false) (hd2 : decide (7 < r) = false) (h : 240 < (n : Int)) (hd : decide ((240 : Int) < (n : Int)) = true) : AnsB W 6 #[srcV kind z q A L C, .slice B n D, .int .i64 r] (.bool true) := by
  intro w hw
  obtain ⟨t0, t1, t2, t3⟩ := four_cells w (.int .i64 kind) (.int .i64 z) (.int .u64 q) (.slice A L C) 25
  obtain ⟨V, hV⟩ : ∃ V, w.alloc (.cells #[.int .i64 kind, .int .i64 z, .int .u64 q, .slice A L C] 25) = V := ⟨_, rfl⟩
  have hBV : Below w.heap.size w V := hV ▸ below_alloc _ _
  obtain ⟨bo, hbo⟩ : ∃ bo, w.heap.size = bo := ⟨_, rfl⟩
  have hVs : bo < V.heap.size := by rw [← hV, ← hbo]; simp
  rw [hV, hbo] at t0 t1 t2 t3
  have hWV := bb hw hBV
  go_enter Tryz.func6, Tryz.ntmps6
  go_wp2_with (first
    | (go_at_call 7; with_reducible refine AnsB.use (alive14 _ hG) hWV fun w1 hb1 => ?_; have s0 := keep_cell hb1 hVs t0; have s1 := keep_cell hb1 hVs t1; have s2 := keep_cell hb1 hVs t2; have s3 := keep_cell hb1 hVs t3; have hW1 := bb hWV hb1)
    | (go_at_call 8; with_reducible refine Made.use HM hW1 fun fb w2 hF hb2 => ?_; have hW2 := bb hW1 hb2))
  go_ret
  exact ⟨rfl, bb hBV (bb hb1 hb2)⟩
set_option maxRecDepth 100000 in
set_option maxHeartbeats 4000000 in
theorem pt_err (W : World) (kind z q : Int) (A : Option Addr) (L C : Nat) (hG : FacG W) (B : Option Addr) (n D : Nat) (r : Int) (hlen : (n : Int) ≤ 9223372036854775807) (p g : Nat) (x : En) (p0 : 2 < p) (p1 : p < 9223372036854775808) (pz : ((p : Int) == 0) = false) (HM : Made W (srcV kind z q A L C) (p : Int) (g : Int) x) (hd1 : decide (r < 1) = false) (hd2 : decide (7 < r) = false) (h : (n : Int) ≤ 240) (hd : decide ((240 : Int) < (n : Int)) = false) (e : Int) (he : (e != 0) = true)
    (HFA : ∀ w, Below W.heap.size W w → AnsB w 11 #[.int .u64 (p : Int), .slice B n D] (.int .i64 e)) : AnsB W 6 #[srcV kind z q A L C, .slice B n D, .int .i64 r] (.bool true) := by
  intro w hw
  obtain ⟨t0, t1, t2, t3⟩ := four_cells w (.int .i64 kind) (.int .i64 z) (.int .u64 q) (.slice A L C) 25
  obtain ⟨V, hV⟩ : ∃ V, w.alloc (.cells #[.int .i64 kind, .int .i64 z, .int .u64 q, .slice A L C] 25) = V := ⟨_, rfl⟩
  have hBV : Below w.heap.size w V := hV ▸ below_alloc _ _
  obtain ⟨bo, hbo⟩ : ∃ bo, w.heap.size = bo := ⟨_, rfl⟩
  have hVs : bo < V.heap.size := by rw [← hV, ← hbo]; simp
  rw [hV, hbo] at t0 t1 t2 t3
  have hWV := bb hw hBV
  go_enter Tryz.func6, Tryz.ntmps6
  go_wp2_with (first
    | (go_at_call 7; with_reducible refine AnsB.use (alive14 _ hG) hWV fun w1 hb1 => ?_; have s0 := keep_cell hb1 hVs t0; have s1 := keep_cell hb1 hVs t1; have s2 := keep_cell hb1 hVs t2; have s3 := keep_cell hb1 hVs t3; have hW1 := bb hWV hb1)
    | (go_at_call 8; with_reducible refine Made.use HM hW1 fun fb w2 hF hb2 => ?_; have hW2 := bb hW1 hb2; have HG2 := HFA w2 hW2)
    | (go_at_call 11; with_reducible refine AnsB.use HG2 (Below.refl _ _) fun w7 hb7 => ?_; have hW7 := bb hW2 hb7))
  go_ret
  exact ⟨rfl, bb hBV (bb hb1 (bb hb2 hb7))⟩
set_option maxRecDepth 100000 in
set_option maxHeartbeats 4000000 in
theorem pt_wide (W : World) (kind z q : Int) (A : Option Addr) (L C : Nat) (hG : FacG W) (p g : Nat) (x : En) (p0 : 2 < p) (p1 : p < 9223372036854775808) (pz : ((p : Int) == 0) = false) (HM : Made W (srcV kind z q A L C) (p : Int) (g : Int) x) (bx ox n D r m : Nat) (xs : List Nat) (hX : UAt W (some ⟨bx, ox, none⟩) D xs) (hxl : xs.length = n) (h1 : 1 ≤ n) (h240 : n ≤ 240) (hr1 : 1 ≤ r) (hr7 : r ≤ 7) (hm : r * n = m) (e : Int) (he : (e != 0) = true)
    (HFA : ∀ w, Below W.heap.size W w → AnsB w 11 #[.int .u64 (p : Int), .slice (some ⟨bx, ox, none⟩) n D] (.int .i64 0))
    (HFW : ∀ w A C, Below W.heap.size W w → UAt w A C (spr r xs) → AnsB w 11 #[.int .u64 (p : Int), .slice A m C] (.int .i64 e)) : AnsB W 6 #[srcV kind z q A L C, .slice (some ⟨bx, ox, none⟩) n D, .int .i64 (r : Int)] (.bool true) := by
  intro w hw
  obtain ⟨t0, t1, t2, t3⟩ := four_cells w (.int .i64 kind) (.int .i64 z) (.int .u64 q) (.slice A L C) 25
  obtain ⟨V, hV⟩ : ∃ V, w.alloc (.cells #[.int .i64 kind, .int .i64 z, .int .u64 q, .slice A L C] 25) = V := ⟨_, rfl⟩
  have hBV : Below w.heap.size w V := hV ▸ below_alloc _ _
  obtain ⟨bo, hbo⟩ : ∃ bo, w.heap.size = bo := ⟨_, rfl⟩
  have hVs : bo < V.heap.size := by rw [← hV, ← hbo]; simp
  rw [hV, hbo] at t0 t1 t2 t3
  have hWV := bb hw hBV
  obtain ⟨ii, hii, hzi, hsi, hbi⟩ := info_parts infoWd
  have hm16 : m ≤ 1680 := by rw [← hm]; exact Nat.mul_le_mul hr7 h240
  have hm1 : 1 ≤ m := by rw [← hm]; exact Nat.mul_pos hr1 h1
  have HN : Hid (1 ≤ n) := h1
  have HNM : Hid (1 ≤ n ∧ n ≤ 240 ∧ 1 ≤ r ∧ r ≤ 7 ∧ r * n = m ∧ m ≤ 1680 ∧ 1 ≤ m) := ⟨h1, h240, hr1, hr7, hm, hm16, hm1⟩
  have HXL : Hid (xs.length = n) := hxl
  have HX := (show Hid _ from hX)
  have HFW' := (show Hid _ from HFW)
  have g1' : ¬ (r : Int) < 1 := by omega
  have g2' : ¬ (7 : Int) < (r : Int) := by omega
  have g3' : ¬ (240 : Int) < (n : Int) := by omega
  have hlen : (n : Int) ≤ 9223372036854775807 := by omega
  have hd1 : decide ((r : Int) < 1) = false := decide_eq_false g1'
  have hd2 : decide ((7 : Int) < (r : Int)) = false := decide_eq_false g2'
  have hd3 : decide ((240 : Int) < (n : Int)) = false := decide_eq_false g3'
  have wm1 : wrap64 ((r : Int) * (n : Int)) = (m : Int) := (mulI' hm (Nat.le_trans hm16 (by decide))).1
  have wm2 : IntKind.i64.wrap ((r : Int) * (n : Int)) = (m : Int) := (mulI' hm (Nat.le_trans hm16 (by decide))).2
  clear HFW h1 h240 hr1 hr7 hm hm16 hm1 hxl hX
  go_enter Tryz.func6, Tryz.ntmps6
  go_wp2_with (first
    | (go_at_call 7; with_reducible refine AnsB.use (alive14 _ hG) hWV fun w1 hb1 => ?_; have s0 := keep_cell hb1 hVs t0; have s1 := keep_cell hb1 hVs t1; have s2 := keep_cell hb1 hVs t2; have s3 := keep_cell hb1 hVs t3; have hW1 := bb hWV hb1)
    | (go_at_call 8; with_reducible refine Made.use HM hW1 fun fb w2 hF hb2 => ?_; have hW2 := bb hW1 hb2; have HG2 := HFA w2 hW2)
    | (go_at_call 11; with_reducible refine AnsB.use HG2 (Below.refl _ _) fun w7 hb7 => ?_; have hW7 := bb hW2 hb7)
    | (at_make; refine Hid.out ?_))
  unfold Hid
  have HW7 : Hid (Below W.heap.size W w7) := hW7
  have HF7 : Hid (FieldAt w7 fb x) := hF.below hb7
  have HBV : Hid (Below w.heap.size w w7) := bb hBV (bb hb1 (bb hb2 hb7))
  clear hW2 hW7 hF hBV hb1 hb2 hb7 hw hWV hW1 t0 t1 t2 t3 s0 s1 s2 s3 hV HM HG2 HFA
  refine wpList_make_full _ rfl _ _ 26 rfl w7.heap.size 22 ii _ 1 Tryz.underlying26 hii hzi hsi .i64 .i64 (m : Int) (m : Int) m rfl rfl rfl rfl (by have := HNM.out; rw [hbi]; omega) (by have := HNM.out; unfold maxLen; omega) (Nat.le_refl _) ?_
  intro w3 hR hG3
  have hO3 : OwnU w3 w7.heap.size (some ⟨w7.heap.size, 0, none⟩) m (lf m fun _ => 0) := new_own hR
  have HB3 : Hid (Below w7.heap.size w7 w3) := (Below.refl _ _).grown hG3 (Nat.le_refl _) (fun k ek => by cases ek)
  obtain ⟨g1, hg1⟩ : ∃ g, w7.heap.size = g := ⟨_, rfl⟩
  have HG1 : Hid (w7.heap.size = g1) := hg1
  have HO3 : Hid (OwnU w3 g1 (some ⟨g1, 0, none⟩) m (lf m (spF r xs 0))) := by
    unfold Hid
    rw [spF_zero, ← hg1]
    exact hO3
  rw [hg1]
  clear hR hG3 hO3 hg1
  go_wp2
  go_loopw [55] (fun iv wr => ∃ j : Nat, iv = .int .i64 (j : Int) ∧ j ≤ n ∧ Hid (OwnU wr g1 (some ⟨g1, 0, none⟩) m (lf m (spF r xs j))) ∧ Hid (Below w7.heap.size w7 wr)) (fun iv _ => n - (intOf iv).toNat)
  case atStart => exact ⟨0, rfl, by omega, HO3, HB3⟩
  case round =>
    clear HO3 HB3
    obtain ⟨j, rfl, hj, HO, HB⟩ := hrel
    by_cases hlt : j < n
    · obtain ⟨y, hy⟩ : ∃ y, xs[j]? = some y := ⟨_, List.getElem?_eq_getElem (by rw [HXL.out]; exact hlt)⟩
      have c0 := ((HX.out.below (bb HW7.out HB.out)).at hy).1
      obtain ⟨q, hq⟩ : ∃ q, j * r = q := ⟨_, rfl⟩
      have hn := HNM.out
      have hqm : q < m := by
        rw [← hq, ← hn.2.2.2.2.1, Nat.mul_comm r n]
        exact Nat.mul_lt_mul_of_pos_right hlt (by omega)
      obtain ⟨x0, hx0⟩ : ∃ x0, spF r xs j q = x0 := ⟨_, rfl⟩
      obtain ⟨c1, z1⟩ := HO.out.cellF hqm hx0
      have HO6 : Hid (OwnU (wr.setCell ⟨g1, q, none⟩ (.int .u64 (y : Int))) g1 (some ⟨g1, 0, none⟩) m (lf m (spF r xs (j + 1)))) := by
        have := HO.out.set q y
        rw [show y = atL xs j from (atL_of hy).symm, spF_set hn.2.2.1 m xs hq, atL_of hy] at this
        exact this
      have HB6 : Hid (Below w7.heap.size w7 (wr.setCell ⟨g1, q, none⟩ (.int .u64 (y : Int)))) := HB.out.setCell (p := ⟨g1, q, none⟩) (Nat.le_of_eq HG1.out) _
      have hq16 : q ≤ 16777216 := by omega
      have q1 : (j : Int) < (n : Int) := ltI hlt
      have q2 : (q : Int) < (m : Int) := ltI hqm
      have q3 : (n : Int) ≤ 240 := by omega
      obtain ⟨wq1, wq2⟩ := mulI' hq hq16
      clear HO HB hy hx0 hq hn hq16
      go_wp2
      clear wq1 wq2
      go_roundw
      case rel => exact ⟨j + 1, by go_num, by omega, HO6, HB6⟩
      case measure => simp [intOf]; omega
    · obtain rfl : j = n := by omega
      have HA : Hid (UAt wr (some ⟨g1, 0, none⟩) m (spr r xs)) := by
        have h := HO.out
        rw [← HXL.out, ← HNM.out.2.2.2.2.1, ← HXL.out, spF_all HNM.out.2.2.1] at h
        have e : r * xs.length = m := by rw [HXL.out]; exact HNM.out.2.2.2.2.1
        rw [e] at h
        exact OwnU.words h (spr_lt (by decide) HX.out.small)
      have HBr : Hid (Below w7.heap.size w7 wr) := HB.out
      have HFk := HFW'.out wr _ _ (bb HW7.out HBr.out) HA.out
      clear HO HB hlt
      go_wp2_with (go_at_call 11; with_reducible refine AnsB.use HFk (Below.refl _ _) fun w8 hb8 => ?_)
      go_ret
      exact ⟨rfl, bb HBV.out (bb HBr.out hb8)⟩
set_option maxRecDepth 100000 in
set_option maxHeartbeats 4000000 in
theorem pt_yes (W : World) (kind z q : Int) (A : Option Addr) (L C : Nat) (hG : FacG W) (p g : Nat) (x : En) (p0 : 2 < p) (p1 : p < 9223372036854775808) (pz : ((p : Int) == 0) = false) (HM : Made W (srcV kind z q A L C) (p : Int) (g : Int) x) (bx ox n D r m : Nat) (xs : List Nat) (hX : UAt W (some ⟨bx, ox, none⟩) D xs) (hxl : xs.length = n) (h1 : 1 ≤ n) (h240 : n ≤ 240) (hr1 : 1 ≤ r) (hr7 : r ≤ 7) (hm : r * n = m) (ys zs : List Nat) (hyl : ys.length = n) (hzl : zs.length = m) (hys : ∀ y ∈ ys, y < 18446744073709551616) (hzs : ∀ y ∈ zs, y < 18446744073709551616)
    (HFA : ∀ w, Below W.heap.size W w → AnsB w 11 #[.int .u64 (p : Int), .slice (some ⟨bx, ox, none⟩) n D] (.int .i64 0))
    (HFW : ∀ w A C, Below W.heap.size W w → UAt w A C (spr r xs) → AnsB w 11 #[.int .u64 (p : Int), .slice A m C] (.int .i64 0))
    (H1 : (∀ (w : World) (b : Nat) (B : Option Addr) (D : Nat), FieldAt w b x → FacG w → UAt w B D xs → OwnT w 9 #[pt b, .slice B n D, .bool false] ys))
    (H2 : (∀ (w : World) (b : Nat) (B : Option Addr) (D : Nat), FieldAt w b x → FacG w → UAt w B D (spr r xs) → OwnT w 9 #[pt b, .slice B m D, .bool false] zs))
    (HZ : ∀ i : Nat, i < m → zs[i]? = some (atL ys (i % n))) : AnsB W 6 #[srcV kind z q A L C, .slice (some ⟨bx, ox, none⟩) n D, .int .i64 (r : Int)] (.bool true) := by
  intro w hw
  obtain ⟨t0, t1, t2, t3⟩ := four_cells w (.int .i64 kind) (.int .i64 z) (.int .u64 q) (.slice A L C) 25
  obtain ⟨V, hV⟩ : ∃ V, w.alloc (.cells #[.int .i64 kind, .int .i64 z, .int .u64 q, .slice A L C] 25) = V := ⟨_, rfl⟩
  have hBV : Below w.heap.size w V := hV ▸ below_alloc _ _
  obtain ⟨bo, hbo⟩ : ∃ bo, w.heap.size = bo := ⟨_, rfl⟩
  have hVs : bo < V.heap.size := by rw [← hV, ← hbo]; simp
  rw [hV, hbo] at t0 t1 t2 t3
  have hWV := bb hw hBV
  obtain ⟨ii, hii, hzi, hsi, hbi⟩ := info_parts infoWd
  have hm16 : m ≤ 1680 := by rw [← hm]; exact Nat.mul_le_mul hr7 h240
  have hm1 : 1 ≤ m := by rw [← hm]; exact Nat.mul_pos hr1 h1
  have HN : Hid (1 ≤ n) := h1
  have HNM : Hid (1 ≤ n ∧ n ≤ 240 ∧ 1 ≤ r ∧ r ≤ 7 ∧ r * n = m ∧ m ≤ 1680 ∧ 1 ≤ m) := ⟨h1, h240, hr1, hr7, hm, hm16, hm1⟩
  have HXL : Hid (xs.length = n) := hxl
  have HX := (show Hid _ from hX)
  have HFW' := (show Hid _ from HFW)
  have g1' : ¬ (r : Int) < 1 := by omega
  have g2' : ¬ (7 : Int) < (r : Int) := by omega
  have g3' : ¬ (240 : Int) < (n : Int) := by omega
  have hlen : (n : Int) ≤ 9223372036854775807 := by omega
  have hd1 : decide ((r : Int) < 1) = false := decide_eq_false g1'
  have hd2 : decide ((7 : Int) < (r : Int)) = false := decide_eq_false g2'
  have hd3 : decide ((240 : Int) < (n : Int)) = false := decide_eq_false g3'
  have wm1 : wrap64 ((r : Int) * (n : Int)) = (m : Int) := (mulI' hm (Nat.le_trans hm16 (by decide))).1
  have wm2 : IntKind.i64.wrap ((r : Int) * (n : Int)) = (m : Int) := (mulI' hm (Nat.le_trans hm16 (by decide))).2
  clear HFW h1 h240 hr1 hr7 hm hm16 hm1 hxl hX
  have HYL : Hid (ys.length = n ∧ zs.length = m) := ⟨hyl, hzl⟩
  have HYS : Hid ((∀ y ∈ ys, y < 18446744073709551616) ∧ ∀ y ∈ zs, y < 18446744073709551616) := ⟨hys, hzs⟩
  have H1' := (show Hid _ from H1)
  have H2' := (show Hid _ from H2)
  have HZ' := (show Hid _ from HZ)
  clear hyl hzl hys hzs H1 H2 HZ
  go_enter Tryz.func6, Tryz.ntmps6
  go_wp2_with (first
    | (go_at_call 7; with_reducible refine AnsB.use (alive14 _ hG) hWV fun w1 hb1 => ?_; have s0 := keep_cell hb1 hVs t0; have s1 := keep_cell hb1 hVs t1; have s2 := keep_cell hb1 hVs t2; have s3 := keep_cell hb1 hVs t3; have hW1 := bb hWV hb1)
    | (go_at_call 8; with_reducible refine Made.use HM hW1 fun fb w2 hF hb2 => ?_; have hW2 := bb hW1 hb2; have HG2 := HFA w2 hW2)
    | (go_at_call 11; with_reducible refine AnsB.use HG2 (Below.refl _ _) fun w7 hb7 => ?_; have hW7 := bb hW2 hb7)
    | (at_make; refine Hid.out ?_))
  unfold Hid
  have HW7 : Hid (Below W.heap.size W w7) := hW7
  have HF7 : Hid (FieldAt w7 fb x) := hF.below hb7
  have HBV : Hid (Below w.heap.size w w7) := bb hBV (bb hb1 (bb hb2 hb7))
  clear hW2 hW7 hF hBV hb1 hb2 hb7 hw hWV hW1 t0 t1 t2 t3 s0 s1 s2 s3 hV HM HG2 HFA
  refine wpList_make_full _ rfl _ _ 26 rfl w7.heap.size 22 ii _ 1 Tryz.underlying26 hii hzi hsi .i64 .i64 (m : Int) (m : Int) m rfl rfl rfl rfl (by have := HNM.out; rw [hbi]; omega) (by have := HNM.out; unfold maxLen; omega) (Nat.le_refl _) ?_
  intro w3 hR hG3
  have hO3 : OwnU w3 w7.heap.size (some ⟨w7.heap.size, 0, none⟩) m (lf m fun _ => 0) := new_own hR
  have HB3 : Hid (Below w7.heap.size w7 w3) := (Below.refl _ _).grown hG3 (Nat.le_refl _) (fun k ek => by cases ek)
  obtain ⟨g1, hg1⟩ : ∃ g, w7.heap.size = g := ⟨_, rfl⟩
  have HG1 : Hid (w7.heap.size = g1) := hg1
  have HO3 : Hid (OwnU w3 g1 (some ⟨g1, 0, none⟩) m (lf m (spF r xs 0))) := by
    unfold Hid
    rw [spF_zero, ← hg1]
    exact hO3
  rw [hg1]
  clear hR hG3 hO3 hg1
  go_wp2
  go_loopw [55] (fun iv wr => ∃ j : Nat, iv = .int .i64 (j : Int) ∧ j ≤ n ∧ Hid (OwnU wr g1 (some ⟨g1, 0, none⟩) m (lf m (spF r xs j))) ∧ Hid (Below w7.heap.size w7 wr)) (fun iv _ => n - (intOf iv).toNat)
  case atStart => exact ⟨0, rfl, by omega, HO3, HB3⟩
  case round =>
    clear HO3 HB3
    obtain ⟨j, rfl, hj, HO, HB⟩ := hrel
    by_cases hlt : j < n
    · obtain ⟨y, hy⟩ : ∃ y, xs[j]? = some y := ⟨_, List.getElem?_eq_getElem (by rw [HXL.out]; exact hlt)⟩
      have c0 := ((HX.out.below (bb HW7.out HB.out)).at hy).1
      obtain ⟨q, hq⟩ : ∃ q, j * r = q := ⟨_, rfl⟩
      have hn := HNM.out
      have hqm : q < m := by
        rw [← hq, ← hn.2.2.2.2.1, Nat.mul_comm r n]
        exact Nat.mul_lt_mul_of_pos_right hlt (by omega)
      obtain ⟨x0, hx0⟩ : ∃ x0, spF r xs j q = x0 := ⟨_, rfl⟩
      obtain ⟨c1, z1⟩ := HO.out.cellF hqm hx0
      have HO6 : Hid (OwnU (wr.setCell ⟨g1, q, none⟩ (.int .u64 (y : Int))) g1 (some ⟨g1, 0, none⟩) m (lf m (spF r xs (j + 1)))) := by
        have := HO.out.set q y
        rw [show y = atL xs j from (atL_of hy).symm, spF_set hn.2.2.1 m xs hq, atL_of hy] at this
        exact this
      have HB6 : Hid (Below w7.heap.size w7 (wr.setCell ⟨g1, q, none⟩ (.int .u64 (y : Int)))) := HB.out.setCell (p := ⟨g1, q, none⟩) (Nat.le_of_eq HG1.out) _
      have hq16 : q ≤ 16777216 := by omega
      have q1 : (j : Int) < (n : Int) := ltI hlt
      have q2 : (q : Int) < (m : Int) := ltI hqm
      have q3 : (n : Int) ≤ 240 := by omega
      obtain ⟨wq1, wq2⟩ := mulI' hq hq16
      clear HO HB hy hx0 hq hn hq16
      go_wp2
      clear wq1 wq2
      go_roundw
      case rel => exact ⟨j + 1, by go_num, by omega, HO6, HB6⟩
      case measure => simp [intOf]; omega
    · obtain rfl : j = n := by omega
      have HA : Hid (UAt wr (some ⟨g1, 0, none⟩) m (spr r xs)) := by
        have h := HO.out
        rw [← HXL.out, ← HNM.out.2.2.2.2.1, ← HXL.out, spF_all HNM.out.2.2.1] at h
        have e : r * xs.length = m := by rw [HXL.out]; exact HNM.out.2.2.2.2.1
        rw [e] at h
        exact OwnU.words h (spr_lt (by decide) HX.out.small)
      have HBr : Hid (Below w7.heap.size w7 wr) := HB.out
      have HFk := HFW'.out wr _ _ (bb HW7.out HBr.out) HA.out
      clear HO HB hlt
      have hF4 : FieldAt wr fb x := HF7.out.below HBr.out
      have hWr : Below W.heap.size W wr := bb HW7.out HBr.out
      have hX4 := HX.out.below hWr
      have hjj : ((j : Int) != (j : Int)) = false := by simp
      have hmm : ((m : Int) != (m : Int)) = false := by simp
      go_wp2_with (first
        | (go_at_call 11; with_reducible refine AnsB.use HFk (Below.refl _ _) fun w8 hb8 => ?_)
        | (go_at_call 9; with_reducible refine OwnT.useG (H2'.out w6 fb _ _ hF6 (hG.below hW6) hA6) HYL.out.2 HNM.out.2.2.2.2.2.2 (Below.refl _ _) fun g7 C7 w9 hO7 hb9 => ?_)
        | (go_at_call 9; with_reducible refine OwnT.useG (H1'.out w8 fb _ _ (hF4.below hb8) (hG.below (bb hWr hb8)) (hX4.below hb8)) HYL.out.1 HN.out (Below.refl _ _) fun g6 C6 w6 hO6 hb6 => ?_; have hF6 := (hF4.below hb8).below hb6; have hA6 := (HA.out.below hb8).below hb6; have hW6 := bb hWr (bb hb8 hb6)))
      have HY8 : Hid (UAt w9 (some ⟨g6, 0, none⟩) C6 ys) := (hO6.words HYS.out.1).below hb9
      have HZ8 : Hid (UAt w9 (some ⟨g7, 0, none⟩) C7 zs) := hO7.words HYS.out.2
      have HB8 : Hid (Below w.heap.size w w9) := bb HBV.out (bb HBr.out (bb hb8 (bb hb6 hb9)))
      clear hF4 hF6 hA6 hO6 hb6 hO7 hb9 hb8 hW6 hWr hX4 HFk HA HBr wm1 wm2 hd1 hd2 hd3 g1' g2' g3'
      go_loopw [105] (fun iv wr => ∃ i : Nat, iv = .int .i64 (i : Int) ∧ i ≤ m ∧ Hid (Below w9.heap.size w9 wr)) (fun iv _ => m - (intOf iv).toNat)
      case atStart => exact ⟨0, rfl, by omega, Below.refl _ _⟩
      case round =>
        obtain ⟨i, rfl, hi, HB⟩ := hrel
        by_cases hlt : i < m
        · have hn := HNM.out
          obtain ⟨q, hq⟩ : ∃ q, i % j = q := ⟨_, rfl⟩
          have hql : q < j := by rw [← hq]; exact Nat.mod_lt _ (by omega)
          obtain ⟨y, hy⟩ : ∃ y, ys[q]? = some y := ⟨_, List.getElem?_eq_getElem (by rw [HYL.out.1]; exact hql)⟩
          have hz := HZ'.out i hlt
          rw [hq, atL_of hy] at hz
          have c1 := (HY8.out.below HB.out).at0 hy
          have c2 := (HZ8.out.below HB.out).at0 hz
          have q1 : (i : Int) < (m : Int) := ltI hlt
          have q2 : (m : Int) ≤ 1680 := by omega
          have q3 : (q : Int) < (j : Int) := ltI hql
          have q4 : ¬ (j : Int) = 0 := by omega
          have r1 := rest1 hq
          have yy : ((y : Int) != (y : Int)) = false := by simp
          clear hy hz hq hn
          go_wp2
          go_region
          all_goals go_wp2
          all_goals go_roundw
          case rel => exact ⟨i + 1, by go_num, by omega, below_dN HB.out _⟩
          case measure => simp [intOf]; omega
        · obtain rfl : i = m := by omega
          have HB9 : Hid (Below w.heap.size w wr) := bb HB8.out HB.out
          clear HB
          go_wp2
          go_ret
          exact ⟨rfl, HB9.out⟩
theorem pt_any (W : World) (hG : FacG W) (kind z : Int) (hz : z < 9223372036854775808) (q : Nat) (hq : q < 18446744073709551616) (A : Option Addr) (C : Nat) (es : List En) (hE : EntsAt W A C es) (hfs : ∀ x ∈ es, x.fs.length * 16 ≤ 140737488355328) (B : Option Addr) (D : Nat) (xs : List Nat) (hX : UAt W B D xs) (r : Int) (hr : r < 9223372036854775808) :
    AnsB W 6 #[srcV kind z (q : Int) A es.length C, .slice B xs.length D, .int .i64 r] (.bool true) := by
  have hlen := hX.len
  rcases made_any W kind z hz q hq A C es hE hfs with HM | ⟨x, hF, HM⟩
  · exact pt_none W kind z q A _ C hG B _ D r hlen HM
  · obtain ⟨h3, hodd, hlt⟩ := hF.num
    have pz : ((x.p : Int) == 0) = false := by simp; omega
    by_cases c1 : r < 1
    · exact pt_less W kind z q A _ C hG B _ D r hlen x.p x.g x (by omega) hlt pz HM c1 (decide_eq_true c1)
    · by_cases c2 : 7 < r
      · exact pt_more W kind z q A _ C hG B _ D r hlen x.p x.g x (by omega) hlt pz HM c2 (decide_eq_false c1) (decide_eq_true c2)
      · by_cases hl : 240 < (xs.length : Int)
        · exact pt_long W kind z q A _ C hG B _ D r hlen x.p x.g x (by omega) hlt pz HM (decide_eq_false c1) (decide_eq_false c2) hl (decide_eq_true hl)
        · have HFA : ∀ w, Below W.heap.size W w → AnsB w 11 #[.int .u64 (x.p : Int), .slice B xs.length D] (.int .i64 (ck3 x.p xs)) := fun w hw => faultm_any (by omega) (by omega) (hX.below hw)
          by_cases hc : ck3 x.p xs = 0
          · rw [hc] at HFA
            obtain ⟨rs, _, _, h1, _, hd, hg, _⟩ := ck3_ok hc
            obtain ⟨s, rfl⟩ := Int.eq_ofNat_of_zero_le (show 0 ≤ r by omega)
            obtain ⟨bx, ox, rfl⟩ := hX.addr h1
            have HFW : ∀ w A C, Below W.heap.size W w → UAt w A C (spr s xs) → AnsB w 11 #[.int .u64 (x.p : Int), .slice A (s * xs.length) C] (.int .i64 (ck3 x.p (spr s xs))) := fun w A C _ hU => by
              have := faultm_any (p := x.p) (by omega) (by omega) hU
              rwa [spr_len] at this
            by_cases hc2 : ck3 x.p (spr s xs) = 0
            · rw [hc2] at HFW
              obtain ⟨rs2, _, _, h12, _, hd2, hg2, _⟩ := ck3_ok hc2
              rw [spr_len] at hd2
              exact pt_yes W kind z q A _ C hG x.p x.g x (by omega) hlt pz HM bx ox xs.length D s (s * xs.length) xs hX rfl h1 (by omega) (by omega) (by omega) rfl (dT x false xs) (dT x false (spr s xs)) (dT_len _ _ _) (by rw [dT_len, spr_len])
                (fun y hy => by have := dT_lt hF false _ y hy; omega) (fun y hy => by have := dT_lt hF false _ y hy; omega) HFA HFW
                (fun w b B D F G U => runm_ok F hF G U hc false) (fun w b B D F G U => by have := runm_ok F hF G U hc2 false; rwa [spr_len] at this)
                (fun i hi => dT_spr hF (by omega) h1 hd2 hi)
            · exact pt_wide W kind z q A _ C hG x.p x.g x (by omega) hlt pz HM bx ox xs.length D s (s * xs.length) xs hX rfl h1 (by omega) (by omega) (by omega) rfl _ (by simp only [bne_iff_ne, ne_eq]; exact hc2) HFA HFW
          · exact pt_err W kind z q A _ C hG B _ D r hlen x.p x.g x (by omega) hlt pz HM (decide_eq_false c1) (decide_eq_false c2) (by omega) (decide_eq_false hl) _ (by simp only [bne_iff_ne, ne_eq]; exact hc) HFA
end Go.Proofs.YtkemlbjcfbnfiaaGreatDoor

/-
  The statement Radix4Row: true, of all sources, lengths, places and numbers.
-/
import Derived.Test.YtehljcflodilhaaGreatRqM
namespace Go.Proofs.YtehljcflodilhaaGreat
set_option linter.unusedVariables false
open Go.RowKit

set_option maxRecDepth 100000 in
set_option maxHeartbeats 4000000 in
theorem alone_none (W : World) (kind z q : Int) (A : Option Addr) (L C : Nat) (n a : Int) (u : Int) (HM : AnsB W 6 #[srcV kind z q A L C] noV) : AnsB W 4 #[srcV kind z q A L C, .int .i64 n, .int .i64 a, .int .u64 u] (.bool true) := by
  intro w hw
  obtain ⟨t0, t1, t2, t3⟩ := four_cells w (.int .i64 kind) (.int .i64 z) (.int .u64 q) (.slice A L C) 25
  obtain ⟨V, hV⟩ : ∃ V, w.alloc (.cells #[.int .i64 kind, .int .i64 z, .int .u64 q, .slice A L C] 25) = V := ⟨_, rfl⟩
  have hBV : Below w.heap.size w V := hV ▸ below_alloc _ _
  obtain ⟨bo, hbo⟩ : ∃ bo, w.heap.size = bo := ⟨_, rfl⟩
  have hVs : bo < V.heap.size := by rw [← hV, ← hbo]; simp
  rw [hV, hbo] at t0 t1 t2 t3
  have hWV := bb hw hBV
  go_enter Tryz.func4, Tryz.ntmps4
  go_wp2_with (first
    | (go_at_call 5; with_reducible refine AnsB.use (alive13 _) hWV fun w1 hb1 => ?_; have s0 := keep_cell hb1 hVs t0; have s1 := keep_cell hb1 hVs t1; have s2 := keep_cell hb1 hVs t2; have s3 := keep_cell hb1 hVs t3; have hW1 := bb hWV hb1)
    | (go_at_call 6; with_reducible refine AnsB.use HM hW1 fun w2 hb2 => ?_; have hW2 := bb hW1 hb2))
  go_ret
  exact ⟨rfl, bb hBV (bb hb1 hb2)⟩
set_option maxRecDepth 100000 in
set_option maxHeartbeats 4000000 in
theorem alone_less (W : World) (kind z q : Int) (A : Option Addr) (L C : Nat) (n a : Int) (u : Int) (p g : Nat) (x : En) (p0 : 2 < p) (p1 : p < 9223372036854775808) (pz : ((p : Int) == 0) = false) (HM : Made W (srcV kind z q A L C) (p : Int) (g : Int) x) (h : n < 1) (hd : decide (n < 1) = true) : AnsB W 4 #[srcV kind z q A L C, .int .i64 n, .int .i64 a, .int .u64 u] (.bool true) := by
  intro w hw
  obtain ⟨t0, t1, t2, t3⟩ := four_cells w (.int .i64 kind) (.int .i64 z) (.int .u64 q) (.slice A L C) 25
  obtain ⟨V, hV⟩ : ∃ V, w.alloc (.cells #[.int .i64 kind, .int .i64 z, .int .u64 q, .slice A L C] 25) = V := ⟨_, rfl⟩
  have hBV : Below w.heap.size w V := hV ▸ below_alloc _ _
  obtain ⟨bo, hbo⟩ : ∃ bo, w.heap.size = bo := ⟨_, rfl⟩
  have hVs : bo < V.heap.size := by rw [← hV, ← hbo]; simp
  rw [hV, hbo] at t0 t1 t2 t3
  have hWV := bb hw hBV
  go_enter Tryz.func4, Tryz.ntmps4
  go_wp2_with (first
    | (go_at_call 5; with_reducible refine AnsB.use (alive13 _) hWV fun w1 hb1 => ?_; have s0 := keep_cell hb1 hVs t0; have s1 := keep_cell hb1 hVs t1; have s2 := keep_cell hb1 hVs t2; have s3 := keep_cell hb1 hVs t3; have hW1 := bb hWV hb1)
    | (go_at_call 6; with_reducible refine Made.use HM hW1 fun fb w2 hF hb2 => ?_; have hW2 := bb hW1 hb2))
  go_ret
  exact ⟨rfl, bb hBV (bb hb1 hb2)⟩
set_option maxRecDepth 100000 in
set_option maxHeartbeats 4000000 in
theorem alone_more (W : World) (kind z q : Int) (A : Option Addr) (L C : Nat) (n a : Int) (u : Int) (p g : Nat) (x : En) (p0 : 2 < p) (p1 : p < 9223372036854775808) (pz : ((p : Int) == 0) = false) (HM : Made W (srcV kind z q A L C) (p : Int) (g : Int) x) (h : 256 < n) (hd1 : decide (n < 1) = false) (hd : decide (256 < n) = true) : AnsB W 4 #[srcV kind z q A L C, .int .i64 n, .int .i64 a, .int .u64 u] (.bool true) := by
  intro w hw
  obtain ⟨t0, t1, t2, t3⟩ := four_cells w (.int .i64 kind) (.int .i64 z) (.int .u64 q) (.slice A L C) 25
  obtain ⟨V, hV⟩ : ∃ V, w.alloc (.cells #[.int .i64 kind, .int .i64 z, .int .u64 q, .slice A L C] 25) = V := ⟨_, rfl⟩
  have hBV : Below w.heap.size w V := hV ▸ below_alloc _ _
  obtain ⟨bo, hbo⟩ : ∃ bo, w.heap.size = bo := ⟨_, rfl⟩
  have hVs : bo < V.heap.size := by rw [← hV, ← hbo]; simp
  rw [hV, hbo] at t0 t1 t2 t3
  have hWV := bb hw hBV
  go_enter Tryz.func4, Tryz.ntmps4
  go_wp2_with (first
    | (go_at_call 5; with_reducible refine AnsB.use (alive13 _) hWV fun w1 hb1 => ?_; have s0 := keep_cell hb1 hVs t0; have s1 := keep_cell hb1 hVs t1; have s2 := keep_cell hb1 hVs t2; have s3 := keep_cell hb1 hVs t3; have hW1 := bb hWV hb1)
    | (go_at_call 6; with_reducible refine Made.use HM hW1 fun fb w2 hF hb2 => ?_; have hW2 := bb hW1 hb2))
  go_ret
  exact ⟨rfl, bb hBV (bb hb1 hb2)⟩
set_option maxRecDepth 100000 in
set_option maxHeartbeats 4000000 in
theorem alone_great (W : World) (kind z q : Int) (A : Option Addr) (L C : Nat) (n a : Int) (u : Int) (p g : Nat) (x : En) (p0 : 2 < p) (p1 : p < 9223372036854775808) (pz : ((p : Int) == 0) = false) (HM : Made W (srcV kind z q A L C) (p : Int) (g : Int) x) (h : n ≤ 256) (hd1 : decide (n < 1) = false) (hd2 : decide (256 < n) = false) (hu : (p : Int) ≤ u) (hd : decide ((p : Int) ≤ u) = true) : AnsB W 4 #[srcV kind z q A L C, .int .i64 n, .int .i64 a, .int .u64 u] (.bool true) := by
  intro w hw
  obtain ⟨t0, t1, t2, t3⟩ := four_cells w (.int .i64 kind) (.int .i64 z) (.int .u64 q) (.slice A L C) 25
  obtain ⟨V, hV⟩ : ∃ V, w.alloc (.cells #[.int .i64 kind, .int .i64 z, .int .u64 q, .slice A L C] 25) = V := ⟨_, rfl⟩
  have hBV : Below w.heap.size w V := hV ▸ below_alloc _ _
  obtain ⟨bo, hbo⟩ : ∃ bo, w.heap.size = bo := ⟨_, rfl⟩
  have hVs : bo < V.heap.size := by rw [← hV, ← hbo]; simp
  rw [hV, hbo] at t0 t1 t2 t3
  have hWV := bb hw hBV
  go_enter Tryz.func4, Tryz.ntmps4
  go_wp2_with (first
    | (go_at_call 5; with_reducible refine AnsB.use (alive13 _) hWV fun w1 hb1 => ?_; have s0 := keep_cell hb1 hVs t0; have s1 := keep_cell hb1 hVs t1; have s2 := keep_cell hb1 hVs t2; have s3 := keep_cell hb1 hVs t3; have hW1 := bb hWV hb1)
    | (go_at_call 6; with_reducible refine Made.use HM hW1 fun fb w2 hF hb2 => ?_; have hW2 := bb hW1 hb2))
  go_ret
  exact ⟨rfl, bb hBV (bb hb1 hb2)⟩
set_option maxRecDepth 100000 in
set_option maxHeartbeats 4000000 in
theorem alone_err (W : World) (kind z q : Int) (A : Option Addr) (L C : Nat) (p g : Nat) (x : En) (p0 : 2 < p) (p1 : p < 9223372036854775808) (pz : ((p : Int) == 0) = false) (HM : Made W (srcV kind z q A L C) (p : Int) (g : Int) x) (n k u : Nat) (a : Int) (h1 : 1 ≤ n) (h256 : n ≤ 256) (hk : k < n) (hkm : (IntKind.u64.wrap a).tmod (n : Int) = (k : Int)) (hu : u < p) (e : Int) (he : (e != 0) = true)
    (HFA : ∀ w A C, Below W.heap.size W w → UAt w A C (lf n fun j => if j = k then 1 else 0) → AnsW w 9 #[.int .u64 (p : Int), .slice A n C] (.int .i64 e)) : AnsB W 4 #[srcV kind z q A L C, .int .i64 (n : Int), .int .i64 a, .int .u64 (u : Int)] (.bool true) := by
  intro w hw
  obtain ⟨t0, t1, t2, t3⟩ := four_cells w (.int .i64 kind) (.int .i64 z) (.int .u64 q) (.slice A L C) 25
  obtain ⟨V, hV⟩ : ∃ V, w.alloc (.cells #[.int .i64 kind, .int .i64 z, .int .u64 q, .slice A L C] 25) = V := ⟨_, rfl⟩
  have hBV : Below w.heap.size w V := hV ▸ below_alloc _ _
  obtain ⟨bo, hbo⟩ : ∃ bo, w.heap.size = bo := ⟨_, rfl⟩
  have hVs : bo < V.heap.size := by rw [← hV, ← hbo]; simp
  rw [hV, hbo] at t0 t1 t2 t3
  have hWV := bb hw hBV
  obtain ⟨ii, hii, hzi, hsi, hbi⟩ := info_parts infoWd
  have HN : Hid (1 ≤ n ∧ n ≤ 256 ∧ k < n ∧ u < p ∧ p < 9223372036854775808) := ⟨h1, h256, hk, hu, p1⟩
  have HFA' := (show Hid _ from HFA)
  have g1' : ¬ (n : Int) < 1 := by omega
  have g2' : ¬ (256 : Int) < (n : Int) := by omega
  have g3' : ¬ (p : Int) ≤ (u : Int) := by omega
  have hlen : (n : Int) ≤ 9223372036854775807 := by omega
  have en0 : ¬ (n : Int) = 0 := by omega
  have ek3 : (k : Int) < (n : Int) := by omega
  have hn16 : n ≤ 16777216 := by omega
  have hk16 : k ≤ 16777216 := by omega
  have hd1 : decide ((n : Int) < 1) = false := decide_eq_false g1'
  have hd2 : decide ((256 : Int) < (n : Int)) = false := decide_eq_false g2'
  have hd3 : decide ((p : Int) ≤ (u : Int)) = false := decide_eq_false g3'
  have ew := wrU hn16
  have ek1 := wrI hk16
  have ek2 := wrN hk16
  clear HFA h1 h256 hk hu hn16 hk16
  go_enter Tryz.func4, Tryz.ntmps4
  go_wp2_with (first
    | (go_at_call 5; with_reducible refine AnsB.use (alive13 _) hWV fun w1 hb1 => ?_; have s0 := keep_cell hb1 hVs t0; have s1 := keep_cell hb1 hVs t1; have s2 := keep_cell hb1 hVs t2; have s3 := keep_cell hb1 hVs t3; have hW1 := bb hWV hb1)
    | (go_at_call 6; with_reducible refine Made.use HM hW1 fun fb w2 hF hb2 => ?_; have hW2 := bb hW1 hb2)
    | (at_make; refine Hid.out ?_))
  unfold Hid
  have HW2 : Hid (Below W.heap.size W w2) := hW2
  have HF2 : Hid (FieldAt w2 fb x) := hF
  have HBV : Hid (Below w.heap.size w w2) := bb hBV (bb hb1 hb2)
  clear hW2 hF hBV hb1 hb2 hw hWV hW1 t0 t1 t2 t3 s0 s1 s2 s3 hV HM
  refine wpList_make_full _ rfl _ _ 26 rfl w2.heap.size 22 ii _ 1 Tryz.underlying26 hii hzi hsi .i64 .i64 (n : Int) (n : Int) n rfl rfl rfl rfl (by have := HN.out; rw [hbi]; omega) (by have := HN.out; unfold maxLen; omega) (Nat.le_refl _) ?_
  intro w3 hR hG
  have HO3 : Hid (OwnU w3 w2.heap.size (some ⟨w2.heap.size, 0, none⟩) n (lf n fun _ => 0)) := made_own hR
  have HB3 : Hid (Below w2.heap.size w2 w3) := (Below.refl _ _).grown hG (Nat.le_refl _) (fun k ek => by cases ek)
  clear hR hG
  go_wp2_with (at_make; refine Hid.out ?_)
  unfold Hid
  refine wpList_make_full _ rfl _ _ 26 rfl w3.heap.size 22 ii _ 1 Tryz.underlying26 hii hzi hsi .i64 .i64 (n : Int) (n : Int) n rfl rfl rfl rfl (by have := HN.out; rw [hbi]; omega) (by have := HN.out; unfold maxLen; omega) (Nat.le_refl _) ?_
  intro w4 hR hG
  have hO4 : OwnU w4 w3.heap.size (some ⟨w3.heap.size, 0, none⟩) n (lf n fun _ => 0) := made_own hR
  have hB4 : Below w3.heap.size w3 w4 := (Below.refl _ _).grown hG (Nat.le_refl _) (fun k ek => by cases ek)
  have hP4 := HO3.out.below hB4
  have hge := hP4.ge
  obtain ⟨g1, hg1⟩ : ∃ g, w2.heap.size = g := ⟨_, rfl⟩
  obtain ⟨g2, hg2⟩ : ∃ g, w3.heap.size = g := ⟨_, rfl⟩
  have HNE : Hid (g1 ≠ g2 ∧ g1 < g2) := by
    have := HO3.out.ge.2
    rw [hg1, hg2] at this
    exact ⟨by omega, this⟩
  rw [hg1] at hP4 ⊢
  rw [hg2] at hO4 ⊢
  obtain ⟨c1, z1⟩ := hP4.cellF (j := k) (x := 0) HN.out.2.2.1 rfl
  have HP5 : Hid (OwnU (w4.setCell ⟨g1, k, none⟩ (.int .u64 1)) g1 (some ⟨g1, 0, none⟩) n (lf n fun j => if j = k then 1 else 0)) := by
    have := hP4.set k 1
    rw [lf_set (g := fun j => if j = k then 1 else 0) fun j _ => rfl] at this
    exact this
  have HO5 : Hid (OwnU (w4.setCell ⟨g1, k, none⟩ (.int .u64 1)) g2 (some ⟨g2, 0, none⟩) n (wfl 0 n 0 fun _ => u)) := by
    have h := own_other hO4 (g := g1) (fun e => HNE.out.1 (by cases e; rfl)) k (.int .u64 1)
    unfold Hid
    rw [wfl_zero, ← lf_zero]
    exact h
  have HB5 : Hid (Below w2.heap.size w2 (w4.setCell ⟨g1, k, none⟩ (.int .u64 1))) := (bb HB3.out hB4).setCell (p := ⟨g1, k, none⟩) (Nat.le_of_eq hg1) _
  have HG1 : Hid (w2.heap.size = g1) := hg1
  clear hR hG hO4 hB4 hP4 hge hg1 hg2 HO3 HB3
  go_wp2
  obtain ⟨w5, hw5⟩ : ∃ X, w4.setCell ⟨g1, k, none⟩ (.int .u64 1) = X := ⟨_, rfl⟩
  rw [hw5] at HP5 HO5 HB5 ⊢
  clear hw5 c1 z1 ek1 ek2 ek3 en0 hkm hd1 hd2 hd3 g1' g2' g3' ew
  go_loopw [62] (fun iv wr => ∃ j : Nat, iv = .int .i64 (j : Int) ∧ j ≤ n ∧ Hid (OwnU wr g2 (some ⟨g2, 0, none⟩) n (wfl 0 n j fun _ => u)) ∧ Hid (Kg g2 w5 wr)) (fun iv _ => n - (intOf iv).toNat)
  case atStart => exact ⟨0, rfl, by omega, HO5, Kg.refl _ _⟩
  case round =>
    clear HO5
    obtain ⟨j, rfl, hj, HO, HK⟩ := hrel
    by_cases hlt : j < n
    · obtain ⟨c1, z1⟩ := HO.out.cellL (wfl_get (k := j) (0 : Nat) (fun _ => u) hlt)
      rw [if_neg (by omega)] at c1
      have HO6 : Hid (OwnU (wr.setCell ⟨g2, j, none⟩ (.int .u64 (u : Int))) g2 (some ⟨g2, 0, none⟩) n (wfl 0 n (j + 1) fun _ => u)) := by
        have := HO.out.set j u
        rw [show (wfl 0 n j fun _ => u).set j u = wfl 0 n (j + 1) fun _ => u from wfl_set 0 n j fun _ => u] at this
        exact this
      have HK6 : Hid (Kg g2 w5 (wr.setCell ⟨g2, j, none⟩ (.int .u64 (u : Int)))) := HK.out.trans (Kg.set _ _ _ _)
      have q1 : (j : Int) < (n : Int) := ltI hlt
      have q2 : (n : Int) ≤ 256 := by have := HN.out; omega
      clear HO HK
      go_wp2
      go_roundw
      case rel => exact ⟨j + 1, by go_num, by omega, HO6, HK6⟩
      case measure => simp [intOf]; omega
    · obtain rfl : j = n := by omega
      have HA : Hid (UAt wr (some ⟨g1, 0, none⟩) j (lf j fun i => if i = k then 1 else 0)) := by
        have h : OwnU wr g1 (some ⟨g1, 0, none⟩) j (lf j fun i => if i = k then 1 else 0) := HP5.out.kept HK.out (.inr fun e => HNE.out.1 (by cases e; rfl))
        refine h.words (lf_lt fun i _ => ?_)
        split <;> omega
      have HC : Hid (UAt wr (some ⟨g2, 0, none⟩) j (lf j fun _ => u)) := by
        have h := HO.out
        rw [wfl_all] at h
        exact OwnU.words h (lf_lt fun i _ => by have := HN.out; omega)
      have HBr : Hid (Below w2.heap.size w2 wr) := HB5.out.trans (HK.out.below (B := w2.heap.size) (by rw [HG1.out]; exact Nat.le_of_lt HNE.out.2) HB5.out.size)
      clear HO HK HP5 HB5 hlt
      have HFk := HFA'.out wr _ _ (bb HW2.out HBr.out) HA.out
      go_wp2_with (go_at_call 9; with_reducible refine AnsW.use0 HFk fun n7 => ?_)
      go_ret
      exact ⟨rfl, bb HBV.out (bb HBr.out (below_drewN _ _))⟩
set_option maxRecDepth 100000 in
set_option maxHeartbeats 4000000 in
theorem alone_yes (W : World) (kind z q : Int) (A : Option Addr) (L C : Nat) (p g : Nat) (x : En) (p0 : 2 < p) (p1 : p < 9223372036854775808) (pz : ((p : Int) == 0) = false) (HM : Made W (srcV kind z q A L C) (p : Int) (g : Int) x) (n k u : Nat) (a : Int) (h1 : 1 ≤ n) (h256 : n ≤ 256) (hk : k < n) (hkm : (IntKind.u64.wrap a).tmod (n : Int) = (k : Int)) (hu : u < p) (ys zs : List Nat) (r z0 : Nat) (hyl : ys.length = n) (hzl : zs.length = n) (hys : ∀ y ∈ ys, y < 18446744073709551616) (hzs : ∀ y ∈ zs, y < 18446744073709551616)
    (HFA : ∀ w A C, Below W.heap.size W w → UAt w A C (lf n fun j => if j = k then 1 else 0) → AnsW w 9 #[.int .u64 (p : Int), .slice A n C] (.int .i64 0))
    (H1 : (∀ (w : World) (b : Nat) (B : Option Addr) (D : Nat), FieldAt w b x → UAt w B D (lf n fun j => if j = k then 1 else 0) → OwnT w 7 #[pt b, .slice B n D, .bool false] ys))
    (H2 : (∀ (w : World) (b : Nat) (B : Option Addr) (D : Nat), FieldAt w b x → UAt w B D (lf n fun _ => u) → OwnT w 7 #[pt b, .slice B n D, .bool false] zs))
    (HR : ∀ (w : World) (b : Nat), FieldAt w b x → AnsW w 11 #[pt b, .int .i64 (n : Int)] (.tuple #[.int .u64 (r : Int), .int .i64 0]))
    (HQ : ∀ (w : World) (b : Nat), FieldAt w b x → ∀ i t y : Nat, i * k = t → t < 65536 → ys[i]? = some y → AnsW w 13 #[pt b, .int .u64 (r : Int), .int .u64 (t : Int)] (.int .u64 (y : Int)))
    (HM0 : ∀ (w : World) (b : Nat), FieldAt w b x → AnsW w 12 #[pt b, .int .u64 (u : Int), .int .u64 (n : Int)] (.int .u64 (z0 : Int)))
    (HZ : ∀ i : Nat, i < n → zs[i]? = some (if i = 0 then z0 else 0)) : AnsB W 4 #[srcV kind z q A L C, .int .i64 (n : Int), .int .i64 a, .int .u64 (u : Int)] (.bool true) := by
  intro w hw
  obtain ⟨t0, t1, t2, t3⟩ := four_cells w (.int .i64 kind) (.int .i64 z) (.int .u64 q) (.slice A L C) 25
  obtain ⟨V, hV⟩ : ∃ V, w.alloc (.cells #[.int .i64 kind, .int .i64 z, .int .u64 q, .slice A L C] 25) = V := ⟨_, rfl⟩
  have hBV : Below w.heap.size w V := hV ▸ below_alloc _ _
  obtain ⟨bo, hbo⟩ : ∃ bo, w.heap.size = bo := ⟨_, rfl⟩
  have hVs : bo < V.heap.size := by rw [← hV, ← hbo]; simp
  rw [hV, hbo] at t0 t1 t2 t3
  have hWV := bb hw hBV
  obtain ⟨ii, hii, hzi, hsi, hbi⟩ := info_parts infoWd
  have HN : Hid (1 ≤ n ∧ n ≤ 256 ∧ k < n ∧ u < p ∧ p < 9223372036854775808) := ⟨h1, h256, hk, hu, p1⟩
  have HFA' := (show Hid _ from HFA)
  have g1' : ¬ (n : Int) < 1 := by omega
  have g2' : ¬ (256 : Int) < (n : Int) := by omega
  have g3' : ¬ (p : Int) ≤ (u : Int) := by omega
  have hlen : (n : Int) ≤ 9223372036854775807 := by omega
  have en0 : ¬ (n : Int) = 0 := by omega
  have ek3 : (k : Int) < (n : Int) := by omega
  have hn16 : n ≤ 16777216 := by omega
  have hk16 : k ≤ 16777216 := by omega
  have hd1 : decide ((n : Int) < 1) = false := decide_eq_false g1'
  have hd2 : decide ((256 : Int) < (n : Int)) = false := decide_eq_false g2'
  have hd3 : decide ((p : Int) ≤ (u : Int)) = false := decide_eq_false g3'
  have ew := wrU hn16
  have ek1 := wrI hk16
  have ek2 := wrN hk16
  clear HFA h1 h256 hk hu hn16 hk16
  have HYL : Hid (ys.length = n ∧ zs.length = n ∧ 1 ≤ n) := ⟨hyl, hzl, HN.out.1⟩
  have HYS : Hid ((∀ y ∈ ys, y < 18446744073709551616) ∧ ∀ y ∈ zs, y < 18446744073709551616) := ⟨hys, hzs⟩
  have H1' := (show Hid _ from H1)
  have H2' := (show Hid _ from H2)
  have HR' := (show Hid _ from HR)
  have HQ' := (show Hid _ from HQ)
  have HM' := (show Hid _ from HM0)
  have HZ' := (show Hid _ from HZ)
  clear hyl hzl hys hzs H1 H2 HR HQ HM0 HZ
  go_enter Tryz.func4, Tryz.ntmps4
  go_wp2_with (first
    | (go_at_call 5; with_reducible refine AnsB.use (alive13 _) hWV fun w1 hb1 => ?_; have s0 := keep_cell hb1 hVs t0; have s1 := keep_cell hb1 hVs t1; have s2 := keep_cell hb1 hVs t2; have s3 := keep_cell hb1 hVs t3; have hW1 := bb hWV hb1)
    | (go_at_call 6; with_reducible refine Made.use HM hW1 fun fb w2 hF hb2 => ?_; have hW2 := bb hW1 hb2)
    | (at_make; refine Hid.out ?_))
  unfold Hid
  have HW2 : Hid (Below W.heap.size W w2) := hW2
  have HF2 : Hid (FieldAt w2 fb x) := hF
  have HBV : Hid (Below w.heap.size w w2) := bb hBV (bb hb1 hb2)
  clear hW2 hF hBV hb1 hb2 hw hWV hW1 t0 t1 t2 t3 s0 s1 s2 s3 hV HM
  refine wpList_make_full _ rfl _ _ 26 rfl w2.heap.size 22 ii _ 1 Tryz.underlying26 hii hzi hsi .i64 .i64 (n : Int) (n : Int) n rfl rfl rfl rfl (by have := HN.out; rw [hbi]; omega) (by have := HN.out; unfold maxLen; omega) (Nat.le_refl _) ?_
  intro w3 hR hG
  have HO3 : Hid (OwnU w3 w2.heap.size (some ⟨w2.heap.size, 0, none⟩) n (lf n fun _ => 0)) := made_own hR
  have HB3 : Hid (Below w2.heap.size w2 w3) := (Below.refl _ _).grown hG (Nat.le_refl _) (fun k ek => by cases ek)
  clear hR hG
  go_wp2_with (at_make; refine Hid.out ?_)
  unfold Hid
  refine wpList_make_full _ rfl _ _ 26 rfl w3.heap.size 22 ii _ 1 Tryz.underlying26 hii hzi hsi .i64 .i64 (n : Int) (n : Int) n rfl rfl rfl rfl (by have := HN.out; rw [hbi]; omega) (by have := HN.out; unfold maxLen; omega) (Nat.le_refl _) ?_
  intro w4 hR hG
  have hO4 : OwnU w4 w3.heap.size (some ⟨w3.heap.size, 0, none⟩) n (lf n fun _ => 0) := made_own hR
  have hB4 : Below w3.heap.size w3 w4 := (Below.refl _ _).grown hG (Nat.le_refl _) (fun k ek => by cases ek)
  have hP4 := HO3.out.below hB4
  have hge := hP4.ge
  obtain ⟨g1, hg1⟩ : ∃ g, w2.heap.size = g := ⟨_, rfl⟩
  obtain ⟨g2, hg2⟩ : ∃ g, w3.heap.size = g := ⟨_, rfl⟩
  have HNE : Hid (g1 ≠ g2 ∧ g1 < g2) := by
    have := HO3.out.ge.2
    rw [hg1, hg2] at this
    exact ⟨by omega, this⟩
  rw [hg1] at hP4 ⊢
  rw [hg2] at hO4 ⊢
  obtain ⟨c1, z1⟩ := hP4.cellF (j := k) (x := 0) HN.out.2.2.1 rfl
  have HP5 : Hid (OwnU (w4.setCell ⟨g1, k, none⟩ (.int .u64 1)) g1 (some ⟨g1, 0, none⟩) n (lf n fun j => if j = k then 1 else 0)) := by
    have := hP4.set k 1
    rw [lf_set (g := fun j => if j = k then 1 else 0) fun j _ => rfl] at this
    exact this
  have HO5 : Hid (OwnU (w4.setCell ⟨g1, k, none⟩ (.int .u64 1)) g2 (some ⟨g2, 0, none⟩) n (wfl 0 n 0 fun _ => u)) := by
    have h := own_other hO4 (g := g1) (fun e => HNE.out.1 (by cases e; rfl)) k (.int .u64 1)
    unfold Hid
    rw [wfl_zero, ← lf_zero]
    exact h
  have HB5 : Hid (Below w2.heap.size w2 (w4.setCell ⟨g1, k, none⟩ (.int .u64 1))) := (bb HB3.out hB4).setCell (p := ⟨g1, k, none⟩) (Nat.le_of_eq hg1) _
  have HG1 : Hid (w2.heap.size = g1) := hg1
  clear hR hG hO4 hB4 hP4 hge hg1 hg2 HO3 HB3
  go_wp2
  obtain ⟨w5, hw5⟩ : ∃ X, w4.setCell ⟨g1, k, none⟩ (.int .u64 1) = X := ⟨_, rfl⟩
  rw [hw5] at HP5 HO5 HB5 ⊢
  clear hw5 c1 z1 ek1 ek2 ek3 en0 hkm hd1 hd2 hd3 g1' g2' g3' ew
  go_loopw [62] (fun iv wr => ∃ j : Nat, iv = .int .i64 (j : Int) ∧ j ≤ n ∧ Hid (OwnU wr g2 (some ⟨g2, 0, none⟩) n (wfl 0 n j fun _ => u)) ∧ Hid (Kg g2 w5 wr)) (fun iv _ => n - (intOf iv).toNat)
  case atStart => exact ⟨0, rfl, by omega, HO5, Kg.refl _ _⟩
  case round =>
    clear HO5
    obtain ⟨j, rfl, hj, HO, HK⟩ := hrel
    by_cases hlt : j < n
    · obtain ⟨c1, z1⟩ := HO.out.cellL (wfl_get (k := j) (0 : Nat) (fun _ => u) hlt)
      rw [if_neg (by omega)] at c1
      have HO6 : Hid (OwnU (wr.setCell ⟨g2, j, none⟩ (.int .u64 (u : Int))) g2 (some ⟨g2, 0, none⟩) n (wfl 0 n (j + 1) fun _ => u)) := by
        have := HO.out.set j u
        rw [show (wfl 0 n j fun _ => u).set j u = wfl 0 n (j + 1) fun _ => u from wfl_set 0 n j fun _ => u] at this
        exact this
      have HK6 : Hid (Kg g2 w5 (wr.setCell ⟨g2, j, none⟩ (.int .u64 (u : Int)))) := HK.out.trans (Kg.set _ _ _ _)
      have q1 : (j : Int) < (n : Int) := ltI hlt
      have q2 : (n : Int) ≤ 256 := by have := HN.out; omega
      clear HO HK
      go_wp2
      go_roundw
      case rel => exact ⟨j + 1, by go_num, by omega, HO6, HK6⟩
      case measure => simp [intOf]; omega
    · obtain rfl : j = n := by omega
      have HA : Hid (UAt wr (some ⟨g1, 0, none⟩) j (lf j fun i => if i = k then 1 else 0)) := by
        have h : OwnU wr g1 (some ⟨g1, 0, none⟩) j (lf j fun i => if i = k then 1 else 0) := HP5.out.kept HK.out (.inr fun e => HNE.out.1 (by cases e; rfl))
        refine h.words (lf_lt fun i _ => ?_)
        split <;> omega
      have HC : Hid (UAt wr (some ⟨g2, 0, none⟩) j (lf j fun _ => u)) := by
        have h := HO.out
        rw [wfl_all] at h
        exact OwnU.words h (lf_lt fun i _ => by have := HN.out; omega)
      have HBr : Hid (Below w2.heap.size w2 wr) := HB5.out.trans (HK.out.below (B := w2.heap.size) (by rw [HG1.out]; exact Nat.le_of_lt HNE.out.2) HB5.out.size)
      clear HO HK HP5 HB5 hlt
      have HFk := HFA'.out wr _ _ (bb HW2.out HBr.out) HA.out
      have hF4 : FieldAt wr fb x := HF2.out.below HBr.out
      go_wp2_with (first
        | (go_at_call 9; with_reducible refine AnsW.use0 HFk fun n7 => ?_)
        | (go_at_call 7; with_reducible refine OwnT.useG (H2'.out w6 fb _ _ hF6 hC6) HYL.out.2.1 HYL.out.2.2 (Below.refl _ _) fun g7 C7 w7 hO7 hb7 => ?_; have HRk := HR'.out w7 fb (hF6.below hb7))
        | (go_at_call 7; with_reducible refine OwnT.useG (H1'.out _ fb _ _ (hF4.below (below_drewN wr _)) (HA.out.below (below_drewN wr _))) HYL.out.1 HYL.out.2.2 (Below.refl _ _) fun g6 C6 w6 hO6 hb6 => ?_; have hF6 := (hF4.below (below_drewN wr _)).below hb6; have hC6 := (HC.out.below (below_drewN wr _)).below hb6)
        | (go_at_call 11; with_reducible refine AnsW.use0 HRk fun n8 => ?_))
      have HY8 : Hid (UAt (w7.drewN n8) (some ⟨g6, 0, none⟩) C6 ys) := ((hO6.words HYS.out.1).below hb7).below (below_drewN w7 n8)
      have HZ8 : Hid (UAt (w7.drewN n8) (some ⟨g7, 0, none⟩) C7 zs) := (hO7.words HYS.out.2).below (below_drewN w7 n8)
      have HF8 : Hid (FieldAt (w7.drewN n8) fb x) := (hF6.below hb7).below (below_drewN w7 n8)
      have HB8 : Hid (Below w.heap.size w (w7.drewN n8)) := bb HBV.out (bb HBr.out (bb (below_drewN wr _) (bb hb6 (bb hb7 (below_drewN w7 n8)))))
      clear hF4 hF6 hC6 hO6 hb6 hO7 hb7 HRk HFk HA HC HBr
      obtain ⟨w8, hw8⟩ : ∃ X, w7.drewN n8 = X := ⟨_, rfl⟩
      rw [hw8] at HY8 HZ8 HF8 HB8 ⊢
      clear hw8
      go_loopw [112] (fun iv wr => ∃ i : Nat, iv = .int .i64 (i : Int) ∧ i ≤ j ∧ Hid (Below w8.heap.size w8 wr)) (fun iv _ => j - (intOf iv).toNat)
      case atStart => exact ⟨0, rfl, by omega, Below.refl _ _⟩
      case round =>
        obtain ⟨i, rfl, hi, HB⟩ := hrel
        by_cases hlt : i < j
        · obtain ⟨y, hy⟩ : ∃ y, ys[i]? = some y := ⟨_, List.getElem?_eq_getElem (by rw [HYL.out.1]; exact hlt)⟩
          have hz := HZ'.out i hlt
          obtain ⟨t, ht⟩ : ∃ t, i * k = t := ⟨_, rfl⟩
          have htl : t < 65536 := by
            have hn := HN.out
            have := Nat.mul_le_mul (show i ≤ 255 by omega) (show k ≤ 255 by omega)
            omega
          have HQk := HQ'.out wr fb (HF8.out.below HB.out) i t y ht htl hy
          have HMk := HM'.out wr fb (HF8.out.below HB.out)
          have c1 := (HY8.out.below HB.out).at0 hy
          have c2 := (HZ8.out.below HB.out).at0 hz
          have q1 : (i : Int) < (j : Int) := ltI hlt
          have q2 : (j : Int) ≤ 256 := by have := HN.out; omega
          have t16 : t ≤ 16777216 := by omega
          have j16 : j ≤ 16777216 := by omega
          obtain ⟨r1, r1'⟩ := mulI' ht t16
          have r2 := wrU t16
          have r3 := wrU j16
          have yy : ((y : Int) != (y : Int)) = false := by simp
          clear hy hz htl t16 j16
          by_cases h0 : i = 0
          · have ht0 : t = 0 := by rw [← ht, h0, Nat.zero_mul]
            subst h0
            subst ht0
            rw [if_pos rfl] at c2
            rw [show ((0 : Nat) : Int) = 0 from rfl] at HQk
            clear ht r1 r1' r2
            have zz : ((z0 : Int) != (z0 : Int)) = false := by simp
            go_wp2_with (go_at_call 12; with_reducible refine AnsW.use0 HMk fun n9 => ?_)
            go_quiet ((go_at_call 13; with_reducible first | exact AnsW.quiet0 HQk | exact AnsW.quiet HQk))
            have HB9 : Hid (Below w8.heap.size w8 (wr.drewN (n9 + nq))) := bb HB.out (below_drewN _ _)
            clear HB
            go_wp2
            go_roundw
            case rel => exact ⟨0 + 1, by go_num, by omega, HB9⟩
            case measure => simp [intOf]; omega
          · clear ht
            have i0 : ¬ (i : Int) = 0 := by omega
            have i0' : ((i : Int) == 0) = false := by simp; omega
            rw [if_neg h0] at c2
            go_wp2
            go_quiet ((go_at_call 13; with_reducible first | exact AnsW.quiet0 HQk | exact AnsW.quiet HQk))
            have HB9 : Hid (Below w8.heap.size w8 (wr.drewN nq)) := bb HB.out (below_drewN _ _)
            clear HB
            go_wp2
            go_roundw
            case rel => exact ⟨i + 1, by go_num, by omega, HB9⟩
            case measure => simp [intOf]; omega
        · obtain rfl : i = j := by omega
          have HB9 : Hid (Below w.heap.size w wr) := bb HB8.out HB.out
          clear HB
          go_wp2
          go_ret
          exact ⟨rfl, HB9.out⟩
theorem alone_any (W : World) (kind z : Int) (hz : z < 9223372036854775808) (q : Nat) (hq : q < 18446744073709551616) (A : Option Addr) (C : Nat) (es : List En) (hE : EntsAt W A C es) (hfs : ∀ x ∈ es, x.fs.length * 16 ≤ 140737488355328) (n : Int) (hn : n < 9223372036854775808) (a : Int) (ha : a < 9223372036854775808) (u : Nat) (hu : u < 18446744073709551616) :
    AnsB W 4 #[srcV kind z (q : Int) A es.length C, .int .i64 n, .int .i64 a, .int .u64 (u : Int)] (.bool true) := by
  rcases made_any W kind z hz q hq A C es hE hfs with HM | ⟨x, hF, HM⟩
  · exact alone_none W kind z q A _ C n a u HM
  · obtain ⟨h3, hodd, hlt⟩ := hF.num
    have pz : ((x.p : Int) == 0) = false := by simp; omega
    by_cases c1 : n < 1
    · exact alone_less W kind z q A _ C n a u x.p x.g x (by omega) hlt pz HM c1 (decide_eq_true c1)
    · by_cases c2 : 256 < n
      · exact alone_more W kind z q A _ C n a u x.p x.g x (by omega) hlt pz HM c2 (decide_eq_false c1) (decide_eq_true c2)
      · by_cases c3 : (x.p : Int) ≤ (u : Int)
        · exact alone_great W kind z q A _ C n a u x.p x.g x (by omega) hlt pz HM (by omega) (decide_eq_false c1) (decide_eq_false c2) c3 (decide_eq_true c3)
        · obtain ⟨m, rfl⟩ := Int.eq_ofNat_of_zero_le (show 0 ≤ n by omega)
          obtain ⟨k, hk⟩ : ∃ k, (IntKind.u64.wrap a % (m : Int)).toNat = k := ⟨_, rfl⟩
          have hm0 : (0 : Int) < (m : Int) := by omega
          have e1 := Int.emod_nonneg (IntKind.u64.wrap a) (show (m : Int) ≠ 0 by omega)
          have e2 := Int.emod_lt_of_pos (IntKind.u64.wrap a) hm0
          have hkm : (IntKind.u64.wrap a).tmod (m : Int) = (k : Int) := by
            rw [Int.tmod_eq_emod_of_nonneg (by rw [IntKind.wrap_u64]; exact Int.emod_nonneg _ (by decide)), ← hk, Int.toNat_of_nonneg e1]
          have hkl : k < m := by omega
          clear hk e1 e2
          have HFA : ∀ w A C, Below W.heap.size W w → UAt w A C (lf m fun j => if j = k then 1 else 0) → AnsW w 9 #[.int .u64 (x.p : Int), .slice A m C] (.int .i64 (ck2 x.p (lf m fun j => if j = k then 1 else 0))) := fun w A C _ hU => by
            have := fault_any (p := x.p) (by omega) (by omega) hU
            rwa [lf_len] at this
          by_cases hc : ck2 x.p (lf m fun j => if j = k then 1 else 0) = 0
          · rw [hc] at HFA
            obtain ⟨_, _, _, hd, _⟩ := ck2_ok hc
            rw [lf_len] at hd
            have hc2 : ck2 x.p (lf m fun _ => u) = 0 := ck2_flat hc (by omega)
            have hr := twR_lt hF m false
            refine alone_yes W kind z q A _ C x.p x.g x (by omega) hlt pz HM m k u a (by omega) (by omega) hkl hkm (by omega) (dT x false (lf m fun j => if j = k then 1 else 0)) (dT x false (lf m fun _ => u)) (twR x m false) (u * m % x.p) (by rw [dT_len, lf_len]) (by rw [dT_len, lf_len])
              (fun y hy => by have := dT_lt hF false _ y hy; omega) (fun y hy => by have := dT_lt hF false _ y hy; omega) HFA
              (fun w b B D F U => by have := runq_ok F hF U hc false; rwa [lf_len] at this) (fun w b B D F U => by have := runq_ok F hF U hc2 false; rwa [lf_len] at this)
              (fun w b F => by have := fRoot_any F (by have := hF.gl; omega) m (by omega) (by omega) hd; rw [twR_fwd]; exact this)
              (fun w b F i t y ht htl hy => ?_) (fun w b F => fMul_any F _ _ (by omega) (by omega)) (fun i hi => dT_flat hF (by omega) hd hi)
            have hi : i < m := by
              have := (List.getElem?_eq_some_iff.1 hy).1
              rwa [dT_len, lf_len] at this
            rw [dT_alone hF hkl hi, ht] at hy
            cases hy
            exact fPow_any F _ _ (by omega) (by omega)
          · exact alone_err W kind z q A _ C x.p x.g x (by omega) hlt pz HM m k u a (by omega) (by omega) hkl hkm (by omega) _ (by simp only [bne_iff_ne, ne_eq]; exact hc) HFA
end Go.Proofs.YtehljcflodilhaaGreat

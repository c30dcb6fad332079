/-
  The statement Radix2Back: true, of all sources and lists. No condition but that the library's table lies there.
-/
import Derived.Test.YtmeefipdbeifeaaGreatDoorRxL2
namespace Go.Proofs.YtmeefipdbeifeaaGreatDoor
set_option linter.unusedVariables false
open Go.RowKit

set_option maxRecDepth 100000 in
set_option maxHeartbeats 4000000 in
theorem back_none (W : World) (kind z q : Int) (A : Option Addr) (L C : Nat) (HAL : AnsB W 7 #[] (.bool true)) (B : Option Addr) (n D : Nat) (hlen : (n : Int) ≤ 9223372036854775807) (HM : AnsB W 8 #[srcV kind z q A L C] noV) : AnsB W 5 #[srcV kind z q A L C, .slice B n D] (.bool true) := by
  intro w hw
  obtain ⟨t0, t1, t2, t3⟩ := four_cells w (.int .i64 kind) (.int .i64 z) (.int .u64 q) (.slice A L C) 25
  obtain ⟨V, hV⟩ : ∃ V, w.alloc (.cells #[.int .i64 kind, .int .i64 z, .int .u64 q, .slice A L C] 25) = V := ⟨_, rfl⟩
  have hBV : Below w.heap.size w V := hV ▸ below_alloc _ _
  obtain ⟨bo, hbo⟩ : ∃ bo, w.heap.size = bo := ⟨_, rfl⟩
  have hVs : bo < V.heap.size := by rw [← hV, ← hbo]; simp
  rw [hV, hbo] at t0 t1 t2 t3
  have hWV := bb hw hBV
  go_enter Tryz.func5, Tryz.ntmps5
  go_wp2_with (first
    | (go_at_call 7; with_reducible refine AnsB.use HAL hWV fun w1 hb1 => ?_; have s0 := keep_cell hb1 hVs t0; have s1 := keep_cell hb1 hVs t1; have s2 := keep_cell hb1 hVs t2; have s3 := keep_cell hb1 hVs t3; have hW1 := bb hWV hb1)
    | (go_at_call 8; with_reducible refine AnsB.use HM hW1 fun w2 hb2 => ?_; have hW2 := bb hW1 hb2))
  go_ret
  exact ⟨rfl, bb hBV (bb hb1 hb2)⟩
set_option maxRecDepth 100000 in
set_option maxHeartbeats 4000000 in
theorem back_long (W : World) (kind z q : Int) (A : Option Addr) (L C : Nat) (HAL : AnsB W 7 #[] (.bool true)) (B : Option Addr) (n D : Nat) (hlen : (n : Int) ≤ 9223372036854775807) (p g : Nat) (x : En) (p0 : 2 < p) (p1 : p < 9223372036854775808) (pz : ((p : Int) == 0) = false) (HM : Made W (srcV kind z q A L C) (p : Int) (g : Int) x) (h : 256 < (n : Int)) (hd : decide ((256 : Int) < (n : Int)) = true) : AnsB W 5 #[srcV kind z q A L C, .slice B n D] (.bool true) := by
  intro w hw
  obtain ⟨t0, t1, t2, t3⟩ := four_cells w (.int .i64 kind) (.int .i64 z) (.int .u64 q) (.slice A L C) 25
  obtain ⟨V, hV⟩ : ∃ V, w.alloc (.cells #[.int .i64 kind, .int .i64 z, .int .u64 q, .slice A L C] 25) = V := ⟨_, rfl⟩
  have hBV : Below w.heap.size w V := hV ▸ below_alloc _ _
  obtain ⟨bo, hbo⟩ : ∃ bo, w.heap.size = bo := ⟨_, rfl⟩
  have hVs : bo < V.heap.size := by rw [← hV, ← hbo]; simp
  rw [hV, hbo] at t0 t1 t2 t3
  have hWV := bb hw hBV
  go_enter Tryz.func5, Tryz.ntmps5
  go_wp2_with (first
    | (go_at_call 7; with_reducible refine AnsB.use HAL hWV fun w1 hb1 => ?_; have s0 := keep_cell hb1 hVs t0; have s1 := keep_cell hb1 hVs t1; have s2 := keep_cell hb1 hVs t2; have s3 := keep_cell hb1 hVs t3; have hW1 := bb hWV hb1)
    | (go_at_call 8; with_reducible refine Made.use HM hW1 fun fb w2 hF hb2 => ?_; have hW2 := bb hW1 hb2))
  go_ret
  exact ⟨rfl, bb hBV (bb hb1 hb2)⟩
set_option maxRecDepth 100000 in
set_option maxHeartbeats 4000000 in
theorem back_kind (W : World) (kind z q : Int) (A : Option Addr) (L C : Nat) (HAL : AnsB W 7 #[] (.bool true)) (B : Option Addr) (n D : Nat) (hlen : (n : Int) ≤ 9223372036854775807) (p g : Nat) (x : En) (p0 : 2 < p) (p1 : p < 9223372036854775808) (pz : ((p : Int) == 0) = false) (HM : Made W (srcV kind z q A L C) (p : Int) (g : Int) x) (h : (n : Int) ≤ 256) (hd : decide ((256 : Int) < (n : Int)) = false) (HF : Ans 13 #[.int .i64 (n : Int)] (.bool false)) : AnsB W 5 #[srcV kind z q A L C, .slice B n D] (.bool true) := by
  intro w hw
  obtain ⟨t0, t1, t2, t3⟩ := four_cells w (.int .i64 kind) (.int .i64 z) (.int .u64 q) (.slice A L C) 25
  obtain ⟨V, hV⟩ : ∃ V, w.alloc (.cells #[.int .i64 kind, .int .i64 z, .int .u64 q, .slice A L C] 25) = V := ⟨_, rfl⟩
  have hBV : Below w.heap.size w V := hV ▸ below_alloc _ _
  obtain ⟨bo, hbo⟩ : ∃ bo, w.heap.size = bo := ⟨_, rfl⟩
  have hVs : bo < V.heap.size := by rw [← hV, ← hbo]; simp
  rw [hV, hbo] at t0 t1 t2 t3
  have hWV := bb hw hBV
  go_enter Tryz.func5, Tryz.ntmps5
  go_wp2_with (first
    | (go_at_call 7; with_reducible refine AnsB.use HAL hWV fun w1 hb1 => ?_; have s0 := keep_cell hb1 hVs t0; have s1 := keep_cell hb1 hVs t1; have s2 := keep_cell hb1 hVs t2; have s3 := keep_cell hb1 hVs t3; have hW1 := bb hWV hb1)
    | (go_at_call 8; with_reducible refine Made.use HM hW1 fun fb w2 hF hb2 => ?_; have hW2 := bb hW1 hb2)
    | (go_at_call 13; with_reducible refine Ans.use HF _ fun n8 => ?_))
  go_ret
  exact ⟨rfl, bb hBV (bb hb1 (bb hb2 (below_drewN _ _)))⟩
set_option maxRecDepth 100000 in
set_option maxHeartbeats 4000000 in
theorem back_chk (W : World) (kind z q : Int) (A : Option Addr) (L C : Nat) (HAL : AnsB W 7 #[] (.bool true)) (B : Option Addr) (n D : Nat) (hlen : (n : Int) ≤ 9223372036854775807) (p g : Nat) (x : En) (p0 : 2 < p) (p1 : p < 9223372036854775808) (pz : ((p : Int) == 0) = false) (HM : Made W (srcV kind z q A L C) (p : Int) (g : Int) x) (h : (n : Int) ≤ 256) (hd : decide ((256 : Int) < (n : Int)) = false) (HF : Ans 13 #[.int .i64 (n : Int)] (.bool true)) (e : Int) (he : (e != 0) = true) (HC : Ans 12 #[.int .u64 (p : Int), .int .i64 (n : Int), .int .i64 256] (.int .i64 e)) : AnsB W 5 #[srcV kind z q A L C, .slice B n D] (.bool true) := by
  intro w hw
  obtain ⟨t0, t1, t2, t3⟩ := four_cells w (.int .i64 kind) (.int .i64 z) (.int .u64 q) (.slice A L C) 25
  obtain ⟨V, hV⟩ : ∃ V, w.alloc (.cells #[.int .i64 kind, .int .i64 z, .int .u64 q, .slice A L C] 25) = V := ⟨_, rfl⟩
  have hBV : Below w.heap.size w V := hV ▸ below_alloc _ _
  obtain ⟨bo, hbo⟩ : ∃ bo, w.heap.size = bo := ⟨_, rfl⟩
  have hVs : bo < V.heap.size := by rw [← hV, ← hbo]; simp
  rw [hV, hbo] at t0 t1 t2 t3
  have hWV := bb hw hBV
  go_enter Tryz.func5, Tryz.ntmps5
  go_wp2_with (first
    | (go_at_call 7; with_reducible refine AnsB.use HAL hWV fun w1 hb1 => ?_; have s0 := keep_cell hb1 hVs t0; have s1 := keep_cell hb1 hVs t1; have s2 := keep_cell hb1 hVs t2; have s3 := keep_cell hb1 hVs t3; have hW1 := bb hWV hb1)
    | (go_at_call 8; with_reducible refine Made.use HM hW1 fun fb w2 hF hb2 => ?_; have hW2 := bb hW1 hb2)
    | (go_at_call 13; with_reducible refine Ans.use HF _ fun n8 => ?_)
    | (go_at_call 12; with_reducible refine Ans.use HC _ fun n6 => ?_))
  go_ret
  exact ⟨rfl, bb hBV (bb hb1 (bb hb2 (below_drewN _ _)))⟩
set_option maxRecDepth 100000 in
set_option maxHeartbeats 4000000 in
theorem back_bad (W : World) (kind z q : Int) (A : Option Addr) (L C : Nat) (HAL : AnsB W 7 #[] (.bool true)) (B : Option Addr) (n D : Nat) (hlen : (n : Int) ≤ 9223372036854775807) (p g : Nat) (x : En) (p0 : 2 < p) (p1 : p < 9223372036854775808) (pz : ((p : Int) == 0) = false) (HM : Made W (srcV kind z q A L C) (p : Int) (g : Int) x) (h : (n : Int) ≤ 256) (hd : decide ((256 : Int) < (n : Int)) = false) (HF : Ans 13 #[.int .i64 (n : Int)] (.bool true)) (HC : Ans 12 #[.int .u64 (p : Int), .int .i64 (n : Int), .int .i64 256] (.int .i64 0)) (HG : ∀ w, Below W.heap.size W w → AnsW w 14 #[.int .u64 (p : Int), .slice B n D] (.bool false)) : AnsB W 5 #[srcV kind z q A L C, .slice B n D] (.bool true) := by
  intro w hw
  obtain ⟨t0, t1, t2, t3⟩ := four_cells w (.int .i64 kind) (.int .i64 z) (.int .u64 q) (.slice A L C) 25
  obtain ⟨V, hV⟩ : ∃ V, w.alloc (.cells #[.int .i64 kind, .int .i64 z, .int .u64 q, .slice A L C] 25) = V := ⟨_, rfl⟩
  have hBV : Below w.heap.size w V := hV ▸ below_alloc _ _
  obtain ⟨bo, hbo⟩ : ∃ bo, w.heap.size = bo := ⟨_, rfl⟩
  have hVs : bo < V.heap.size := by rw [← hV, ← hbo]; simp
  rw [hV, hbo] at t0 t1 t2 t3
  have hWV := bb hw hBV
  go_enter Tryz.func5, Tryz.ntmps5
  go_wp2_with (first
    | (go_at_call 7; with_reducible refine AnsB.use HAL hWV fun w1 hb1 => ?_; have s0 := keep_cell hb1 hVs t0; have s1 := keep_cell hb1 hVs t1; have s2 := keep_cell hb1 hVs t2; have s3 := keep_cell hb1 hVs t3; have hW1 := bb hWV hb1)
    | (go_at_call 8; with_reducible refine Made.use HM hW1 fun fb w2 hF hb2 => ?_; have hW2 := bb hW1 hb2; have HG2 := HG w2 hW2)
    | (go_at_call 13; with_reducible refine Ans.use HF _ fun n8 => ?_)
    | (go_at_call 12; with_reducible refine Ans.use HC _ fun n6 => ?_)
    | (go_at_call 14; with_reducible refine AnsW.use HG2 _ fun n7 => ?_))
  go_ret
  exact ⟨rfl, bb hBV (bb hb1 (bb hb2 (below_drewN _ _)))⟩
set_option maxRecDepth 100000 in
set_option maxHeartbeats 4000000 in
theorem back_yes (W : World) (kind z q : Int) (A : Option Addr) (L C : Nat) (HAL : AnsB W 7 #[] (.bool true)) (B : Option Addr) (n D : Nat) (hlen : (n : Int) ≤ 9223372036854775807) (hD0 : DeB W) (xs ys : List Nat) (hX : UAt W B D xs) (h1 : 1 ≤ n) (hxl : xs.length = n) (hal : ys.length = n) (hxs : ∀ y ∈ xs, y < 18446744073709551616) (has : ∀ y ∈ ys, y < 18446744073709551616) (p g : Nat) (x : En) (p0 : 2 < p) (p1 : p < 9223372036854775808) (pz : ((p : Int) == 0) = false) (HM : Made W (srcV kind z q A L C) (p : Int) (g : Int) x) (h : (n : Int) ≤ 256) (hd : decide ((256 : Int) < (n : Int)) = false) (HF : Ans 13 #[.int .i64 (n : Int)] (.bool true)) (HC : Ans 12 #[.int .u64 (p : Int), .int .i64 (n : Int), .int .i64 256] (.int .i64 0))
    (HG : ∀ w, Below W.heap.size W w → AnsW w 14 #[.int .u64 (p : Int), .slice B n D] (.bool true))
    (H1 : (∀ (w : World) (b : Nat) (B : Option Addr) (D : Nat), FieldAt w b x → DeB w → UAt w B D xs → OwnT w 9 #[pt b, .slice B n D, .bool false] ys))
    (H2 : (∀ (w : World) (b : Nat) (B : Option Addr) (D : Nat), FieldAt w b x → DeB w → UAt w B D xs → OwnT w 10 #[pt b, .slice B n D, .bool false] ys))
    (H3 : (∀ (w : World) (b : Nat) (B : Option Addr) (D : Nat), FieldAt w b x → DeB w → UAt w B D ys → OwnT w 10 #[pt b, .slice B n D, .bool true] xs))
    (H4 : (∀ (w : World) (b : Nat) (B : Option Addr) (D : Nat), FieldAt w b x → DeB w → UAt w B D ys → OwnT w 9 #[pt b, .slice B n D, .bool true] xs)) : AnsB W 5 #[srcV kind z q A L C, .slice B n D] (.bool true) := by
  intro w hw
  obtain ⟨t0, t1, t2, t3⟩ := four_cells w (.int .i64 kind) (.int .i64 z) (.int .u64 q) (.slice A L C) 25
  obtain ⟨V, hV⟩ : ∃ V, w.alloc (.cells #[.int .i64 kind, .int .i64 z, .int .u64 q, .slice A L C] 25) = V := ⟨_, rfl⟩
  have hBV : Below w.heap.size w V := hV ▸ below_alloc _ _
  obtain ⟨bo, hbo⟩ : ∃ bo, w.heap.size = bo := ⟨_, rfl⟩
  have hVs : bo < V.heap.size := by rw [← hV, ← hbo]; simp
  rw [hV, hbo] at t0 t1 t2 t3
  have hWV := bb hw hBV
  have HN : Hid (1 ≤ n) := h1
  have HXL : Hid (xs.length = n) := hxl
  have HAL2 : Hid (ys.length = n) := hal
  clear h1 hxl hal
  go_enter Tryz.func5, Tryz.ntmps5
  go_wp2_with (first
    | (go_at_call 7; with_reducible refine AnsB.use HAL hWV fun w1 hb1 => ?_; have s0 := keep_cell hb1 hVs t0; have s1 := keep_cell hb1 hVs t1; have s2 := keep_cell hb1 hVs t2; have s3 := keep_cell hb1 hVs t3; have hW1 := bb hWV hb1)
    | (go_at_call 8; with_reducible refine Made.use HM hW1 fun fb w2 hF hb2 => ?_; have hW2 := bb hW1 hb2; have HG2 := HG w2 hW2)
    | (go_at_call 13; with_reducible refine Ans.use HF _ fun n8 => ?_)
    | (go_at_call 12; with_reducible refine Ans.use HC _ fun n6 => ?_)
    | (go_at_call 14; with_reducible refine AnsW.use HG2 _ fun n7 => ?_)
    | (go_at_call 9; with_reducible refine OwnT.useG HR4 HXL.out HN.out (Below.refl _ _) fun g6 C6 w6 hO6 hb6 => ?_; have hX6 := hX5.below hb6; have U3 := hO3.words has; have U4 := (hO4.words has); have hA6 := ((U3.below hb4).below hb5).below hb6; have hB6 := (U4.below hb5).below hb6; have hC6 := (hO5.words hxs).below hb6; have hD6 := hO6.words hxs; have HQ1 := same_yes hA6 hB6 HAL2.out)
    | (go_at_call 9; with_reducible refine OwnT.useG (H1 _ fb B D (hF.below (below_drewN w2 _)) ((hD0.below hW2).below (below_drewN w2 _)) ((hX.below hW2).below (below_drewN w2 _))) HAL2.out HN.out (Below.refl _ _) fun g3 C3 w3 hO3 hb3 => ?_; have hW3 := bb (bb hW2 (below_drewN w2 _)) hb3; have hF3 := (hF.below (below_drewN w2 _)).below hb3; have hX3 := hX.below hW3; have HR2 := H2 w3 fb B D hF3 (hD0.below hW3) hX3)
    | (go_at_call 10; with_reducible refine OwnT.useG HR3 HXL.out HN.out (Below.refl _ _) fun g5 C5 w5 hO5 hb5 => ?_; have hX5 := (hX4.below hb5); have HR4 := H4 w5 fb _ _ (hF4.below hb5) (hD4.below hb5) ((hO4.words has).below hb5))
    | (go_at_call 10; with_reducible refine OwnT.useG HR2 HAL2.out HN.out (Below.refl _ _) fun g4 C4 w4 hO4 hb4 => ?_; have hF4 := hF3.below hb4; have hD4 := (hD0.below hW3).below hb4; have hX4 := hX3.below hb4; have HR3 := H3 w4 fb _ _ hF4 hD4 ((hO3.words has).below hb4))
    | (go_at_call 11; with_reducible refine AnsB.use HQ3 (Below.refl _ _) fun w9 hb9 => ?_)
    | (go_at_call 11; with_reducible refine AnsB.use HQ2 (Below.refl _ _) fun w8 hb8 => ?_; have HQ3 := same_yes ((hD6.below hb7).below hb8) ((hX6.below hb7).below hb8) HXL.out)
    | (go_at_call 11; with_reducible refine AnsB.use HQ1 (Below.refl _ _) fun w7 hb7 => ?_; have HQ2 := same_yes (hC6.below hb7) (hX6.below hb7) HXL.out))
  go_ret
  exact ⟨rfl, bb hBV (bb hb1 (bb hb2 (bb (below_drewN w2 _) (bb hb3 (bb hb4 (bb hb5 (bb hb6 (bb hb7 (bb hb8 hb9)))))))))⟩
theorem ck2_of {p m : Nat} {xs : List Nat} (hm : m ≤ 4096) (h : ckD p (xs.length : Int) (m : Int) = 0) (hf : fitV (xs.length : Int) = true) (hg : goodB p xs = true) : ck2 p xs = 0 := by
  obtain ⟨h1, h2, hd⟩ := ckD_ok h
  exact ck2_yes (ckD_yes h1 (by omega) hd) hf hg
theorem ck2_dT {x : En} (hF : Fld x) {i : Bool} {xs : List Nat} (h : ck2 x.p xs = 0) : ck2 x.p (dT x i xs) = 0 := by
  obtain ⟨c, hc, hl, hd, hg⟩ := ck2_ok h
  have hf : fitV (xs.length : Int) = true := by
    cases hf : fitV (xs.length : Int)
    · by_cases h0 : ckD x.p (xs.length : Int) 4096 = 0
      · rw [ck2_kind h0 hf] at h; cases h
      · rw [ck2_check h0] at h; exact absurd h h0
    · rfl
  have h1 : 1 ≤ xs.length := by rw [hl]; exact Nat.two_pow_pos c
  have hn : xs.length ≤ 4096 := by rw [hl]; exact two_le hc
  exact ck2_yes (by rw [dT_len]; exact ckD_yes h1 (by omega) hd) (by rw [dT_len]; exact hf) (goodB_iff.2 (dT_lt hF i xs))
theorem back_any (W : World) (hD0 : DeB W) (kind z : Int) (hz : z < 9223372036854775808) (q : Nat) (hq : q < 18446744073709551616) (A : Option Addr) (C : Nat) (es : List En) (hE : EntsAt W A C es) (hfs : ∀ x ∈ es, x.fs.length * 16 ≤ 140737488355328) (B : Option Addr) (D : Nat) (xs : List Nat) (hX : UAt W B D xs) :
    AnsB W 5 #[srcV kind z (q : Int) A es.length C, .slice B xs.length D] (.bool true) := by
  have hlen := hX.len
  have HAL := alive12 hD0
  rcases made_any W kind z hz q hq A C es hE hfs with HM | ⟨x, hF, HM⟩
  · exact back_none W kind z q A _ C HAL B _ D hlen HM
  · obtain ⟨h3, hodd, hlt⟩ := hF.num
    have pz : ((x.p : Int) == 0) = false := by simp; omega
    by_cases hl : 256 < (xs.length : Int)
    · exact back_long W kind z q A _ C HAL B _ D hlen x.p x.g x (by omega) hlt pz HM hl (decide_eq_true hl)
    · have HC := dcheck_any x.p (by omega) (by omega) (xs.length : Int) 256 (by omega)
      have HF := dfits_any (xs.length : Int)
      have HG : ∀ w, Below W.heap.size W w → AnsW w 14 #[.int .u64 (x.p : Int), .slice B xs.length D] (.bool (goodB x.p xs)) := fun w hw => dgood_any w x.p B D xs (hX.below hw)
      cases hf : fitV (xs.length : Int)
      · rw [hf] at HF
        exact back_kind W kind z q A _ C HAL B _ D hlen x.p x.g x (by omega) hlt pz HM (by omega) (decide_eq_false hl) HF
      · rw [hf] at HF
        by_cases hc : ckD x.p (xs.length : Int) 256 = 0
        · rw [hc] at HC
          cases hg : goodB x.p xs
          · rw [hg] at HG
            exact back_bad W kind z q A _ C HAL B _ D hlen x.p x.g x (by omega) hlt pz HM (by omega) (decide_eq_false hl) HF HC HG
          · rw [hg] at HG
            obtain ⟨h1, h2, hd⟩ := ckD_ok hc
            have hk := ck2_of (m := 256) (by omega) hc hf hg
            have hk2 := ck2_dT (i := false) hF hk
            have hgy := goodB_iff.1 hg
            have hys : ∀ y ∈ dT x false xs, y < 18446744073709551616 := fun y hy => by have := dT_lt hF false xs y hy; omega
            refine back_yes W kind z q A _ C HAL B _ D hlen hD0 xs (dT x false xs) hX h1 rfl (dT_len _ _ _) hX.small hys x.p x.g x (by omega) hlt pz HM (by omega) (decide_eq_false hl) HF HC HG
              (fun w b B D F T U => up_yes F hF T U hk false) (fun w b B D F T U => down_yes F hF T U hk false) (fun w b B D F T U => ?_) (fun w b B D F T U => ?_)
            · have := down_yes F hF T U hk2 true
              rw [dT_len, dT_back hF h1 hd hgy] at this
              exact this
            · have := up_yes F hF T U hk2 true
              rw [dT_len, dT_back hF h1 hd hgy] at this
              exact this
        · exact back_chk W kind z q A _ C HAL B _ D hlen x.p x.g x (by omega) hlt pz HM (by omega) (decide_eq_false hl) HF _ (by simp only [bne_iff_ne, ne_eq]; exact hc) HC
end Go.Proofs.YtmeefipdbeifeaaGreatDoor

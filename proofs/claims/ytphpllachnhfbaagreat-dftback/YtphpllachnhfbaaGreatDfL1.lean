/-
  The statement DftBack: true, of all sources and lists.
-/
import Derived.Test.YtphpllachnhfbaaGreatDfA
namespace Go.Proofs.YtphpllachnhfbaaGreat
set_option linter.unusedVariables false
open Go.RowKit

set_option maxRecDepth 100000 in
set_option maxHeartbeats 4000000 in
theorem back_none (W : World) (kind z q : Int) (A : Option Addr) (L C : Nat) (B : Option Addr) (n D : Nat) (hlen : (n : Int) ≤ 9223372036854775807) (HM : FitN W (srcV kind z q A L C) (.slice B n D)) : AnsB W 5 #[srcV kind z q A L C, .slice B n D] (.bool true) := by
  intro w hw
  obtain ⟨t0, t1, t2, t3⟩ := four_cells w (.int .i64 kind) (.int .i64 z) (.int .u64 q) (.slice A L C) 25
  obtain ⟨V, hV⟩ : ∃ V, w.alloc (.cells #[.int .i64 kind, .int .i64 z, .int .u64 q, .slice A L C] 25) = V := ⟨_, rfl⟩
  have hBV : Below w.heap.size w V := hV ▸ below_alloc _ _
  obtain ⟨bo, hbo⟩ : ∃ bo, w.heap.size = bo := ⟨_, rfl⟩
  have hVs : bo < V.heap.size := by rw [← hV, ← hbo]; simp
  rw [hV, hbo] at t0 t1 t2 t3
  have hWV := bb hw hBV
  go_enter Tryz.func5, Tryz.ntmps5
  go_wp2_with (first
    | (go_at_call 10; with_reducible refine AnsM.use alive11 fun w1 hb1 => ?_; have s0 := keep_cell hb1 hVs t0; have s1 := keep_cell hb1 hVs t1; have s2 := keep_cell hb1 hVs t2; have s3 := keep_cell hb1 hVs t3; have hW1 := bb hWV hb1)
    | (go_at_call 21; with_reducible refine FitN.use HM hW1 fun fa fp w2 hb2 => ?_))
  go_ret
  exact ⟨rfl, bb hBV (bb hb1 hb2)⟩
set_option maxRecDepth 100000 in
set_option maxHeartbeats 4000000 in
theorem back_yes (W : World) (kind z q : Int) (A : Option Addr) (L C : Nat) (B : Option Addr) (n D : Nat) (xs ys cs : List Nat) (hX : UAt W B D xs) (hN : 1 ≤ n ∧ n ≤ 64) (hxl : xs.length = n) (hal : ys.length = n) (hcl : cs.length = n) (hxs : ∀ y ∈ xs, y < 18446744073709551616) (has : ∀ y ∈ ys, y < 18446744073709551616) (hcs : ∀ y ∈ cs, y < 18446744073709551616) (p : Int) (x : En) (HM : FitY W (srcV kind z q A L C) (.slice B n D) p x)
    (H1 : (∀ (w : World) (b : Nat) (B : Option Addr) (D : Nat), FieldAt w b x → UAt w B D xs → OwnT w 12 #[pt b, .slice B n D, .bool false] ys))
    (H2 : (∀ (w : World) (b : Nat) (B : Option Addr) (D : Nat), FieldAt w b x → UAt w B D ys → OwnT w 12 #[pt b, .slice B n D, .bool true] xs))
    (H3 : (∀ (w : World) (b : Nat) (B : Option Addr) (D : Nat), FieldAt w b x → UAt w B D xs → OwnT w 12 #[pt b, .slice B n D, .bool true] cs))
    (H4 : (∀ (w : World) (b : Nat) (B : Option Addr) (D : Nat), FieldAt w b x → UAt w B D cs → OwnT w 12 #[pt b, .slice B n D, .bool false] xs)) : AnsB W 5 #[srcV kind z q A L C, .slice B n D] (.bool true) := by
  intro w hw
  obtain ⟨t0, t1, t2, t3⟩ := four_cells w (.int .i64 kind) (.int .i64 z) (.int .u64 q) (.slice A L C) 25
  obtain ⟨V, hV⟩ : ∃ V, w.alloc (.cells #[.int .i64 kind, .int .i64 z, .int .u64 q, .slice A L C] 25) = V := ⟨_, rfl⟩
  have hBV : Below w.heap.size w V := hV ▸ below_alloc _ _
  obtain ⟨bo, hbo⟩ : ∃ bo, w.heap.size = bo := ⟨_, rfl⟩
  have hVs : bo < V.heap.size := by rw [← hV, ← hbo]; simp
  rw [hV, hbo] at t0 t1 t2 t3
  have hWV := bb hw hBV
  have HN : Hid (1 ≤ n ∧ n ≤ 64) := hN
  have HXL : Hid (xs.length = n) := hxl
  have HAL : Hid (ys.length = n) := hal
  have HCL : Hid (cs.length = n) := hcl
  have hlen : (n : Int) ≤ 9223372036854775807 := by omega
  clear hN hxl hal hcl
  go_enter Tryz.func5, Tryz.ntmps5
  go_wp2_with (first
    | (go_at_call 10; with_reducible refine AnsM.use alive11 fun w1 hb1 => ?_; have s0 := keep_cell hb1 hVs t0; have s1 := keep_cell hb1 hVs t1; have s2 := keep_cell hb1 hVs t2; have s3 := keep_cell hb1 hVs t3; have hW1 := bb hWV hb1)
    | (go_at_call 21; with_reducible refine FitY.use HM hW1 fun fb w2 hF hb2 => ?_; have hW2 := bb hW1 hb2; have hX2 := hX.below hW2; have HR1 := H1 w2 fb B D hF hX2)
    | (go_at_call 12; with_reducible refine OwnT.useG HR4 HXL.out HN.out.1 (Below.refl _ _) fun g4 C4 w6 hO4 hb6 => ?_; have U2 := ((hO2.words hxs).below hb5).below hb6; have U4 := hO4.words hxs; have hX6 := (((hX2.below hb3).below hb4).below hb5).below hb6; have HQ1 := same_yes U2 hX6 HXL.out)
    | (go_at_call 12; with_reducible refine OwnT.useG HR3 HCL.out HN.out.1 (Below.refl _ _) fun g3 C3 w5 hO3 hb5 => ?_; have HR4 := H4 w5 fb _ _ (((hF.below hb3).below hb4).below hb5) (hO3.words hcs))
    | (go_at_call 12; with_reducible refine OwnT.useG HR2 HXL.out HN.out.1 (Below.refl _ _) fun g2 C2 w4 hO2 hb4 => ?_; have HR3 := H3 w4 fb B D ((hF.below hb3).below hb4) ((hX2.below hb3).below hb4))
    | (go_at_call 12; with_reducible refine OwnT.useG HR1 HAL.out HN.out.1 (Below.refl _ _) fun g1 C1 w3 hO1 hb3 => ?_; have HR2 := H2 w3 fb _ _ (hF.below hb3) (hO1.words has))
    | (go_at_call 13; with_reducible refine AnsB.use HQ2 (Below.refl _ _) fun w8 hb8 => ?_)
    | (go_at_call 13; with_reducible refine AnsB.use HQ1 (Below.refl _ _) fun w7 hb7 => ?_; have HQ2 := same_yes (U4.below hb7) (hX6.below hb7) HXL.out))
  go_ret
  exact ⟨rfl, bb hBV (bb hb1 (bb hb2 (bb hb3 (bb hb4 (bb hb5 (bb hb6 (bb hb7 hb8)))))))⟩
theorem back_any (W : World) (kind z : Int) (hz : z < 9223372036854775808) (q : Nat) (hq : q < 18446744073709551616) (A : Option Addr) (C : Nat) (es : List En) (hE : EntsAt W A C es) (hfs : ∀ x ∈ es, x.fs.length * 16 ≤ 140737488355328) (B : Option Addr) (D : Nat) (xs : List Nat) (hX : UAt W B D xs) :
    AnsB W 5 #[srcV kind z (q : Int) A es.length C, .slice B xs.length D] (.bool true) := by
  rcases fit_any W kind z hz q hq A C es hE hfs B D xs hX with HM | ⟨x, hF, h1, h64, hd, hg, HM⟩
  · exact back_none W kind z q A _ C B _ D hX.len HM
  · obtain ⟨h3, hodd, hlt⟩ := hF.num
    have hf := dT_len x false xs
    have ht := dT_len x true xs
    refine back_yes W kind z q A _ C B _ D xs (dT x false xs) (dT x true xs) hX ⟨h1, h64⟩ rfl hf ht hX.small (fun y hy => by have := dT_lt hF false xs y hy; omega) (fun y hy => by have := dT_lt hF true xs y hy; omega) x.p x HM
      (fun w b B D F U => run_yes F hF U h1 (by omega) hd hg false) (fun w b B D F U => ?_) (fun w b B D F U => run_yes F hF U h1 (by omega) hd hg true) (fun w b B D F U => ?_)
    · have := run_yes F hF U (by omega) (by omega) (by rw [hf]; exact hd) (dT_lt hF false xs) true
      rw [hf, dT_back hF h1 hd hg] at this
      exact this
    · have := run_yes F hF U (by omega) (by omega) (by rw [ht]; exact hd) (dT_lt hF true xs) false
      rw [ht, dT_forth hF h1 hd hg] at this
      exact this
end Go.Proofs.YtphpllachnhfbaaGreat

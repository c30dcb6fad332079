/-
  The statement TwiddleVerifies: true, of all sources and tables.
-/
import Derived.Test.YtlmhhimcihobiaaGreatTwA
namespace Go.Proofs.YtlmhhimcihobiaaGreat
set_option linter.unusedVariables false
open Go.RowKit

set_option maxHeartbeats 1000000 in
theorem ver_none_long (W : World) (kind z q : Int) (A : Option Addr) (L C : Nat) (B : Option Addr) (n D : Nat) (hn : 300 < (n : Int)) (HM : AnsB W 8 #[srcV kind z q A L C] noV) : AnsB W 4 #[srcV kind z q A L C, .slice B n D] (.bool true) := by
  intro w hw
  obtain ⟨t0, t1, t2, t3⟩ := four_cells w (.int .i64 kind) (.int .i64 z) (.int .u64 q) (.slice A L C) 25
  obtain ⟨V, hV⟩ : ∃ V, w.alloc (.cells #[.int .i64 kind, .int .i64 z, .int .u64 q, .slice A L C] 25) = V := ⟨_, rfl⟩
  have hBV : Below w.heap.size w V := hV ▸ below_alloc _ _
  obtain ⟨bo, hbo⟩ : ∃ bo, w.heap.size = bo := ⟨_, rfl⟩
  have hVs : bo < V.heap.size := by rw [← hV, ← hbo]; simp
  rw [hV, hbo] at t0 t1 t2 t3
  have hWV := bb hw hBV
  go_enter Tryz.func4, Tryz.ntmps4
  go_wp2_with (first
    | (go_at_call 7; with_reducible refine AnsM.use alive10 fun w1 hb1 => ?_; have s0 := keep_cell hb1 hVs t0; have s1 := keep_cell hb1 hVs t1; have s2 := keep_cell hb1 hVs t2; have s3 := keep_cell hb1 hVs t3; have hW1 := bb hWV hb1)
    | (go_at_call 8; with_reducible refine AnsB.use HM hW1 fun w2 hb2 => ?_; have hW2 := bb hW1 hb2))
  go_ret
  exact ⟨rfl, bb hBV (bb hb1 hb2)⟩
set_option maxHeartbeats 1000000 in
theorem ver_none (W : World) (kind z q : Int) (A : Option Addr) (L C : Nat) (B : Option Addr) (n D : Nat) (hn : (n : Int) ≤ 300) (HM : AnsB W 8 #[srcV kind z q A L C] noV) : AnsB W 4 #[srcV kind z q A L C, .slice B n D] (.bool true) := by
  intro w hw
  obtain ⟨t0, t1, t2, t3⟩ := four_cells w (.int .i64 kind) (.int .i64 z) (.int .u64 q) (.slice A L C) 25
  obtain ⟨V, hV⟩ : ∃ V, w.alloc (.cells #[.int .i64 kind, .int .i64 z, .int .u64 q, .slice A L C] 25) = V := ⟨_, rfl⟩
  have hBV : Below w.heap.size w V := hV ▸ below_alloc _ _
  obtain ⟨bo, hbo⟩ : ∃ bo, w.heap.size = bo := ⟨_, rfl⟩
  have hVs : bo < V.heap.size := by rw [← hV, ← hbo]; simp
  rw [hV, hbo] at t0 t1 t2 t3
  have hWV := bb hw hBV
  go_enter Tryz.func4, Tryz.ntmps4
  go_wp2_with (first
    | (go_at_call 7; with_reducible refine AnsM.use alive10 fun w1 hb1 => ?_; have s0 := keep_cell hb1 hVs t0; have s1 := keep_cell hb1 hVs t1; have s2 := keep_cell hb1 hVs t2; have s3 := keep_cell hb1 hVs t3; have hW1 := bb hWV hb1)
    | (go_at_call 8; with_reducible refine AnsB.use HM hW1 fun w2 hb2 => ?_; have hW2 := bb hW1 hb2)
    | (go_at_call 15; with_reducible refine AnsW.use0 (verify_nil w2 B n D) fun n3 => ?_))
  go_ret
  exact ⟨rfl, bb hBV (bb hb1 (bb hb2 (below_drewN _ _)))⟩
set_option maxHeartbeats 1000000 in
theorem ver_long (W : World) (kind z q : Int) (A : Option Addr) (L C : Nat) (B : Option Addr) (n D : Nat) (hn : 300 < (n : Int)) (p g : Int) (x : En) (p0 : 2 < p) (p1 : p < 9223372036854775808) (pz : (p == 0) = false) (HM : Made W (srcV kind z q A L C) p g x) : AnsB W 4 #[srcV kind z q A L C, .slice B n D] (.bool true) := by
  intro w hw
  obtain ⟨t0, t1, t2, t3⟩ := four_cells w (.int .i64 kind) (.int .i64 z) (.int .u64 q) (.slice A L C) 25
  obtain ⟨V, hV⟩ : ∃ V, w.alloc (.cells #[.int .i64 kind, .int .i64 z, .int .u64 q, .slice A L C] 25) = V := ⟨_, rfl⟩
  have hBV : Below w.heap.size w V := hV ▸ below_alloc _ _
  obtain ⟨bo, hbo⟩ : ∃ bo, w.heap.size = bo := ⟨_, rfl⟩
  have hVs : bo < V.heap.size := by rw [← hV, ← hbo]; simp
  rw [hV, hbo] at t0 t1 t2 t3
  have hWV := bb hw hBV
  go_enter Tryz.func4, Tryz.ntmps4
  go_wp2_with (first
    | (go_at_call 7; with_reducible refine AnsM.use alive10 fun w1 hb1 => ?_; have s0 := keep_cell hb1 hVs t0; have s1 := keep_cell hb1 hVs t1; have s2 := keep_cell hb1 hVs t2; have s3 := keep_cell hb1 hVs t3; have hW1 := bb hWV hb1)
    | (go_at_call 8; with_reducible refine Made.use HM hW1 fun fb w2 hF hb2 => ?_; have hW2 := bb hW1 hb2))
  go_ret
  exact ⟨rfl, bb hBV (bb hb1 hb2)⟩
set_option maxHeartbeats 1000000 in
theorem ver_yes (W : World) (kind z q : Int) (A : Option Addr) (L C : Nat) (B : Option Addr) (n D : Nat) (hn : (n : Int) ≤ 300) (R : Bool) (p g : Int) (x : En) (p0 : 2 < p) (p1 : p < 9223372036854775808) (pz : (p == 0) = false) (HM : Made W (srcV kind z q A L C) p g x)
    (HV : ∀ w b, Below W.heap.size W w → FieldAt w b x → AnsB w 15 #[pt b, .slice B n D] (.bool R))
    (HR : ∀ w, Below W.heap.size W w → AnsW w 16 #[.int .u64 p, .slice B n D] (.bool R)) : AnsB W 4 #[srcV kind z q A L C, .slice B n D] (.bool true) := by
  intro w hw
  obtain ⟨t0, t1, t2, t3⟩ := four_cells w (.int .i64 kind) (.int .i64 z) (.int .u64 q) (.slice A L C) 25
  obtain ⟨V, hV⟩ : ∃ V, w.alloc (.cells #[.int .i64 kind, .int .i64 z, .int .u64 q, .slice A L C] 25) = V := ⟨_, rfl⟩
  have hBV : Below w.heap.size w V := hV ▸ below_alloc _ _
  obtain ⟨bo, hbo⟩ : ∃ bo, w.heap.size = bo := ⟨_, rfl⟩
  have hVs : bo < V.heap.size := by rw [← hV, ← hbo]; simp
  rw [hV, hbo] at t0 t1 t2 t3
  have hWV := bb hw hBV
  have hRR : (R == R) = true := by cases R <;> rfl
  go_enter Tryz.func4, Tryz.ntmps4
  go_wp2_with (first
    | (go_at_call 7; with_reducible refine AnsM.use alive10 fun w1 hb1 => ?_; have s0 := keep_cell hb1 hVs t0; have s1 := keep_cell hb1 hVs t1; have s2 := keep_cell hb1 hVs t2; have s3 := keep_cell hb1 hVs t3; have hW1 := bb hWV hb1)
    | (go_at_call 8; with_reducible refine Made.use HM hW1 fun fb w2 hF hb2 => ?_; have hW2 := bb hW1 hb2; have HV2 := HV w2 fb hW2 hF)
    | (go_at_call 15; with_reducible refine AnsB.use HV2 (Below.refl _ _) fun w3 hb3 => ?_; have HR3 := HR w3 (bb hW2 hb3))
    | (go_at_call 16; with_reducible refine AnsW.use0 HR3 fun n4 => ?_))
  go_ret
  exact ⟨ret_b (by cases R <;> rfl), bb hBV (bb hb1 (bb hb2 (bb hb3 (below_drewN _ _))))⟩
theorem verifies_any (W : World) (kind z : Int) (hz : z < 9223372036854775808) (q : Nat) (hq : q < 18446744073709551616) (A : Option Addr) (C : Nat) (es : List En) (hE : EntsAt W A C es) (hfs : ∀ x ∈ es, x.fs.length * 16 ≤ 140737488355328) (B : Option Addr) (D : Nat) (t : List Nat) (hU : UAt W B D t) :
    AnsB W 4 #[srcV kind z (q : Int) A es.length C, .slice B t.length D] (.bool true) := by
  rcases made_any W kind z hz q hq A C es hE hfs with HM | ⟨x, hF, HM⟩
  · by_cases h : 300 < t.length
    · exact ver_none_long W kind z q A _ C B _ D (by omega) HM
    · exact ver_none W kind z q A _ C B _ D (by omega) HM
  · obtain ⟨h3, hodd, hlt⟩ := hF.num
    have pz : ((x.p : Int) == 0) = false := by simp; omega
    by_cases h : 300 < t.length
    · exact ver_long W kind z q A _ C B _ D (by omega) x.p x.g x (by omega) (by omega) pz HM
    · have hR : ∃ R : Bool, R = true ↔ 1 ≤ t.length ∧ DocR x.p t := by
        rcases Classical.em (1 ≤ t.length ∧ DocR x.p t) with k | k
        · exact ⟨true, by simp [k]⟩
        · exact ⟨false, ⟨fun h => (by cases h), fun h => absurd h k⟩⟩
      obtain ⟨R, hR⟩ := hR
      exact ver_yes W kind z q A _ C B _ D (by omega) R x.p x.g x (by omega) (by omega) pz HM
        (fun w b hw F => verify_any w b x F hF B D t (hU.below hw) (by omega) R hR)
        (fun w hw => dRight_any w x.p (by omega) (by omega) B D t (hU.below hw) (by omega) R hR)
end Go.Proofs.YtlmhhimcihobiaaGreat

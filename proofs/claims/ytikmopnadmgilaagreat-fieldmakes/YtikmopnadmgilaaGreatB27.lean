/-
  The walks of layer 6's statements: each returns true.
-/
import Derived.Test.YtikmopnadmgilaaGreatB26
namespace Go.Proofs.YtikmopnadmgilaaGreat
set_option linter.unusedVariables false
open Go.RowKit

set_option maxHeartbeats 1000000 in
theorem FieldTree_none (W : World) (kind z q : Int) (A : Option Addr) (L C : Nat) (n m : Int) (HM : AnsB W 30 #[srcV kind z q A L C] noV) : AnsB W 7 #[srcV kind z q A L C, .int .i64 n, .int .i64 m] (.bool true) := by
  intro w hw
  obtain ⟨t0, t1, t2, t3⟩ := four_cells w (.int .i64 kind) (.int .i64 z) (.int .u64 q) (.slice A L C) 25
  obtain ⟨V, hV⟩ : ∃ V, w.alloc (.cells #[.int .i64 kind, .int .i64 z, .int .u64 q, .slice A L C] 25) = V := ⟨_, rfl⟩
  have hBV : Below w.heap.size w V := hV ▸ below_alloc _ _
  obtain ⟨bo, hbo⟩ : ∃ bo, w.heap.size = bo := ⟨_, rfl⟩
  have hVs : bo < V.heap.size := by rw [← hV, ← hbo]; simp
  rw [hV, hbo] at t0 t1 t2 t3
  have hWV := bb hw hBV
  go_enter Tryz.func7, Tryz.ntmps7
  go_wp2_with (first | (go_at_call 10; with_reducible refine AnsM.use alive6 fun w1 hb1 => ?_; have s0 := keep_cell hb1 hVs t0; have s1 := keep_cell hb1 hVs t1; have s2 := keep_cell hb1 hVs t2; have s3 := keep_cell hb1 hVs t3; have hW1 := bb hWV hb1) | (go_at_call 30; with_reducible refine AnsB.use HM hW1 fun w2 hb2 => ?_))
  go_ret
  exact ⟨rfl, bb hBV (bb hb1 hb2)⟩
set_option maxRecDepth 100000 in
set_option maxHeartbeats 4000000 in
theorem tree_out (W : World) (kind z q : Int) (A : Option Addr) (L C : Nat) (n m p g : Int) (x : En) (p0 : 2 < p) (p1 : p < 9223372036854775808) (pz : (p == 0) = false) (h : n < 1 ∨ (1 ≤ n ∧ m < 1) ∨ (1 ≤ n ∧ 1 ≤ m ∧ 2147483648 ≤ n) ∨ (1 ≤ n ∧ 1 ≤ m ∧ n < 2147483648 ∧ 2147483648 ≤ m))
    (HM : Made W (srcV kind z q A L C) p g x)
    : AnsB W 7 #[srcV kind z q A L C, .int .i64 n, .int .i64 m] (.bool true) := by
  intro w hw
  obtain ⟨t0, t1, t2, t3⟩ := four_cells w (.int .i64 kind) (.int .i64 z) (.int .u64 q) (.slice A L C) 25
  obtain ⟨V, hV⟩ : ∃ V, w.alloc (.cells #[.int .i64 kind, .int .i64 z, .int .u64 q, .slice A L C] 25) = V := ⟨_, rfl⟩
  have hBV : Below w.heap.size w V := hV ▸ below_alloc _ _
  obtain ⟨bo, hbo⟩ : ∃ bo, w.heap.size = bo := ⟨_, rfl⟩
  have hVs : bo < V.heap.size := by rw [← hV, ← hbo]; simp
  rw [hV, hbo] at t0 t1 t2 t3
  have hWV := bb hw hBV
  rcases h with h | ⟨h, h2⟩ | ⟨h, h2, h3⟩ | ⟨h, h2, h3, h4⟩
  all_goals
    go_enter Tryz.func7, Tryz.ntmps7
    go_wp2_with (first | (go_at_call 10; with_reducible refine AnsM.use alive6 fun w1 hb1 => ?_; have s0 := keep_cell hb1 hVs t0; have s1 := keep_cell hb1 hVs t1; have s2 := keep_cell hb1 hVs t2; have s3 := keep_cell hb1 hVs t3; have hW1 := bb hWV hb1) | (go_at_call 30; with_reducible refine Made.use HM hW1 fun fb w2 hF hb2 => ?_))
    go_ret
    exact ⟨rfl, bb hBV (bb hb1 (bb hb2 (by first | exact below_drewN _ _ | exact bb (below_drewN _ _) (below_drewN _ _) | exact Below.refl _ _)))⟩
set_option maxRecDepth 100000 in
set_option maxHeartbeats 4000000 in
theorem tree_not (W : World) (kind z q : Int) (A : Option Addr) (L C : Nat) (n m t p g : Int) (x : En) (p0 : 2 < p) (p1 : p < 9223372036854775808) (pz : (p == 0) = false) (n0 : 1 ≤ n) (n1 : n < 2147483648) (m0 : 1 ≤ m) (m1 : m < 2147483648) (ht : IntKind.i64.wrap (n * m) = t)
    (HM : Made W (srcV kind z q A L C) p g x)
    (H0 : ∀ (W : World) (fb : Nat), FieldAt W fb x → AnsW W 21 #[pt fb, .int .i64 t] (.bool false))
    : AnsB W 7 #[srcV kind z q A L C, .int .i64 n, .int .i64 m] (.bool true) := by
  intro w hw
  obtain ⟨t0, t1, t2, t3⟩ := four_cells w (.int .i64 kind) (.int .i64 z) (.int .u64 q) (.slice A L C) 25
  obtain ⟨V, hV⟩ : ∃ V, w.alloc (.cells #[.int .i64 kind, .int .i64 z, .int .u64 q, .slice A L C] 25) = V := ⟨_, rfl⟩
  have hBV : Below w.heap.size w V := hV ▸ below_alloc _ _
  obtain ⟨bo, hbo⟩ : ∃ bo, w.heap.size = bo := ⟨_, rfl⟩
  have hVs : bo < V.heap.size := by rw [← hV, ← hbo]; simp
  rw [hV, hbo] at t0 t1 t2 t3
  have hWV := bb hw hBV
  go_enter Tryz.func7, Tryz.ntmps7
  go_wp2_with (first | (go_at_call 10; with_reducible refine AnsM.use alive6 fun w1 hb1 => ?_; have s0 := keep_cell hb1 hVs t0; have s1 := keep_cell hb1 hVs t1; have s2 := keep_cell hb1 hVs t2; have s3 := keep_cell hb1 hVs t3; have hW1 := bb hWV hb1) | (go_at_call 30; with_reducible refine Made.use HM hW1 fun fb w2 hF hb2 => ?_) | (go_at_call 21; first | (with_reducible refine AnsW.use (H0 _ _ hF) _ fun n0 => ?_) | (with_reducible refine AnsW.use0 (H0 _ _ hF) fun n0 => ?_)))
  go_ret
  exact ⟨rfl, bb hBV (bb hb1 (bb hb2 (by first | exact below_drewN _ _ | exact bb (below_drewN _ _) (below_drewN _ _) | exact Below.refl _ _)))⟩
set_option maxRecDepth 100000 in
set_option maxHeartbeats 4000000 in
theorem tree_yes (W : World) (kind z q : Int) (A : Option Addr) (L C : Nat) (n m t r v p g : Int) (x : En) (p0 : 2 < p) (p1 : p < 9223372036854775808) (pz : (p == 0) = false) (n0 : 1 ≤ n) (n1 : n < 2147483648) (m0 : 1 ≤ m) (m1 : m < 2147483648) (ht : IntKind.i64.wrap (n * m) = t)
    (HM : Made W (srcV kind z q A L C) p g x)
    (H0 : ∀ (W : World) (fb : Nat), FieldAt W fb x → AnsW W 21 #[pt fb, .int .i64 t] (.bool true))
    (H1 : ∀ (W : World) (fb : Nat), FieldAt W fb x → AnsW W 19 #[pt fb, .int .i64 t] (.tuple #[.int .u64 r, .int .i64 0]))
    (H2 : ∀ (W : World) (fb : Nat), FieldAt W fb x → AnsW W 19 #[pt fb, .int .i64 m] (.tuple #[.int .u64 v, .int .i64 0]))
    (H3 : ∀ (W : World) (fb : Nat), FieldAt W fb x → AnsW W 26 #[pt fb, .int .u64 r, .int .u64 n] (.int .u64 v))
    : AnsB W 7 #[srcV kind z q A L C, .int .i64 n, .int .i64 m] (.bool true) := by
  intro w hw
  obtain ⟨t0, t1, t2, t3⟩ := four_cells w (.int .i64 kind) (.int .i64 z) (.int .u64 q) (.slice A L C) 25
  obtain ⟨V, hV⟩ : ∃ V, w.alloc (.cells #[.int .i64 kind, .int .i64 z, .int .u64 q, .slice A L C] 25) = V := ⟨_, rfl⟩
  have hBV : Below w.heap.size w V := hV ▸ below_alloc _ _
  obtain ⟨bo, hbo⟩ : ∃ bo, w.heap.size = bo := ⟨_, rfl⟩
  have hVs : bo < V.heap.size := by rw [← hV, ← hbo]; simp
  rw [hV, hbo] at t0 t1 t2 t3
  have hWV := bb hw hBV
  go_enter Tryz.func7, Tryz.ntmps7
  go_wp2_with (first | (go_at_call 10; with_reducible refine AnsM.use alive6 fun w1 hb1 => ?_; have s0 := keep_cell hb1 hVs t0; have s1 := keep_cell hb1 hVs t1; have s2 := keep_cell hb1 hVs t2; have s3 := keep_cell hb1 hVs t3; have hW1 := bb hWV hb1) | (go_at_call 30; with_reducible refine Made.use HM hW1 fun fb w2 hF hb2 => ?_) | (go_at_call 21; first | (with_reducible refine AnsW.use (H0 _ _ hF) _ fun n0 => ?_) | (with_reducible refine AnsW.use0 (H0 _ _ hF) fun n0 => ?_)) | (go_at_call 19; first | (with_reducible refine AnsW.use (H1 _ _ hF) _ fun n1 => ?_) | (with_reducible refine AnsW.use0 (H1 _ _ hF) fun n1 => ?_)) | (go_at_call 19; first | (with_reducible refine AnsW.use (H2 _ _ hF) _ fun n2 => ?_) | (with_reducible refine AnsW.use0 (H2 _ _ hF) fun n2 => ?_)) | (go_at_call 26; first | (with_reducible refine AnsW.use (H3 _ _ hF) _ fun n3 => ?_) | (with_reducible refine AnsW.use0 (H3 _ _ hF) fun n3 => ?_)))
  go_ret
  exact ⟨rfl, bb hBV (bb hb1 (bb hb2 (by first | exact below_drewN _ _ | exact bb (below_drewN _ _) (below_drewN _ _) | exact Below.refl _ _)))⟩
set_option maxHeartbeats 1000000 in
theorem FieldFermat_none (W : World) (kind z q : Int) (A : Option Addr) (L C : Nat) (a b : Int) (HM : AnsB W 30 #[srcV kind z q A L C] noV) : AnsB W 9 #[srcV kind z q A L C, .int .u64 a, .int .u64 b] (.bool true) := by
  intro w hw
  obtain ⟨t0, t1, t2, t3⟩ := four_cells w (.int .i64 kind) (.int .i64 z) (.int .u64 q) (.slice A L C) 25
  obtain ⟨V, hV⟩ : ∃ V, w.alloc (.cells #[.int .i64 kind, .int .i64 z, .int .u64 q, .slice A L C] 25) = V := ⟨_, rfl⟩
  have hBV : Below w.heap.size w V := hV ▸ below_alloc _ _
  obtain ⟨bo, hbo⟩ : ∃ bo, w.heap.size = bo := ⟨_, rfl⟩
  have hVs : bo < V.heap.size := by rw [← hV, ← hbo]; simp
  rw [hV, hbo] at t0 t1 t2 t3
  have hWV := bb hw hBV
  go_enter Tryz.func9, Tryz.ntmps9
  go_wp2_with (first | (go_at_call 10; with_reducible refine AnsM.use alive6 fun w1 hb1 => ?_; have s0 := keep_cell hb1 hVs t0; have s1 := keep_cell hb1 hVs t1; have s2 := keep_cell hb1 hVs t2; have s3 := keep_cell hb1 hVs t3; have hW1 := bb hWV hb1) | (go_at_call 30; with_reducible refine AnsB.use HM hW1 fun w2 hb2 => ?_))
  go_ret
  exact ⟨rfl, bb hBV (bb hb1 hb2)⟩
set_option maxRecDepth 100000 in
set_option maxHeartbeats 4000000 in
theorem fermat_yes (W : World) (kind z q : Int) (A : Option Addr) (L C : Nat) (a b ra rb s t h p g : Int) (x : En) (p0 : 2 < p) (p1 : p < 9223372036854775808) (pz : (p == 0) = false) (a0 : 0 ≤ a) (a1 : a < 18446744073709551616) (b0 : 0 ≤ b) (b1 : b < 18446744073709551616) (hra : a % p = ra) (hh : (p - 1) / 2 = h)
    (HM : Made W (srcV kind z q A L C) p g x)
    (H0 : ∀ (W : World) (fb : Nat), FieldAt W fb x → AnsW W 26 #[pt fb, .int .u64 a, .int .u64 p] (.int .u64 ra))
    (H1 : ∀ (W : World) (fb : Nat), FieldAt W fb x → AnsW W 22 #[pt fb, .int .u64 a, .int .u64 b] (.int .u64 s))
    (H2 : ∀ (W : World) (fb : Nat), FieldAt W fb x → AnsW W 26 #[pt fb, .int .u64 s, .int .u64 p] (.int .u64 t))
    (H3 : ∀ (W : World) (fb : Nat), FieldAt W fb x → AnsW W 26 #[pt fb, .int .u64 b, .int .u64 p] (.int .u64 rb))
    (H4 : ∀ (W : World) (fb : Nat), FieldAt W fb x → AnsW W 22 #[pt fb, .int .u64 ra, .int .u64 rb] (.int .u64 t))
    (H5 : ∀ (W : World) (fb : Nat), FieldAt W fb x → AnsW W 17 #[pt fb] (.int .u64 g))
    (H6 : ∀ (W : World) (fb : Nat), FieldAt W fb x → AnsW W 26 #[pt fb, .int .u64 g, .int .u64 (p - 1)] (.int .u64 1))
    (H7 : ∀ (W : World) (fb : Nat), FieldAt W fb x → AnsW W 26 #[pt fb, .int .u64 g, .int .u64 h] (.int .u64 (p - 1)))
    : AnsB W 9 #[srcV kind z q A L C, .int .u64 a, .int .u64 b] (.bool true) := by
  intro w hw
  obtain ⟨t0, t1, t2, t3⟩ := four_cells w (.int .i64 kind) (.int .i64 z) (.int .u64 q) (.slice A L C) 25
  obtain ⟨V, hV⟩ : ∃ V, w.alloc (.cells #[.int .i64 kind, .int .i64 z, .int .u64 q, .slice A L C] 25) = V := ⟨_, rfl⟩
  have hBV : Below w.heap.size w V := hV ▸ below_alloc _ _
  obtain ⟨bo, hbo⟩ : ∃ bo, w.heap.size = bo := ⟨_, rfl⟩
  have hVs : bo < V.heap.size := by rw [← hV, ← hbo]; simp
  rw [hV, hbo] at t0 t1 t2 t3
  have hWV := bb hw hBV
  go_enter Tryz.func9, Tryz.ntmps9
  go_wp2_with (first | (go_at_call 10; with_reducible refine AnsM.use alive6 fun w1 hb1 => ?_; have s0 := keep_cell hb1 hVs t0; have s1 := keep_cell hb1 hVs t1; have s2 := keep_cell hb1 hVs t2; have s3 := keep_cell hb1 hVs t3; have hW1 := bb hWV hb1) | (go_at_call 30; with_reducible refine Made.use HM hW1 fun fb w2 hF hb2 => ?_) | (go_at_call 26; first | (with_reducible refine AnsW.use (H0 _ _ hF) _ fun n0 => ?_) | (with_reducible refine AnsW.use0 (H0 _ _ hF) fun n0 => ?_)) | (go_at_call 22; first | (with_reducible refine AnsW.use (H1 _ _ hF) _ fun n1 => ?_) | (with_reducible refine AnsW.use0 (H1 _ _ hF) fun n1 => ?_)) | (go_at_call 26; first | (with_reducible refine AnsW.use (H2 _ _ hF) _ fun n2 => ?_) | (with_reducible refine AnsW.use0 (H2 _ _ hF) fun n2 => ?_)) | (go_at_call 26; first | (with_reducible refine AnsW.use (H3 _ _ hF) _ fun n3 => ?_) | (with_reducible refine AnsW.use0 (H3 _ _ hF) fun n3 => ?_)) | (go_at_call 22; first | (with_reducible refine AnsW.use (H4 _ _ hF) _ fun n4 => ?_) | (with_reducible refine AnsW.use0 (H4 _ _ hF) fun n4 => ?_)) | (go_at_call 17; first | (with_reducible refine AnsW.use (H5 _ _ hF) _ fun n5 => ?_) | (with_reducible refine AnsW.use0 (H5 _ _ hF) fun n5 => ?_)) | (go_at_call 26; first | (with_reducible refine AnsW.use (H6 _ _ hF) _ fun n6 => ?_) | (with_reducible refine AnsW.use0 (H6 _ _ hF) fun n6 => ?_)) | (go_at_call 26; first | (with_reducible refine AnsW.use (H7 _ _ hF) _ fun n7 => ?_) | (with_reducible refine AnsW.use0 (H7 _ _ hF) fun n7 => ?_)))
  try dsimp only [List.append]
  go_quiet ((first | (go_at_call 26; first | (with_reducible exact AnsW.quiet (H0 _ _ hF)) | (with_reducible exact AnsW.quiet0 (H0 _ _ hF))) | (go_at_call 22; first | (with_reducible exact AnsW.quiet (H1 _ _ hF)) | (with_reducible exact AnsW.quiet0 (H1 _ _ hF))) | (go_at_call 26; first | (with_reducible exact AnsW.quiet (H2 _ _ hF)) | (with_reducible exact AnsW.quiet0 (H2 _ _ hF))) | (go_at_call 26; first | (with_reducible exact AnsW.quiet (H3 _ _ hF)) | (with_reducible exact AnsW.quiet0 (H3 _ _ hF))) | (go_at_call 22; first | (with_reducible exact AnsW.quiet (H4 _ _ hF)) | (with_reducible exact AnsW.quiet0 (H4 _ _ hF))) | (go_at_call 17; first | (with_reducible exact AnsW.quiet (H5 _ _ hF)) | (with_reducible exact AnsW.quiet0 (H5 _ _ hF))) | (go_at_call 26; first | (with_reducible exact AnsW.quiet (H6 _ _ hF)) | (with_reducible exact AnsW.quiet0 (H6 _ _ hF))) | (go_at_call 26; first | (with_reducible exact AnsW.quiet (H7 _ _ hF)) | (with_reducible exact AnsW.quiet0 (H7 _ _ hF)))))
  go_wp2_with (first | (go_at_call 10; with_reducible refine AnsM.use alive6 fun w1 hb1 => ?_; have s0 := keep_cell hb1 hVs t0; have s1 := keep_cell hb1 hVs t1; have s2 := keep_cell hb1 hVs t2; have s3 := keep_cell hb1 hVs t3; have hW1 := bb hWV hb1) | (go_at_call 30; with_reducible refine Made.use HM hW1 fun fb w2 hF hb2 => ?_) | (go_at_call 26; first | (with_reducible refine AnsW.use (H0 _ _ hF) _ fun n0 => ?_) | (with_reducible refine AnsW.use0 (H0 _ _ hF) fun n0 => ?_)) | (go_at_call 22; first | (with_reducible refine AnsW.use (H1 _ _ hF) _ fun n1 => ?_) | (with_reducible refine AnsW.use0 (H1 _ _ hF) fun n1 => ?_)) | (go_at_call 26; first | (with_reducible refine AnsW.use (H2 _ _ hF) _ fun n2 => ?_) | (with_reducible refine AnsW.use0 (H2 _ _ hF) fun n2 => ?_)) | (go_at_call 26; first | (with_reducible refine AnsW.use (H3 _ _ hF) _ fun n3 => ?_) | (with_reducible refine AnsW.use0 (H3 _ _ hF) fun n3 => ?_)) | (go_at_call 22; first | (with_reducible refine AnsW.use (H4 _ _ hF) _ fun n4 => ?_) | (with_reducible refine AnsW.use0 (H4 _ _ hF) fun n4 => ?_)) | (go_at_call 17; first | (with_reducible refine AnsW.use (H5 _ _ hF) _ fun n5 => ?_) | (with_reducible refine AnsW.use0 (H5 _ _ hF) fun n5 => ?_)) | (go_at_call 26; first | (with_reducible refine AnsW.use (H6 _ _ hF) _ fun n6 => ?_) | (with_reducible refine AnsW.use0 (H6 _ _ hF) fun n6 => ?_)) | (go_at_call 26; first | (with_reducible refine AnsW.use (H7 _ _ hF) _ fun n7 => ?_) | (with_reducible refine AnsW.use0 (H7 _ _ hF) fun n7 => ?_)))
  go_ret
  exact ⟨rfl, bb hBV (bb hb1 (bb hb2 (by first | exact below_drewN _ _ | exact bb (below_drewN _ _) (below_drewN _ _) | exact Below.refl _ _)))⟩
set_option maxHeartbeats 1000000 in
theorem FieldInverts_none (W : World) (kind z q : Int) (A : Option Addr) (L C : Nat) (a b : Int) (HM : AnsB W 30 #[srcV kind z q A L C] noV) : AnsB W 5 #[srcV kind z q A L C, .int .u64 a, .int .u64 b] (.bool true) := by
  intro w hw
  obtain ⟨t0, t1, t2, t3⟩ := four_cells w (.int .i64 kind) (.int .i64 z) (.int .u64 q) (.slice A L C) 25
  obtain ⟨V, hV⟩ : ∃ V, w.alloc (.cells #[.int .i64 kind, .int .i64 z, .int .u64 q, .slice A L C] 25) = V := ⟨_, rfl⟩
  have hBV : Below w.heap.size w V := hV ▸ below_alloc _ _
  obtain ⟨bo, hbo⟩ : ∃ bo, w.heap.size = bo := ⟨_, rfl⟩
  have hVs : bo < V.heap.size := by rw [← hV, ← hbo]; simp
  rw [hV, hbo] at t0 t1 t2 t3
  have hWV := bb hw hBV
  go_enter Tryz.func5, Tryz.ntmps5
  go_wp2_with (first | (go_at_call 10; with_reducible refine AnsM.use alive6 fun w1 hb1 => ?_; have s0 := keep_cell hb1 hVs t0; have s1 := keep_cell hb1 hVs t1; have s2 := keep_cell hb1 hVs t2; have s3 := keep_cell hb1 hVs t3; have hW1 := bb hWV hb1) | (go_at_call 30; with_reducible refine AnsB.use HM hW1 fun w2 hb2 => ?_))
  go_ret
  exact ⟨rfl, bb hBV (bb hb1 hb2)⟩
set_option maxRecDepth 100000 in
set_option maxHeartbeats 4000000 in
theorem inverts_a (W : World) (kind z q : Int) (A : Option Addr) (L C : Nat) (a b ra p g : Int) (x : En) (p0 : 2 < p) (p1 : p < 9223372036854775808) (pz : (p == 0) = false) (a0 : 0 ≤ a) (a1 : a < 18446744073709551616) (b0 : 0 ≤ b) (b1 : b < 18446744073709551616) (hra : a % p = ra) (ha : (ra == 0) = true) (ha2 : (ra != 0) = false)
    (HM : Made W (srcV kind z q A L C) p g x)
    (H0 : ∀ (W : World) (fb : Nat), FieldAt W fb x → AnsW W 25 #[pt fb, .int .u64 a, .int .u64 b] (.int .u64 0))
    (H1 : ∀ (W : World) (fb : Nat), FieldAt W fb x → AnsW W 27 #[pt fb, .int .u64 a] (.int .u64 0))
    : AnsB W 5 #[srcV kind z q A L C, .int .u64 a, .int .u64 b] (.bool true) := by
  intro w hw
  obtain ⟨t0, t1, t2, t3⟩ := four_cells w (.int .i64 kind) (.int .i64 z) (.int .u64 q) (.slice A L C) 25
  obtain ⟨V, hV⟩ : ∃ V, w.alloc (.cells #[.int .i64 kind, .int .i64 z, .int .u64 q, .slice A L C] 25) = V := ⟨_, rfl⟩
  have hBV : Below w.heap.size w V := hV ▸ below_alloc _ _
  obtain ⟨bo, hbo⟩ : ∃ bo, w.heap.size = bo := ⟨_, rfl⟩
  have hVs : bo < V.heap.size := by rw [← hV, ← hbo]; simp
  rw [hV, hbo] at t0 t1 t2 t3
  have hWV := bb hw hBV
  go_enter Tryz.func5, Tryz.ntmps5
  go_wp2_with (first | (go_at_call 10; with_reducible refine AnsM.use alive6 fun w1 hb1 => ?_; have s0 := keep_cell hb1 hVs t0; have s1 := keep_cell hb1 hVs t1; have s2 := keep_cell hb1 hVs t2; have s3 := keep_cell hb1 hVs t3; have hW1 := bb hWV hb1) | (go_at_call 30; with_reducible refine Made.use HM hW1 fun fb w2 hF hb2 => ?_) | (go_at_call 25; first | (with_reducible refine AnsW.use (H0 _ _ hF) _ fun n0 => ?_) | (with_reducible refine AnsW.use0 (H0 _ _ hF) fun n0 => ?_)) | (go_at_call 27; first | (with_reducible refine AnsW.use (H1 _ _ hF) _ fun n1 => ?_) | (with_reducible refine AnsW.use0 (H1 _ _ hF) fun n1 => ?_)))
  go_ret
  exact ⟨rfl, bb hBV (bb hb1 (bb hb2 (by first | exact below_drewN _ _ | exact bb (below_drewN _ _) (below_drewN _ _) | exact Below.refl _ _)))⟩
set_option maxRecDepth 100000 in
set_option maxHeartbeats 4000000 in
theorem inverts_b (W : World) (kind z q : Int) (A : Option Addr) (L C : Nat) (a b ra rb p g : Int) (x : En) (p0 : 2 < p) (p1 : p < 9223372036854775808) (pz : (p == 0) = false) (a0 : 0 ≤ a) (a1 : a < 18446744073709551616) (b0 : 0 ≤ b) (b1 : b < 18446744073709551616) (hra : a % p = ra) (hrb : b % p = rb) (ha : (ra == 0) = false) (ha2 : (ra != 0) = true) (hb : (rb == 0) = true)
    (HM : Made W (srcV kind z q A L C) p g x)
    (H0 : ∀ (W : World) (fb : Nat), FieldAt W fb x → AnsW W 25 #[pt fb, .int .u64 a, .int .u64 b] (.int .u64 0))
    : AnsB W 5 #[srcV kind z q A L C, .int .u64 a, .int .u64 b] (.bool true) := by
  intro w hw
  obtain ⟨t0, t1, t2, t3⟩ := four_cells w (.int .i64 kind) (.int .i64 z) (.int .u64 q) (.slice A L C) 25
  obtain ⟨V, hV⟩ : ∃ V, w.alloc (.cells #[.int .i64 kind, .int .i64 z, .int .u64 q, .slice A L C] 25) = V := ⟨_, rfl⟩
  have hBV : Below w.heap.size w V := hV ▸ below_alloc _ _
  obtain ⟨bo, hbo⟩ : ∃ bo, w.heap.size = bo := ⟨_, rfl⟩
  have hVs : bo < V.heap.size := by rw [← hV, ← hbo]; simp
  rw [hV, hbo] at t0 t1 t2 t3
  have hWV := bb hw hBV
  go_enter Tryz.func5, Tryz.ntmps5
  go_wp2_with (first | (go_at_call 10; with_reducible refine AnsM.use alive6 fun w1 hb1 => ?_; have s0 := keep_cell hb1 hVs t0; have s1 := keep_cell hb1 hVs t1; have s2 := keep_cell hb1 hVs t2; have s3 := keep_cell hb1 hVs t3; have hW1 := bb hWV hb1) | (go_at_call 30; with_reducible refine Made.use HM hW1 fun fb w2 hF hb2 => ?_) | (go_at_call 25; first | (with_reducible refine AnsW.use (H0 _ _ hF) _ fun n0 => ?_) | (with_reducible refine AnsW.use0 (H0 _ _ hF) fun n0 => ?_)))
  go_ret
  exact ⟨rfl, bb hBV (bb hb1 (bb hb2 (by first | exact below_drewN _ _ | exact bb (below_drewN _ _) (below_drewN _ _) | exact Below.refl _ _)))⟩
set_option maxRecDepth 100000 in
set_option maxHeartbeats 4000000 in
theorem inverts_c (W : World) (kind z q : Int) (A : Option Addr) (L C : Nat) (a b ra rb va vb m p g : Int) (x : En) (p0 : 2 < p) (p1 : p < 9223372036854775808) (pz : (p == 0) = false) (a0 : 0 ≤ a) (a1 : a < 18446744073709551616) (b0 : 0 ≤ b) (b1 : b < 18446744073709551616) (hra : a % p = ra) (hrb : b % p = rb) (ha : (ra == 0) = false) (hb : (rb == 0) = false) (hm : (m != 0) = true)
    (HM : Made W (srcV kind z q A L C) p g x)
    (H0 : ∀ (W : World) (fb : Nat), FieldAt W fb x → AnsW W 27 #[pt fb, .int .u64 a] (.int .u64 va))
    (H1 : ∀ (W : World) (fb : Nat), FieldAt W fb x → AnsW W 25 #[pt fb, .int .u64 a, .int .u64 va] (.int .u64 1))
    (H2 : ∀ (W : World) (fb : Nat), FieldAt W fb x → AnsW W 25 #[pt fb, .int .u64 a, .int .u64 b] (.int .u64 m))
    (H3 : ∀ (W : World) (fb : Nat), FieldAt W fb x → AnsW W 27 #[pt fb, .int .u64 b] (.int .u64 vb))
    (H4 : ∀ (W : World) (fb : Nat), FieldAt W fb x → AnsW W 25 #[pt fb, .int .u64 m, .int .u64 vb] (.int .u64 ra))
    (H5 : ∀ (W : World) (fb : Nat), FieldAt W fb x → AnsW W 27 #[pt fb, .int .u64 va] (.int .u64 ra))
    : AnsB W 5 #[srcV kind z q A L C, .int .u64 a, .int .u64 b] (.bool true) := by
  intro w hw
  obtain ⟨t0, t1, t2, t3⟩ := four_cells w (.int .i64 kind) (.int .i64 z) (.int .u64 q) (.slice A L C) 25
  obtain ⟨V, hV⟩ : ∃ V, w.alloc (.cells #[.int .i64 kind, .int .i64 z, .int .u64 q, .slice A L C] 25) = V := ⟨_, rfl⟩
  have hBV : Below w.heap.size w V := hV ▸ below_alloc _ _
  obtain ⟨bo, hbo⟩ : ∃ bo, w.heap.size = bo := ⟨_, rfl⟩
  have hVs : bo < V.heap.size := by rw [← hV, ← hbo]; simp
  rw [hV, hbo] at t0 t1 t2 t3
  have hWV := bb hw hBV
  go_enter Tryz.func5, Tryz.ntmps5
  go_wp2_with (first | (go_at_call 10; with_reducible refine AnsM.use alive6 fun w1 hb1 => ?_; have s0 := keep_cell hb1 hVs t0; have s1 := keep_cell hb1 hVs t1; have s2 := keep_cell hb1 hVs t2; have s3 := keep_cell hb1 hVs t3; have hW1 := bb hWV hb1) | (go_at_call 30; with_reducible refine Made.use HM hW1 fun fb w2 hF hb2 => ?_) | (go_at_call 27; first | (with_reducible refine AnsW.use (H0 _ _ hF) _ fun n0 => ?_) | (with_reducible refine AnsW.use0 (H0 _ _ hF) fun n0 => ?_)) | (go_at_call 25; first | (with_reducible refine AnsW.use (H1 _ _ hF) _ fun n1 => ?_) | (with_reducible refine AnsW.use0 (H1 _ _ hF) fun n1 => ?_)) | (go_at_call 25; first | (with_reducible refine AnsW.use (H2 _ _ hF) _ fun n2 => ?_) | (with_reducible refine AnsW.use0 (H2 _ _ hF) fun n2 => ?_)) | (go_at_call 27; first | (with_reducible refine AnsW.use (H3 _ _ hF) _ fun n3 => ?_) | (with_reducible refine AnsW.use0 (H3 _ _ hF) fun n3 => ?_)) | (go_at_call 25; first | (with_reducible refine AnsW.use (H4 _ _ hF) _ fun n4 => ?_) | (with_reducible refine AnsW.use0 (H4 _ _ hF) fun n4 => ?_)) | (go_at_call 27; first | (with_reducible refine AnsW.use (H5 _ _ hF) _ fun n5 => ?_) | (with_reducible refine AnsW.use0 (H5 _ _ hF) fun n5 => ?_)))
  try dsimp only [List.append]
  go_quiet ((first | (go_at_call 27; first | (with_reducible exact AnsW.quiet (H0 _ _ hF)) | (with_reducible exact AnsW.quiet0 (H0 _ _ hF))) | (go_at_call 25; first | (with_reducible exact AnsW.quiet (H1 _ _ hF)) | (with_reducible exact AnsW.quiet0 (H1 _ _ hF))) | (go_at_call 25; first | (with_reducible exact AnsW.quiet (H2 _ _ hF)) | (with_reducible exact AnsW.quiet0 (H2 _ _ hF))) | (go_at_call 27; first | (with_reducible exact AnsW.quiet (H3 _ _ hF)) | (with_reducible exact AnsW.quiet0 (H3 _ _ hF))) | (go_at_call 25; first | (with_reducible exact AnsW.quiet (H4 _ _ hF)) | (with_reducible exact AnsW.quiet0 (H4 _ _ hF))) | (go_at_call 27; first | (with_reducible exact AnsW.quiet (H5 _ _ hF)) | (with_reducible exact AnsW.quiet0 (H5 _ _ hF)))))
  go_wp2_with (first | (go_at_call 10; with_reducible refine AnsM.use alive6 fun w1 hb1 => ?_; have s0 := keep_cell hb1 hVs t0; have s1 := keep_cell hb1 hVs t1; have s2 := keep_cell hb1 hVs t2; have s3 := keep_cell hb1 hVs t3; have hW1 := bb hWV hb1) | (go_at_call 30; with_reducible refine Made.use HM hW1 fun fb w2 hF hb2 => ?_) | (go_at_call 27; first | (with_reducible refine AnsW.use (H0 _ _ hF) _ fun n0 => ?_) | (with_reducible refine AnsW.use0 (H0 _ _ hF) fun n0 => ?_)) | (go_at_call 25; first | (with_reducible refine AnsW.use (H1 _ _ hF) _ fun n1 => ?_) | (with_reducible refine AnsW.use0 (H1 _ _ hF) fun n1 => ?_)) | (go_at_call 25; first | (with_reducible refine AnsW.use (H2 _ _ hF) _ fun n2 => ?_) | (with_reducible refine AnsW.use0 (H2 _ _ hF) fun n2 => ?_)) | (go_at_call 27; first | (with_reducible refine AnsW.use (H3 _ _ hF) _ fun n3 => ?_) | (with_reducible refine AnsW.use0 (H3 _ _ hF) fun n3 => ?_)) | (go_at_call 25; first | (with_reducible refine AnsW.use (H4 _ _ hF) _ fun n4 => ?_) | (with_reducible refine AnsW.use0 (H4 _ _ hF) fun n4 => ?_)) | (go_at_call 27; first | (with_reducible refine AnsW.use (H5 _ _ hF) _ fun n5 => ?_) | (with_reducible refine AnsW.use0 (H5 _ _ hF) fun n5 => ?_)))
  go_ret
  exact ⟨rfl, bb hBV (bb hb1 (bb hb2 (by first | exact below_drewN _ _ | exact bb (below_drewN _ _) (below_drewN _ _) | exact Below.refl _ _)))⟩
set_option maxHeartbeats 1000000 in
theorem FieldRoots_none (W : World) (kind z q : Int) (A : Option Addr) (L C : Nat) (n k : Int) (HM : AnsB W 30 #[srcV kind z q A L C] noV) : AnsB W 6 #[srcV kind z q A L C, .int .i64 n, .int .u64 k] (.bool true) := by
  intro w hw
  obtain ⟨t0, t1, t2, t3⟩ := four_cells w (.int .i64 kind) (.int .i64 z) (.int .u64 q) (.slice A L C) 25
  obtain ⟨V, hV⟩ : ∃ V, w.alloc (.cells #[.int .i64 kind, .int .i64 z, .int .u64 q, .slice A L C] 25) = V := ⟨_, rfl⟩
  have hBV : Below w.heap.size w V := hV ▸ below_alloc _ _
  obtain ⟨bo, hbo⟩ : ∃ bo, w.heap.size = bo := ⟨_, rfl⟩
  have hVs : bo < V.heap.size := by rw [← hV, ← hbo]; simp
  rw [hV, hbo] at t0 t1 t2 t3
  have hWV := bb hw hBV
  go_enter Tryz.func6, Tryz.ntmps6
  go_wp2_with (first | (go_at_call 10; with_reducible refine AnsM.use alive6 fun w1 hb1 => ?_; have s0 := keep_cell hb1 hVs t0; have s1 := keep_cell hb1 hVs t1; have s2 := keep_cell hb1 hVs t2; have s3 := keep_cell hb1 hVs t3; have hW1 := bb hWV hb1) | (go_at_call 30; with_reducible refine AnsB.use HM hW1 fun w2 hb2 => ?_))
  go_ret
  exact ⟨rfl, bb hBV (bb hb1 hb2)⟩
set_option maxRecDepth 100000 in
set_option maxHeartbeats 4000000 in
theorem roots_less (W : World) (kind z q : Int) (A : Option Addr) (L C : Nat) (n k p g : Int) (x : En) (p0 : 2 < p) (p1 : p < 9223372036854775808) (pz : (p == 0) = false) (hn : n < 1)
    (HM : Made W (srcV kind z q A L C) p g x)
    (H0 : ∀ (W : World) (fb : Nat), FieldAt W fb x → AnsW W 19 #[pt fb, .int .i64 n] (.tuple #[.int .u64 0, .int .i64 4]))
    (H1 : ∀ (W : World) (fb : Nat), FieldAt W fb x → AnsW W 21 #[pt fb, .int .i64 n] (.bool false))
    : AnsB W 6 #[srcV kind z q A L C, .int .i64 n, .int .u64 k] (.bool true) := by
  intro w hw
  obtain ⟨t0, t1, t2, t3⟩ := four_cells w (.int .i64 kind) (.int .i64 z) (.int .u64 q) (.slice A L C) 25
  obtain ⟨V, hV⟩ : ∃ V, w.alloc (.cells #[.int .i64 kind, .int .i64 z, .int .u64 q, .slice A L C] 25) = V := ⟨_, rfl⟩
  have hBV : Below w.heap.size w V := hV ▸ below_alloc _ _
  obtain ⟨bo, hbo⟩ : ∃ bo, w.heap.size = bo := ⟨_, rfl⟩
  have hVs : bo < V.heap.size := by rw [← hV, ← hbo]; simp
  rw [hV, hbo] at t0 t1 t2 t3
  have hWV := bb hw hBV
  go_enter Tryz.func6, Tryz.ntmps6
  go_wp2_with (first | (go_at_call 10; with_reducible refine AnsM.use alive6 fun w1 hb1 => ?_; have s0 := keep_cell hb1 hVs t0; have s1 := keep_cell hb1 hVs t1; have s2 := keep_cell hb1 hVs t2; have s3 := keep_cell hb1 hVs t3; have hW1 := bb hWV hb1) | (go_at_call 30; with_reducible refine Made.use HM hW1 fun fb w2 hF hb2 => ?_) | (go_at_call 19; first | (with_reducible refine AnsW.use (H0 _ _ hF) _ fun n0 => ?_) | (with_reducible refine AnsW.use0 (H0 _ _ hF) fun n0 => ?_)) | (go_at_call 21; first | (with_reducible refine AnsW.use (H1 _ _ hF) _ fun n1 => ?_) | (with_reducible refine AnsW.use0 (H1 _ _ hF) fun n1 => ?_)))
  go_ret
  exact ⟨rfl, bb hBV (bb hb1 (bb hb2 (by first | exact below_drewN _ _ | exact bb (below_drewN _ _) (below_drewN _ _) | exact Below.refl _ _)))⟩
set_option maxRecDepth 100000 in
set_option maxHeartbeats 4000000 in
theorem roots_not (W : World) (kind z q : Int) (A : Option Addr) (L C : Nat) (n k r p g : Int) (x : En) (p0 : 2 < p) (p1 : p < 9223372036854775808) (pz : (p == 0) = false) (hn : 1 ≤ n) (n1 : n < 9223372036854775808) (nz : (n == 0) = false) (hr : (p - 1) % n = r) (hr0 : (r != 0) = true)
    (HM : Made W (srcV kind z q A L C) p g x)
    (H0 : ∀ (W : World) (fb : Nat), FieldAt W fb x → AnsW W 19 #[pt fb, .int .i64 n] (.tuple #[.int .u64 0, .int .i64 4]))
    (H1 : ∀ (W : World) (fb : Nat), FieldAt W fb x → AnsW W 21 #[pt fb, .int .i64 n] (.bool false))
    : AnsB W 6 #[srcV kind z q A L C, .int .i64 n, .int .u64 k] (.bool true) := by
  intro w hw
  obtain ⟨t0, t1, t2, t3⟩ := four_cells w (.int .i64 kind) (.int .i64 z) (.int .u64 q) (.slice A L C) 25
  obtain ⟨V, hV⟩ : ∃ V, w.alloc (.cells #[.int .i64 kind, .int .i64 z, .int .u64 q, .slice A L C] 25) = V := ⟨_, rfl⟩
  have hBV : Below w.heap.size w V := hV ▸ below_alloc _ _
  obtain ⟨bo, hbo⟩ : ∃ bo, w.heap.size = bo := ⟨_, rfl⟩
  have hVs : bo < V.heap.size := by rw [← hV, ← hbo]; simp
  rw [hV, hbo] at t0 t1 t2 t3
  have hWV := bb hw hBV
  go_enter Tryz.func6, Tryz.ntmps6
  go_wp2_with (first | (go_at_call 10; with_reducible refine AnsM.use alive6 fun w1 hb1 => ?_; have s0 := keep_cell hb1 hVs t0; have s1 := keep_cell hb1 hVs t1; have s2 := keep_cell hb1 hVs t2; have s3 := keep_cell hb1 hVs t3; have hW1 := bb hWV hb1) | (go_at_call 30; with_reducible refine Made.use HM hW1 fun fb w2 hF hb2 => ?_) | (go_at_call 19; first | (with_reducible refine AnsW.use (H0 _ _ hF) _ fun n0 => ?_) | (with_reducible refine AnsW.use0 (H0 _ _ hF) fun n0 => ?_)) | (go_at_call 21; first | (with_reducible refine AnsW.use (H1 _ _ hF) _ fun n1 => ?_) | (with_reducible refine AnsW.use0 (H1 _ _ hF) fun n1 => ?_)))
  go_ret
  exact ⟨rfl, bb hBV (bb hb1 (bb hb2 (by first | exact below_drewN _ _ | exact bb (below_drewN _ _) (below_drewN _ _) | exact Below.refl _ _)))⟩
set_option maxRecDepth 100000 in
set_option maxHeartbeats 4000000 in
theorem roots_yes (W : World) (kind z q : Int) (A : Option Addr) (L C : Nat) (n k v e c p g : Int) (x : En) (p0 : 2 < p) (p1 : p < 9223372036854775808) (pz : (p == 0) = false) (k0 : 0 ≤ k) (k1 : k < 18446744073709551616) (hn : 1 ≤ n) (n1 : n < 9223372036854775808) (nz : (n == 0) = false) (hr : (p - 1) % n = 0) (hc : k % n = c) (heq : (e == 1) = (c == 0))
    (HM : Made W (srcV kind z q A L C) p g x)
    (H0 : ∀ (W : World) (fb : Nat), FieldAt W fb x → AnsW W 19 #[pt fb, .int .i64 n] (.tuple #[.int .u64 v, .int .i64 0]))
    (H1 : ∀ (W : World) (fb : Nat), FieldAt W fb x → AnsW W 21 #[pt fb, .int .i64 n] (.bool true))
    (H2 : Ans 37 #[.int .u64 p, .int .u64 g, .int .i64 n] (.int .u64 v))
    (H3 : ∀ (W : World) (fb : Nat), FieldAt W fb x → AnsW W 26 #[pt fb, .int .u64 v, .int .u64 k] (.int .u64 e))
    : AnsB W 6 #[srcV kind z q A L C, .int .i64 n, .int .u64 k] (.bool true) := by
  intro w hw
  obtain ⟨t0, t1, t2, t3⟩ := four_cells w (.int .i64 kind) (.int .i64 z) (.int .u64 q) (.slice A L C) 25
  obtain ⟨V, hV⟩ : ∃ V, w.alloc (.cells #[.int .i64 kind, .int .i64 z, .int .u64 q, .slice A L C] 25) = V := ⟨_, rfl⟩
  have hBV : Below w.heap.size w V := hV ▸ below_alloc _ _
  obtain ⟨bo, hbo⟩ : ∃ bo, w.heap.size = bo := ⟨_, rfl⟩
  have hVs : bo < V.heap.size := by rw [← hV, ← hbo]; simp
  rw [hV, hbo] at t0 t1 t2 t3
  have hWV := bb hw hBV
  go_enter Tryz.func6, Tryz.ntmps6
  go_wp2_with (first | (go_at_call 10; with_reducible refine AnsM.use alive6 fun w1 hb1 => ?_; have s0 := keep_cell hb1 hVs t0; have s1 := keep_cell hb1 hVs t1; have s2 := keep_cell hb1 hVs t2; have s3 := keep_cell hb1 hVs t3; have hW1 := bb hWV hb1) | (go_at_call 30; with_reducible refine Made.use HM hW1 fun fb w2 hF hb2 => ?_) | (go_at_call 19; first | (with_reducible refine AnsW.use (H0 _ _ hF) _ fun n0 => ?_) | (with_reducible refine AnsW.use0 (H0 _ _ hF) fun n0 => ?_)) | (go_at_call 21; first | (with_reducible refine AnsW.use (H1 _ _ hF) _ fun n1 => ?_) | (with_reducible refine AnsW.use0 (H1 _ _ hF) fun n1 => ?_)) | (go_at_call 37; with_reducible refine Ans.use H2 _ fun n2 => ?_) | (go_at_call 26; first | (with_reducible refine AnsW.use (H3 _ _ hF) _ fun n3 => ?_) | (with_reducible refine AnsW.use0 (H3 _ _ hF) fun n3 => ?_)))
  try dsimp only [List.append]
  go_quiet ((first | (go_at_call 19; first | (with_reducible exact AnsW.quiet (H0 _ _ hF)) | (with_reducible exact AnsW.quiet0 (H0 _ _ hF))) | (go_at_call 21; first | (with_reducible exact AnsW.quiet (H1 _ _ hF)) | (with_reducible exact AnsW.quiet0 (H1 _ _ hF))) | (go_at_call 37; first | (with_reducible exact Ans.quiet H2) | (with_reducible exact Ans.quiet0 H2)) | (go_at_call 26; first | (with_reducible exact AnsW.quiet (H3 _ _ hF)) | (with_reducible exact AnsW.quiet0 (H3 _ _ hF)))))
  go_wp2_with (first | (go_at_call 10; with_reducible refine AnsM.use alive6 fun w1 hb1 => ?_; have s0 := keep_cell hb1 hVs t0; have s1 := keep_cell hb1 hVs t1; have s2 := keep_cell hb1 hVs t2; have s3 := keep_cell hb1 hVs t3; have hW1 := bb hWV hb1) | (go_at_call 30; with_reducible refine Made.use HM hW1 fun fb w2 hF hb2 => ?_) | (go_at_call 19; first | (with_reducible refine AnsW.use (H0 _ _ hF) _ fun n0 => ?_) | (with_reducible refine AnsW.use0 (H0 _ _ hF) fun n0 => ?_)) | (go_at_call 21; first | (with_reducible refine AnsW.use (H1 _ _ hF) _ fun n1 => ?_) | (with_reducible refine AnsW.use0 (H1 _ _ hF) fun n1 => ?_)) | (go_at_call 37; with_reducible refine Ans.use H2 _ fun n2 => ?_) | (go_at_call 26; first | (with_reducible refine AnsW.use (H3 _ _ hF) _ fun n3 => ?_) | (with_reducible refine AnsW.use0 (H3 _ _ hF) fun n3 => ?_)))
  go_ret
  exact ⟨by simp, bb hBV (bb hb1 (bb hb2 (by first | exact below_drewN _ _ | exact bb (below_drewN _ _) (below_drewN _ _) | exact Below.refl _ _)))⟩
set_option maxHeartbeats 1000000 in
theorem FieldDoes_none (W : World) (kind z q : Int) (A : Option Addr) (L C : Nat) (a b e : Int) (HM : AnsB W 30 #[srcV kind z q A L C] noV) : AnsB W 4 #[srcV kind z q A L C, .int .u64 a, .int .u64 b, .int .u64 e] (.bool true) := by
  intro w hw
  obtain ⟨t0, t1, t2, t3⟩ := four_cells w (.int .i64 kind) (.int .i64 z) (.int .u64 q) (.slice A L C) 25
  obtain ⟨V, hV⟩ : ∃ V, w.alloc (.cells #[.int .i64 kind, .int .i64 z, .int .u64 q, .slice A L C] 25) = V := ⟨_, rfl⟩
  have hBV : Below w.heap.size w V := hV ▸ below_alloc _ _
  obtain ⟨bo, hbo⟩ : ∃ bo, w.heap.size = bo := ⟨_, rfl⟩
  have hVs : bo < V.heap.size := by rw [← hV, ← hbo]; simp
  rw [hV, hbo] at t0 t1 t2 t3
  have hWV := bb hw hBV
  go_enter Tryz.func4, Tryz.ntmps4
  go_wp2_with (first | (go_at_call 10; with_reducible refine AnsM.use alive6 fun w1 hb1 => ?_; have s0 := keep_cell hb1 hVs t0; have s1 := keep_cell hb1 hVs t1; have s2 := keep_cell hb1 hVs t2; have s3 := keep_cell hb1 hVs t3; have hW1 := bb hWV hb1) | (go_at_call 30; with_reducible refine AnsB.use HM hW1 fun w2 hb2 => ?_))
  go_ret
  exact ⟨rfl, bb hBV (bb hb1 hb2)⟩
set_option maxRecDepth 100000 in
set_option maxHeartbeats 4000000 in
theorem does_0 (W : World) (kind z q : Int) (A : Option Addr) (L C : Nat) (a b e ra v1 v2 v3 v4 v5 v6 nb p g : Int) (x : En) (p0 : 2 < p) (p1 : p < 9223372036854775808) (pz : (p == 0) = false) (a0 : 0 ≤ a) (a1 : a < 18446744073709551616) (b0 : 0 ≤ b) (b1 : b < 18446744073709551616) (e0 : 0 ≤ e) (e1 : e < 18446744073709551616) (hra : a % p = ra) (ha : (ra != 0) = false)
    (HM : Made W (srcV kind z q A L C) p g x)
    (H0 : ∀ (W : World) (fb : Nat), FieldAt W fb x → AnsW W 22 #[pt fb, .int .u64 a, .int .u64 b] (.int .u64 v1))
    (H1 : Ans 32 #[.int .u64 a, .int .u64 b, .int .u64 p] (.int .u64 v1))
    (H2 : ∀ (W : World) (fb : Nat), FieldAt W fb x → AnsW W 23 #[pt fb, .int .u64 a, .int .u64 b] (.int .u64 v2))
    (H3 : Ans 33 #[.int .u64 b, .int .u64 p] (.int .u64 nb))
    (H4 : Ans 32 #[.int .u64 a, .int .u64 nb, .int .u64 p] (.int .u64 v2))
    (H5 : ∀ (W : World) (fb : Nat), FieldAt W fb x → AnsW W 24 #[pt fb, .int .u64 a] (.int .u64 v3))
    (H6 : Ans 33 #[.int .u64 a, .int .u64 p] (.int .u64 v3))
    (H7 : ∀ (W : World) (fb : Nat), FieldAt W fb x → AnsW W 25 #[pt fb, .int .u64 a, .int .u64 b] (.int .u64 v4))
    (H8 : Ans 34 #[.int .u64 a, .int .u64 b, .int .u64 p] (.int .u64 v4))
    (H9 : ∀ (W : World) (fb : Nat), FieldAt W fb x → AnsW W 26 #[pt fb, .int .u64 a, .int .u64 e] (.int .u64 v5))
    (H10 : Ans 35 #[.int .u64 a, .int .u64 e, .int .u64 p] (.int .u64 v5))
    (H11 : ∀ (W : World) (fb : Nat), FieldAt W fb x → AnsW W 27 #[pt fb, .int .u64 a] (.int .u64 0))
    (H12 : ∀ (W : World) (fb : Nat), FieldAt W fb x → AnsW W 28 #[pt fb, .int .u64 a] (.int .u64 v6))
    (H13 : Ans 36 #[.int .u64 a, .int .u64 p] (.int .u64 v6))
    (H14 : ∀ (W : World) (fb : Nat), FieldAt W fb x → AnsW W 29 #[pt fb, .int .u64 v6, .int .u64 b] (.int .u64 v4))
    : AnsB W 4 #[srcV kind z q A L C, .int .u64 a, .int .u64 b, .int .u64 e] (.bool true) := by
  intro w hw
  obtain ⟨t0, t1, t2, t3⟩ := four_cells w (.int .i64 kind) (.int .i64 z) (.int .u64 q) (.slice A L C) 25
  obtain ⟨V, hV⟩ : ∃ V, w.alloc (.cells #[.int .i64 kind, .int .i64 z, .int .u64 q, .slice A L C] 25) = V := ⟨_, rfl⟩
  have hBV : Below w.heap.size w V := hV ▸ below_alloc _ _
  obtain ⟨bo, hbo⟩ : ∃ bo, w.heap.size = bo := ⟨_, rfl⟩
  have hVs : bo < V.heap.size := by rw [← hV, ← hbo]; simp
  rw [hV, hbo] at t0 t1 t2 t3
  have hWV := bb hw hBV
  go_enter Tryz.func4, Tryz.ntmps4
  go_wp2_with (first | (go_at_call 10; with_reducible refine AnsM.use alive6 fun w1 hb1 => ?_; have s0 := keep_cell hb1 hVs t0; have s1 := keep_cell hb1 hVs t1; have s2 := keep_cell hb1 hVs t2; have s3 := keep_cell hb1 hVs t3; have hW1 := bb hWV hb1) | (go_at_call 30; with_reducible refine Made.use HM hW1 fun fb w2 hF hb2 => ?_) | (go_at_call 22; first | (with_reducible refine AnsW.use (H0 _ _ hF) _ fun n0 => ?_) | (with_reducible refine AnsW.use0 (H0 _ _ hF) fun n0 => ?_)) | (go_at_call 32; with_reducible refine Ans.use H1 _ fun n1 => ?_) | (go_at_call 23; first | (with_reducible refine AnsW.use (H2 _ _ hF) _ fun n2 => ?_) | (with_reducible refine AnsW.use0 (H2 _ _ hF) fun n2 => ?_)) | (go_at_call 33; with_reducible refine Ans.use H3 _ fun n3 => ?_) | (go_at_call 32; with_reducible refine Ans.use H4 _ fun n4 => ?_) | (go_at_call 24; first | (with_reducible refine AnsW.use (H5 _ _ hF) _ fun n5 => ?_) | (with_reducible refine AnsW.use0 (H5 _ _ hF) fun n5 => ?_)) | (go_at_call 33; with_reducible refine Ans.use H6 _ fun n6 => ?_) | (go_at_call 25; first | (with_reducible refine AnsW.use (H7 _ _ hF) _ fun n7 => ?_) | (with_reducible refine AnsW.use0 (H7 _ _ hF) fun n7 => ?_)) | (go_at_call 34; with_reducible refine Ans.use H8 _ fun n8 => ?_) | (go_at_call 26; first | (with_reducible refine AnsW.use (H9 _ _ hF) _ fun n9 => ?_) | (with_reducible refine AnsW.use0 (H9 _ _ hF) fun n9 => ?_)) | (go_at_call 35; with_reducible refine Ans.use H10 _ fun n10 => ?_) | (go_at_call 27; first | (with_reducible refine AnsW.use (H11 _ _ hF) _ fun n11 => ?_) | (with_reducible refine AnsW.use0 (H11 _ _ hF) fun n11 => ?_)) | (go_at_call 28; first | (with_reducible refine AnsW.use (H12 _ _ hF) _ fun n12 => ?_) | (with_reducible refine AnsW.use0 (H12 _ _ hF) fun n12 => ?_)) | (go_at_call 36; with_reducible refine Ans.use H13 _ fun n13 => ?_) | (go_at_call 29; first | (with_reducible refine AnsW.use (H14 _ _ hF) _ fun n14 => ?_) | (with_reducible refine AnsW.use0 (H14 _ _ hF) fun n14 => ?_)))
  go_ret
  exact ⟨rfl, bb hBV (bb hb1 (bb hb2 (by first | exact below_drewN _ _ | exact bb (below_drewN _ _) (below_drewN _ _) | exact Below.refl _ _)))⟩
set_option maxRecDepth 100000 in
set_option maxHeartbeats 4000000 in
theorem does_1 (W : World) (kind z q : Int) (A : Option Addr) (L C : Nat) (a b e ra v1 v2 v3 v4 v5 v6 vi nb p g : Int) (x : En) (p0 : 2 < p) (p1 : p < 9223372036854775808) (pz : (p == 0) = false) (a0 : 0 ≤ a) (a1 : a < 18446744073709551616) (b0 : 0 ≤ b) (b1 : b < 18446744073709551616) (e0 : 0 ≤ e) (e1 : e < 18446744073709551616) (hra : a % p = ra) (ha : (ra != 0) = true)
    (HM : Made W (srcV kind z q A L C) p g x)
    (H0 : ∀ (W : World) (fb : Nat), FieldAt W fb x → AnsW W 22 #[pt fb, .int .u64 a, .int .u64 b] (.int .u64 v1))
    (H1 : Ans 32 #[.int .u64 a, .int .u64 b, .int .u64 p] (.int .u64 v1))
    (H2 : ∀ (W : World) (fb : Nat), FieldAt W fb x → AnsW W 23 #[pt fb, .int .u64 a, .int .u64 b] (.int .u64 v2))
    (H3 : Ans 33 #[.int .u64 b, .int .u64 p] (.int .u64 nb))
    (H4 : Ans 32 #[.int .u64 a, .int .u64 nb, .int .u64 p] (.int .u64 v2))
    (H5 : ∀ (W : World) (fb : Nat), FieldAt W fb x → AnsW W 24 #[pt fb, .int .u64 a] (.int .u64 v3))
    (H6 : Ans 33 #[.int .u64 a, .int .u64 p] (.int .u64 v3))
    (H7 : ∀ (W : World) (fb : Nat), FieldAt W fb x → AnsW W 25 #[pt fb, .int .u64 a, .int .u64 b] (.int .u64 v4))
    (H8 : Ans 34 #[.int .u64 a, .int .u64 b, .int .u64 p] (.int .u64 v4))
    (H9 : ∀ (W : World) (fb : Nat), FieldAt W fb x → AnsW W 26 #[pt fb, .int .u64 a, .int .u64 e] (.int .u64 v5))
    (H10 : Ans 35 #[.int .u64 a, .int .u64 e, .int .u64 p] (.int .u64 v5))
    (H11 : ∀ (W : World) (fb : Nat), FieldAt W fb x → AnsW W 27 #[pt fb, .int .u64 a] (.int .u64 vi))
    (H12 : ∀ (W : World) (fb : Nat), FieldAt W fb x → AnsW W 28 #[pt fb, .int .u64 a] (.int .u64 v6))
    (H13 : Ans 36 #[.int .u64 a, .int .u64 p] (.int .u64 v6))
    (H14 : ∀ (W : World) (fb : Nat), FieldAt W fb x → AnsW W 29 #[pt fb, .int .u64 v6, .int .u64 b] (.int .u64 v4))
    (H15 : Ans 31 #[.int .u64 a, .int .u64 p] (.int .u64 vi))
    : AnsB W 4 #[srcV kind z q A L C, .int .u64 a, .int .u64 b, .int .u64 e] (.bool true) := by
  intro w hw
  obtain ⟨t0, t1, t2, t3⟩ := four_cells w (.int .i64 kind) (.int .i64 z) (.int .u64 q) (.slice A L C) 25
  obtain ⟨V, hV⟩ : ∃ V, w.alloc (.cells #[.int .i64 kind, .int .i64 z, .int .u64 q, .slice A L C] 25) = V := ⟨_, rfl⟩
  have hBV : Below w.heap.size w V := hV ▸ below_alloc _ _
  obtain ⟨bo, hbo⟩ : ∃ bo, w.heap.size = bo := ⟨_, rfl⟩
  have hVs : bo < V.heap.size := by rw [← hV, ← hbo]; simp
  rw [hV, hbo] at t0 t1 t2 t3
  have hWV := bb hw hBV
  go_enter Tryz.func4, Tryz.ntmps4
  go_wp2_with (first | (go_at_call 10; with_reducible refine AnsM.use alive6 fun w1 hb1 => ?_; have s0 := keep_cell hb1 hVs t0; have s1 := keep_cell hb1 hVs t1; have s2 := keep_cell hb1 hVs t2; have s3 := keep_cell hb1 hVs t3; have hW1 := bb hWV hb1) | (go_at_call 30; with_reducible refine Made.use HM hW1 fun fb w2 hF hb2 => ?_) | (go_at_call 22; first | (with_reducible refine AnsW.use (H0 _ _ hF) _ fun n0 => ?_) | (with_reducible refine AnsW.use0 (H0 _ _ hF) fun n0 => ?_)) | (go_at_call 32; with_reducible refine Ans.use H1 _ fun n1 => ?_) | (go_at_call 23; first | (with_reducible refine AnsW.use (H2 _ _ hF) _ fun n2 => ?_) | (with_reducible refine AnsW.use0 (H2 _ _ hF) fun n2 => ?_)) | (go_at_call 33; with_reducible refine Ans.use H3 _ fun n3 => ?_) | (go_at_call 32; with_reducible refine Ans.use H4 _ fun n4 => ?_) | (go_at_call 24; first | (with_reducible refine AnsW.use (H5 _ _ hF) _ fun n5 => ?_) | (with_reducible refine AnsW.use0 (H5 _ _ hF) fun n5 => ?_)) | (go_at_call 33; with_reducible refine Ans.use H6 _ fun n6 => ?_) | (go_at_call 25; first | (with_reducible refine AnsW.use (H7 _ _ hF) _ fun n7 => ?_) | (with_reducible refine AnsW.use0 (H7 _ _ hF) fun n7 => ?_)) | (go_at_call 34; with_reducible refine Ans.use H8 _ fun n8 => ?_) | (go_at_call 26; first | (with_reducible refine AnsW.use (H9 _ _ hF) _ fun n9 => ?_) | (with_reducible refine AnsW.use0 (H9 _ _ hF) fun n9 => ?_)) | (go_at_call 35; with_reducible refine Ans.use H10 _ fun n10 => ?_) | (go_at_call 27; first | (with_reducible refine AnsW.use (H11 _ _ hF) _ fun n11 => ?_) | (with_reducible refine AnsW.use0 (H11 _ _ hF) fun n11 => ?_)) | (go_at_call 28; first | (with_reducible refine AnsW.use (H12 _ _ hF) _ fun n12 => ?_) | (with_reducible refine AnsW.use0 (H12 _ _ hF) fun n12 => ?_)) | (go_at_call 36; with_reducible refine Ans.use H13 _ fun n13 => ?_) | (go_at_call 29; first | (with_reducible refine AnsW.use (H14 _ _ hF) _ fun n14 => ?_) | (with_reducible refine AnsW.use0 (H14 _ _ hF) fun n14 => ?_)) | (go_at_call 31; with_reducible refine Ans.use H15 _ fun n15 => ?_))
  go_ret
  exact ⟨rfl, bb hBV (bb hb1 (bb hb2 (by first | exact below_drewN _ _ | exact bb (below_drewN _ _) (below_drewN _ _) | exact Below.refl _ _)))⟩
end Go.Proofs.YtikmopnadmgilaaGreat

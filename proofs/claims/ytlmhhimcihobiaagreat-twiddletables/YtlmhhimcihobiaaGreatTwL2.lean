/-
  The statement TwiddleTables: true, of all sources and lengths.
-/
import Derived.Test.YtlmhhimcihobiaaGreatTwA
import Derived.Test.YtlmhhimcihobiaaGreatTw3
namespace Go.Proofs.YtlmhhimcihobiaaGreat
set_option linter.unusedVariables false
open Go.RowKit

set_option maxRecDepth 100000 in
set_option maxHeartbeats 2000000 in
theorem tab_none (W : World) (kind z q : Int) (A : Option Addr) (L C : Nat) (n : Int) (i : Bool) (HM : AnsB W 8 #[srcV kind z q A L C] noV) : AnsB W 3 #[srcV kind z q A L C, .int .i64 n, .bool i] (.bool true) := by
  intro w hw
  obtain ⟨t0, t1, t2, t3⟩ := four_cells w (.int .i64 kind) (.int .i64 z) (.int .u64 q) (.slice A L C) 25
  obtain ⟨V, hV⟩ : ∃ V, w.alloc (.cells #[.int .i64 kind, .int .i64 z, .int .u64 q, .slice A L C] 25) = V := ⟨_, rfl⟩
  have hBV : Below w.heap.size w V := hV ▸ below_alloc _ _
  obtain ⟨bo, hbo⟩ : ∃ bo, w.heap.size = bo := ⟨_, rfl⟩
  have hVs : bo < V.heap.size := by rw [← hV, ← hbo]; simp
  rw [hV, hbo] at t0 t1 t2 t3
  have hWV := bb hw hBV
  go_enter Tryz.func3, Tryz.ntmps3
  go_wp2_with (first
    | (go_at_call 7; with_reducible refine AnsM.use alive10 fun w1 hb1 => ?_; have s0 := keep_cell hb1 hVs t0; have s1 := keep_cell hb1 hVs t1; have s2 := keep_cell hb1 hVs t2; have s3 := keep_cell hb1 hVs t3; have hW1 := bb hWV hb1)
    | (go_at_call 8; with_reducible refine AnsB.use HM hW1 fun w2 hb2 => ?_; have hW2 := bb hW1 hb2)
    | (go_at_call 9; first | (with_reducible refine AnsW.use (tRoot_nil w2 n i) _ fun n3 => ?_) | (with_reducible refine AnsW.use0 (tRoot_nil w2 n i) fun n3 => ?_)))
  go_ret
  exact ⟨rfl, bb hBV (bb hb1 (bb hb2 (below_drewN _ _)))⟩
set_option maxRecDepth 100000 in
set_option maxHeartbeats 2000000 in
theorem tab_out (W : World) (kind z q : Int) (A : Option Addr) (L C : Nat) (n : Int) (i : Bool) (r e : Int) (h1 : 300 < n) (h2 : n ≤ 4096) (p g : Int) (x : En) (p0 : 2 < p) (p1 : p < 9223372036854775808) (pz : (p == 0) = false) (HM : Made W (srcV kind z q A L C) p g x)
    (HR : ∀ w b, FieldAt w b x → AnsW w 9 #[pt b, .int .i64 n, .bool i] (.tuple #[.int .u64 r, .int .i64 e])) : AnsB W 3 #[srcV kind z q A L C, .int .i64 n, .bool i] (.bool true) := by
  intro w hw
  obtain ⟨t0, t1, t2, t3⟩ := four_cells w (.int .i64 kind) (.int .i64 z) (.int .u64 q) (.slice A L C) 25
  obtain ⟨V, hV⟩ : ∃ V, w.alloc (.cells #[.int .i64 kind, .int .i64 z, .int .u64 q, .slice A L C] 25) = V := ⟨_, rfl⟩
  have hBV : Below w.heap.size w V := hV ▸ below_alloc _ _
  obtain ⟨bo, hbo⟩ : ∃ bo, w.heap.size = bo := ⟨_, rfl⟩
  have hVs : bo < V.heap.size := by rw [← hV, ← hbo]; simp
  rw [hV, hbo] at t0 t1 t2 t3
  have hWV := bb hw hBV
  go_enter Tryz.func3, Tryz.ntmps3
  go_wp2_with (first
    | (go_at_call 7; with_reducible refine AnsM.use alive10 fun w1 hb1 => ?_; have s0 := keep_cell hb1 hVs t0; have s1 := keep_cell hb1 hVs t1; have s2 := keep_cell hb1 hVs t2; have s3 := keep_cell hb1 hVs t3; have hW1 := bb hWV hb1)
    | (go_at_call 8; with_reducible refine Made.use HM hW1 fun fb w2 hF hb2 => ?_; have hW2 := bb hW1 hb2; have HR2 := HR w2 fb hF)
    | (go_at_call 9; first | (with_reducible refine AnsW.use HR2 _ fun n3 => ?_) | (with_reducible refine AnsW.use0 HR2 fun n3 => ?_)))
  go_ret
  exact ⟨rfl, bb hBV (bb hb1 (bb hb2 (below_drewN _ _)))⟩
set_option maxRecDepth 100000 in
set_option maxHeartbeats 2000000 in
theorem tab_err (W : World) (kind z q : Int) (A : Option Addr) (L C : Nat) (n : Int) (i : Bool) (e : Int) (he : (e != 0) = true) (he2 : ¬ e = 0) (hout : n ≤ 300) (p g : Int) (x : En) (p0 : 2 < p) (p1 : p < 9223372036854775808) (pz : (p == 0) = false) (HM : Made W (srcV kind z q A L C) p g x)
    (HR : ∀ w b, FieldAt w b x → AnsW w 9 #[pt b, .int .i64 n, .bool i] (.tuple #[.int .u64 0, .int .i64 e]))
    (HD : Ans 10 #[.int .u64 p, .int .u64 g, .int .i64 n, .bool i] (.tuple #[.int .u64 0, .int .i64 e]))
    (HT : ∀ w b, FieldAt w b x → AnsW w 11 #[pt b, .int .i64 n, .bool i] (.tuple #[.slice none 0 0, .int .i64 e]))
    (HL : ∀ w b, FieldAt w b x → AnsW w 12 #[pt b, .int .i64 n, .bool i] (.tuple #[.slice none 0 0, .int .i64 e])) : AnsB W 3 #[srcV kind z q A L C, .int .i64 n, .bool i] (.bool true) := by
  intro w hw
  obtain ⟨t0, t1, t2, t3⟩ := four_cells w (.int .i64 kind) (.int .i64 z) (.int .u64 q) (.slice A L C) 25
  obtain ⟨V, hV⟩ : ∃ V, w.alloc (.cells #[.int .i64 kind, .int .i64 z, .int .u64 q, .slice A L C] 25) = V := ⟨_, rfl⟩
  have hBV : Below w.heap.size w V := hV ▸ below_alloc _ _
  obtain ⟨bo, hbo⟩ : ∃ bo, w.heap.size = bo := ⟨_, rfl⟩
  have hVs : bo < V.heap.size := by rw [← hV, ← hbo]; simp
  rw [hV, hbo] at t0 t1 t2 t3
  have hWV := bb hw hBV
  go_enter Tryz.func3, Tryz.ntmps3
  go_wp2_with (first
    | (go_at_call 7; with_reducible refine AnsM.use alive10 fun w1 hb1 => ?_; have s0 := keep_cell hb1 hVs t0; have s1 := keep_cell hb1 hVs t1; have s2 := keep_cell hb1 hVs t2; have s3 := keep_cell hb1 hVs t3; have hW1 := bb hWV hb1)
    | (go_at_call 8; with_reducible refine Made.use HM hW1 fun fb w2 hF hb2 => ?_; have hW2 := bb hW1 hb2; have HR2 := HR w2 fb hF; have HT2 := HT w2 fb hF; have HL2 := HL w2 fb hF)
    | (go_at_call 9; first | (with_reducible refine AnsW.use HR2 _ fun n3 => ?_) | (with_reducible refine AnsW.use0 HR2 fun n3 => ?_))
    | (go_at_call 10; with_reducible refine Ans.use HD _ fun n4 => ?_)
    | (go_at_call 11; first | (with_reducible refine AnsW.use HT2 _ fun n5 => ?_) | (with_reducible refine AnsW.use0 HT2 fun n5 => ?_))
    | (go_at_call 12; first | (with_reducible refine AnsW.use HL2 _ fun n6 => ?_) | (with_reducible refine AnsW.use0 HL2 fun n6 => ?_)))
  go_ret
  exact ⟨rfl, bb hBV (bb hb1 (bb hb2 (by first | exact below_drewN _ _ | exact bb (below_drewN _ _) (below_drewN _ _) | exact bb (below_drewN _ _) (bb (below_drewN _ _) (below_drewN _ _)))))⟩
set_option maxRecDepth 100000 in
set_option maxHeartbeats 2000000 in
theorem tab_err2 (W : World) (kind z q : Int) (A : Option Addr) (L C : Nat) (n : Int) (i : Bool) (e : Int) (he : (e != 0) = true) (he2 : ¬ e = 0) (hout : 300 < n) (hout2 : ¬ n ≤ 4096) (p g : Int) (x : En) (p0 : 2 < p) (p1 : p < 9223372036854775808) (pz : (p == 0) = false) (HM : Made W (srcV kind z q A L C) p g x)
    (HR : ∀ w b, FieldAt w b x → AnsW w 9 #[pt b, .int .i64 n, .bool i] (.tuple #[.int .u64 0, .int .i64 e]))
    (HD : Ans 10 #[.int .u64 p, .int .u64 g, .int .i64 n, .bool i] (.tuple #[.int .u64 0, .int .i64 e]))
    (HT : ∀ w b, FieldAt w b x → AnsW w 11 #[pt b, .int .i64 n, .bool i] (.tuple #[.slice none 0 0, .int .i64 e]))
    (HL : ∀ w b, FieldAt w b x → AnsW w 12 #[pt b, .int .i64 n, .bool i] (.tuple #[.slice none 0 0, .int .i64 e])) : AnsB W 3 #[srcV kind z q A L C, .int .i64 n, .bool i] (.bool true) := by
  intro w hw
  obtain ⟨t0, t1, t2, t3⟩ := four_cells w (.int .i64 kind) (.int .i64 z) (.int .u64 q) (.slice A L C) 25
  obtain ⟨V, hV⟩ : ∃ V, w.alloc (.cells #[.int .i64 kind, .int .i64 z, .int .u64 q, .slice A L C] 25) = V := ⟨_, rfl⟩
  have hBV : Below w.heap.size w V := hV ▸ below_alloc _ _
  obtain ⟨bo, hbo⟩ : ∃ bo, w.heap.size = bo := ⟨_, rfl⟩
  have hVs : bo < V.heap.size := by rw [← hV, ← hbo]; simp
  rw [hV, hbo] at t0 t1 t2 t3
  have hWV := bb hw hBV
  go_enter Tryz.func3, Tryz.ntmps3
  go_wp2_with (first
    | (go_at_call 7; with_reducible refine AnsM.use alive10 fun w1 hb1 => ?_; have s0 := keep_cell hb1 hVs t0; have s1 := keep_cell hb1 hVs t1; have s2 := keep_cell hb1 hVs t2; have s3 := keep_cell hb1 hVs t3; have hW1 := bb hWV hb1)
    | (go_at_call 8; with_reducible refine Made.use HM hW1 fun fb w2 hF hb2 => ?_; have hW2 := bb hW1 hb2; have HR2 := HR w2 fb hF; have HT2 := HT w2 fb hF; have HL2 := HL w2 fb hF)
    | (go_at_call 9; first | (with_reducible refine AnsW.use HR2 _ fun n3 => ?_) | (with_reducible refine AnsW.use0 HR2 fun n3 => ?_))
    | (go_at_call 10; with_reducible refine Ans.use HD _ fun n4 => ?_)
    | (go_at_call 11; first | (with_reducible refine AnsW.use HT2 _ fun n5 => ?_) | (with_reducible refine AnsW.use0 HT2 fun n5 => ?_))
    | (go_at_call 12; first | (with_reducible refine AnsW.use HL2 _ fun n6 => ?_) | (with_reducible refine AnsW.use0 HL2 fun n6 => ?_)))
  go_ret
  exact ⟨rfl, bb hBV (bb hb1 (bb hb2 (by first | exact below_drewN _ _ | exact bb (below_drewN _ _) (below_drewN _ _) | exact bb (below_drewN _ _) (bb (below_drewN _ _) (below_drewN _ _)))))⟩
set_option maxRecDepth 100000 in
set_option maxHeartbeats 4000000 in
theorem tab_yes (W : World) (kind z q : Int) (A : Option Addr) (L C : Nat) (N : Nat) (i : Bool) (r : Int) (ts : List Nat) (u : Nat → Nat) (h1 : 1 ≤ N) (h2 : (N : Int) ≤ 300) (hl : ts.length = N) (hsm : ∀ y ∈ ts, y < 18446744073709551616) (hsu : ∀ y ∈ ts, u y < 18446744073709551616) (p g : Int) (x : En) (p0 : 2 < p) (p1 : p < 9223372036854775808) (pz : (p == 0) = false) (HM : Made W (srcV kind z q A L C) p g x)
    (HR : ∀ w b, FieldAt w b x → AnsW w 9 #[pt b, .int .i64 (N : Int), .bool i] (.tuple #[.int .u64 r, .int .i64 0]))
    (HD : Ans 10 #[.int .u64 p, .int .u64 g, .int .i64 (N : Int), .bool i] (.tuple #[.int .u64 r, .int .i64 0]))
    (HT : ∀ w b, FieldAt w b x → OwnT w 11 #[pt b, .int .i64 (N : Int), .bool i] ts)
    (HL : ∀ w b, FieldAt w b x → OwnT w 12 #[pt b, .int .i64 (N : Int), .bool i] (ts.map u))
    (HDt : ∀ w, OwnR w 13 #[.int .u64 p, .int .u64 r, .int .i64 (N : Int)] ts)
    (HLi : ∀ w b, FieldAt w b x → ∀ y ∈ ts, AnsW w 14 #[pt b, .int .u64 (y : Int)] (.int .u64 ((u y : Nat) : Int))) : AnsB W 3 #[srcV kind z q A L C, .int .i64 (N : Int), .bool i] (.bool true) := by
  intro w hw
  obtain ⟨t0, t1, t2, t3⟩ := four_cells w (.int .i64 kind) (.int .i64 z) (.int .u64 q) (.slice A L C) 25
  obtain ⟨V, hV⟩ : ∃ V, w.alloc (.cells #[.int .i64 kind, .int .i64 z, .int .u64 q, .slice A L C] 25) = V := ⟨_, rfl⟩
  have hBV : Below w.heap.size w V := hV ▸ below_alloc _ _
  obtain ⟨bo, hbo⟩ : ∃ bo, w.heap.size = bo := ⟨_, rfl⟩
  have hVs : bo < V.heap.size := by rw [← hV, ← hbo]; simp
  rw [hV, hbo] at t0 t1 t2 t3
  have hWV := bb hw hBV
  have hlu : (ts.map u).length = N := by rw [List.length_map, hl]
  have HSM : Hid (∀ y ∈ ts, y < 18446744073709551616) := hsm
  have HSU : Hid (∀ y ∈ ts.map u, y < 18446744073709551616) := fun y hy => by
    obtain ⟨z, hz, rfl⟩ := List.mem_map.1 hy
    exact hsu z hz
  have HHL : Hid (ts.length = N) := hl
  have HLU : Hid ((ts.map u).length = N) := hlu
  have HH1 : Hid (1 ≤ N) := h1
  have HLi' : Hid (∀ w b, FieldAt w b x → ∀ y ∈ ts, AnsW w 14 #[pt b, .int .u64 (y : Int)] (.int .u64 ((u y : Nat) : Int))) := HLi
  have hlenN : (N : Int) ≤ 9223372036854775807 := by omega
  clear hl hlu hsm hsu HLi
  go_enter Tryz.func3, Tryz.ntmps3
  go_wp2_with (first
    | (go_at_call 7; with_reducible refine AnsM.use alive10 fun w1 hb1 => ?_; have s0 := keep_cell hb1 hVs t0; have s1 := keep_cell hb1 hVs t1; have s2 := keep_cell hb1 hVs t2; have s3 := keep_cell hb1 hVs t3; have hW1 := bb hWV hb1)
    | (go_at_call 8; with_reducible refine Made.use HM hW1 fun fb w2 hF hb2 => ?_; have hW2 := bb hW1 hb2; have HR2 := HR w2 fb hF; have HT2 := HT w2 fb hF)
    | (go_at_call 9; first | (with_reducible refine AnsW.use HR2 _ fun n3 => ?_) | (with_reducible refine AnsW.use0 HR2 fun n3 => ?_))
    | (go_at_call 10; with_reducible refine Ans.use HD _ fun n4 => ?_)
    | (go_at_call 11; with_reducible refine OwnT.useG HT2 HHL.out HH1.out (by first | exact below_drewN _ _ | exact bb (below_drewN _ _) (below_drewN _ _) | exact Below.refl _ _) fun g1 C1 w3 hO3 hb3 => ?_; have hB3 := bb (by first | exact below_drewN _ _ | exact bb (below_drewN _ _) (below_drewN _ _) | exact Below.refl _ _) hb3; have hF3 := FieldAt.below hF hB3; have HL3 := HL w3 fb hF3)
    | (go_at_call 12; with_reducible refine OwnT.useG HL3 HLU.out HH1.out (Below.refl _ _) fun g2 C2 w4 hO4 hb4 => ?_; have hF4 := FieldAt.below hF3 hb4; have HD4 := HDt w4)
    | (go_at_call 13; with_reducible refine OwnR.useG HD4 HHL.out HH1.out (Below.refl _ _) fun g3 C3 w5 hO5 hb5 => ?_))
  have hF5 := FieldAt.below hF4 hb5
  have HU1 : Hid (UAt w5 (some ⟨g1, 0, none⟩) C1 ts) := ((hO3.words HSM.out).below hb4).below hb5
  have HU2 : Hid (UAt w5 (some ⟨g2, 0, none⟩) C2 (ts.map u)) := (hO4.words HSU.out).below hb5
  have HU3 : Hid (UAt w5 (some ⟨g3, 0, none⟩) C3 ts) := hO5.words HSM.out
  have HB5 : Hid (Below w.heap.size w w5) := bb hBV (bb hb1 (bb hb2 (bb hB3 (bb hb4 hb5))))
  have HLi5 := HLi'.out w5 fb hF5
  clear hO3 hO4 hO5 hb5 hb4 hb3 hB3 hb2 hb1 HD4 HL3 HT2 HR2 hF hF3 hF4 hF5
  go_loopw [120] (fun v wr => ∃ k j : Nat, v = .int .i64 (k : Int) ∧ k ≤ N ∧ wr = w5.drewN j) (fun v _ => N - (intOf v).toNat)
  case atStart => exact ⟨0, 0, rfl, by omega, rfl⟩
  case round =>
    obtain ⟨k, j, rfl, hk, rfl⟩ := hrel
    by_cases hlt : k < N
    · obtain ⟨y, hy⟩ : ∃ y, ts[k]? = some y := ⟨_, List.getElem?_eq_getElem (by rw [HHL.out]; exact hlt)⟩
      have hu : (ts.map u)[k]? = some (u y) := by rw [List.getElem?_map, hy]; rfl
      have c1 := HU1.out.at0 hy
      have c2 := HU2.out.at0 hu
      have c3 := HU3.out.at0 hy
      have HLy := HLi5 y (List.mem_of_getElem? hy)
      obtain ⟨v, hv⟩ : ∃ v, u y = v := ⟨_, rfl⟩
      rw [hv] at c2 HLy
      have e1 : ((y : Int) != (y : Int)) = false := by simp
      have e2 : ((v : Int) != (v : Int)) = false := by simp
      have hki : (k : Int) < (N : Int) := ltI hlt
      clear hy hu hv HLi5
      go_wp2
      go_quiet ((go_at_call 14; first | (with_reducible exact AnsW.quiet HLy) | (with_reducible exact AnsW.quiet0 HLy)))
      go_wp2
      go_roundw
      case rel => exact ⟨k + 1, j + nq, by go_num, by omega, by first | rfl | (rw [World.drewN_drewN]) | (rw [Nat.add_assoc])⟩
      case measure => simp [intOf]; omega
    · obtain rfl : k = N := by omega
      go_wp2
      go_ret
      exact ⟨rfl, bb HB5.out (below_drewN _ _)⟩
theorem tables_any (W : World) (kind z : Int) (hz : z < 9223372036854775808) (q : Nat) (hq : q < 18446744073709551616) (A : Option Addr) (C : Nat) (es : List En) (hE : EntsAt W A C es) (hfs : ∀ x ∈ es, x.fs.length * 16 ≤ 140737488355328) (n : Int) (hn : n < 9223372036854775808) (i : Bool) :
    AnsB W 3 #[srcV kind z (q : Int) A es.length C, .int .i64 n, .bool i] (.bool true) := by
  rcases made_any W kind z hz q hq A C es hE hfs with HM | ⟨x, hF, HM⟩
  · exact tab_none W kind z q A _ C n i HM
  · obtain ⟨h3, hodd, hlt⟩ := hF.num
    have hg := hF.gl
    have pz : ((x.p : Int) == 0) = false := by simp; omega
    by_cases hn1 : n < 1
    · have HR : ∀ w b, FieldAt w b x → AnsW w 9 #[pt b, .int .i64 n, .bool i] (.tuple #[.int .u64 0, .int .i64 1]) := fun w b _ => tRoot_arg w _ n i hn1
      exact tab_err W kind z q A _ C n i 1 rfl (by omega) (by omega) x.p x.g x (by omega) (by omega) pz HM HR (dRoot_arg _ _ n i hn1) (fun w b F => table_err w _ n 0 1 i rfl (HR w b F)) (fun w b F => lifted_err w _ n 1 i rfl (table_err w _ n 0 1 i rfl (HR w b F)))
    · by_cases hn2 : 4096 < n
      · have HR : ∀ w b, FieldAt w b x → AnsW w 9 #[pt b, .int .i64 n, .bool i] (.tuple #[.int .u64 0, .int .i64 13]) := fun w b _ => tRoot_long w _ n i (by omega) hn2
        exact tab_err2 W kind z q A _ C n i 13 rfl (by omega) (by omega) (by omega) x.p x.g x (by omega) (by omega) pz HM HR (dRoot_long _ _ n i (by omega) hn2) (fun w b F => table_err w _ n 0 13 i rfl (HR w b F)) (fun w b F => lifted_err w _ n 13 i rfl (table_err w _ n 0 13 i rfl (HR w b F)))
      · obtain ⟨N, rfl⟩ := Int.eq_ofNat_of_zero_le (show 0 ≤ n by omega)
        by_cases hd : (x.p - 1) % N = 0
        · by_cases h300 : 300 < N
          · exact tab_out W kind z q A _ C N i _ 0 (by omega) (by omega) x.p x.g x (by omega) (by omega) pz HM (fun w b F => tRoot_yes F hF N (by omega) (by omega) hd i)
          · have hts := twR_lt hF N i
            refine tab_yes W kind z q A _ C N i _ (pws (twR x N i) x.p N) (fun y => up y x.p) (by omega) (by omega) (pws_len _ _ _) (fun y hy => by have := pws_lt (show 0 < x.p by omega) y hy; omega) (fun y _ => by have := up_lt y x.p (by omega); omega) x.p x.g x (by omega) (by omega) pz HM
              (fun w b F => tRoot_yes F hF N (by omega) (by omega) hd i) (dRoot_yes hF N (by omega) (by omega) hd i) (fun w b F => table_yes w b x F hF N (by omega) (by omega) hd i) (fun w b F => lifted_yes w b x F hF N (by omega) (by omega) hd i)
              (fun w => dTable_any w _ x.p N (by omega) (by omega) (by omega) (by omega)) (fun w b F y hy => fLift_any F y (by have := pws_lt (show 0 < x.p by omega) y hy; omega))
        · have HR : ∀ w b, FieldAt w b x → AnsW w 9 #[pt b, .int .i64 (N : Int), .bool i] (.tuple #[.int .u64 0, .int .i64 4]) := fun w b F =>
            tRoot_no w _ N i (by omega) (by omega) (fRoot_bad F N (by omega) (by unfold dvB; rw [Int.toNat_natCast, decide_eq_false hd, Bool.and_false]))
          by_cases h300 : 300 < N
          · exact tab_out W kind z q A _ C N i 0 4 (by omega) (by omega) x.p x.g x (by omega) (by omega) pz HM HR
          · exact tab_err W kind z q A _ C N i 4 rfl (by omega) (by omega) x.p x.g x (by omega) (by omega) pz HM HR (dRoot_bad hF N (by omega) (by omega) hd i) (fun w b F => table_err w _ N 0 4 i rfl (HR w b F)) (fun w b F => lifted_err w _ N 4 i rfl (table_err w _ N 0 4 i rfl (HR w b F)))
end Go.Proofs.YtlmhhimcihobiaaGreat

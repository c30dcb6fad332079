/-
  The statement TwiddleHalves: true, of all sources and lengths.
-/
import Derived.Test.YtlmhhimcihobiaaGreatTwA
namespace Go.Proofs.YtlmhhimcihobiaaGreat
set_option linter.unusedVariables false
open Go.RowKit

theorem dbl {k : Nat} (h : k ≤ 8192) : wrap64 (2 * (k : Int)) = ((2 * k : Nat) : Int) := by unfold wrap64; omega
theorem dblI {k : Nat} (h : k ≤ 8192) : IntKind.i64.wrap (2 * (k : Int)) = ((2 * k : Nat) : Int) := by rw [IntKind.wrap_i64]; omega
theorem addW {k n : Nat} (h : k ≤ 8192) (h2 : n ≤ 8192) : wrap64 ((k : Int) + (n : Int)) = ((k + n : Nat) : Int) := by unfold wrap64; omega
theorem addI {k n : Nat} (h : k ≤ 8192) (h2 : n ≤ 8192) : IntKind.i64.wrap ((k : Int) + (n : Int)) = ((k + n : Nat) : Int) := by rw [IntKind.wrap_i64]; omega
set_option maxRecDepth 100000 in
set_option maxHeartbeats 2000000 in
theorem hal_none (W : World) (kind z q : Int) (A : Option Addr) (L C : Nat) (n : Int) (HM : AnsB W 8 #[srcV kind z q A L C] noV) : AnsB W 6 #[srcV kind z q A L C, .int .i64 n] (.bool true) := by
  intro w hw
  obtain ⟨t0, t1, t2, t3⟩ := four_cells w (.int .i64 kind) (.int .i64 z) (.int .u64 q) (.slice A L C) 25
  obtain ⟨V, hV⟩ : ∃ V, w.alloc (.cells #[.int .i64 kind, .int .i64 z, .int .u64 q, .slice A L C] 25) = V := ⟨_, rfl⟩
  have hBV : Below w.heap.size w V := hV ▸ below_alloc _ _
  obtain ⟨bo, hbo⟩ : ∃ bo, w.heap.size = bo := ⟨_, rfl⟩
  have hVs : bo < V.heap.size := by rw [← hV, ← hbo]; simp
  rw [hV, hbo] at t0 t1 t2 t3
  have hWV := bb hw hBV
  go_enter Tryz.func6, Tryz.ntmps6
  go_wp2_with (first
    | (go_at_call 7; with_reducible refine AnsM.use alive10 fun w1 hb1 => ?_; have s0 := keep_cell hb1 hVs t0; have s1 := keep_cell hb1 hVs t1; have s2 := keep_cell hb1 hVs t2; have s3 := keep_cell hb1 hVs t3; have hW1 := bb hWV hb1)
    | (go_at_call 8; with_reducible refine AnsB.use HM hW1 fun w2 hb2 => ?_; have hW2 := bb hW1 hb2))
  go_ret
  exact ⟨rfl, bb hBV (bb hb1 hb2)⟩
set_option maxRecDepth 100000 in
set_option maxHeartbeats 2000000 in
theorem hal_less (W : World) (kind z q : Int) (A : Option Addr) (L C : Nat) (n : Int) (h : n < 1) (p g : Int) (x : En) (p0 : 2 < p) (p1 : p < 9223372036854775808) (pz : (p == 0) = false) (HM : Made W (srcV kind z q A L C) p g x) : AnsB W 6 #[srcV kind z q A L C, .int .i64 n] (.bool true) := by
  intro w hw
  obtain ⟨t0, t1, t2, t3⟩ := four_cells w (.int .i64 kind) (.int .i64 z) (.int .u64 q) (.slice A L C) 25
  obtain ⟨V, hV⟩ : ∃ V, w.alloc (.cells #[.int .i64 kind, .int .i64 z, .int .u64 q, .slice A L C] 25) = V := ⟨_, rfl⟩
  have hBV : Below w.heap.size w V := hV ▸ below_alloc _ _
  obtain ⟨bo, hbo⟩ : ∃ bo, w.heap.size = bo := ⟨_, rfl⟩
  have hVs : bo < V.heap.size := by rw [← hV, ← hbo]; simp
  rw [hV, hbo] at t0 t1 t2 t3
  have hWV := bb hw hBV
  go_enter Tryz.func6, Tryz.ntmps6
  go_wp2_with (first
    | (go_at_call 7; with_reducible refine AnsM.use alive10 fun w1 hb1 => ?_; have s0 := keep_cell hb1 hVs t0; have s1 := keep_cell hb1 hVs t1; have s2 := keep_cell hb1 hVs t2; have s3 := keep_cell hb1 hVs t3; have hW1 := bb hWV hb1)
    | (go_at_call 8; with_reducible refine Made.use HM hW1 fun fb w2 hF hb2 => ?_; have hW2 := bb hW1 hb2))
  go_ret
  exact ⟨rfl, bb hBV (bb hb1 hb2)⟩
set_option maxRecDepth 100000 in
set_option maxHeartbeats 2000000 in
theorem hal_more (W : World) (kind z q : Int) (A : Option Addr) (L C : Nat) (n : Int) (h : 1 ≤ n) (h2 : 150 < n) (p g : Int) (x : En) (p0 : 2 < p) (p1 : p < 9223372036854775808) (pz : (p == 0) = false) (HM : Made W (srcV kind z q A L C) p g x) : AnsB W 6 #[srcV kind z q A L C, .int .i64 n] (.bool true) := by
  intro w hw
  obtain ⟨t0, t1, t2, t3⟩ := four_cells w (.int .i64 kind) (.int .i64 z) (.int .u64 q) (.slice A L C) 25
  obtain ⟨V, hV⟩ : ∃ V, w.alloc (.cells #[.int .i64 kind, .int .i64 z, .int .u64 q, .slice A L C] 25) = V := ⟨_, rfl⟩
  have hBV : Below w.heap.size w V := hV ▸ below_alloc _ _
  obtain ⟨bo, hbo⟩ : ∃ bo, w.heap.size = bo := ⟨_, rfl⟩
  have hVs : bo < V.heap.size := by rw [← hV, ← hbo]; simp
  rw [hV, hbo] at t0 t1 t2 t3
  have hWV := bb hw hBV
  go_enter Tryz.func6, Tryz.ntmps6
  go_wp2_with (first
    | (go_at_call 7; with_reducible refine AnsM.use alive10 fun w1 hb1 => ?_; have s0 := keep_cell hb1 hVs t0; have s1 := keep_cell hb1 hVs t1; have s2 := keep_cell hb1 hVs t2; have s3 := keep_cell hb1 hVs t3; have hW1 := bb hWV hb1)
    | (go_at_call 8; with_reducible refine Made.use HM hW1 fun fb w2 hF hb2 => ?_; have hW2 := bb hW1 hb2))
  go_ret
  exact ⟨rfl, bb hBV (bb hb1 hb2)⟩
set_option maxRecDepth 100000 in
set_option maxHeartbeats 2000000 in
theorem hal_not (W : World) (kind z q : Int) (A : Option Addr) (L C : Nat) (n : Int) (t : Int) (h : 1 ≤ n) (h2 : n ≤ 150) (ht : IntKind.i64.wrap (2 * n) = t) (ht2 : wrap64 (2 * n) = t) (p g : Int) (x : En) (p0 : 2 < p) (p1 : p < 9223372036854775808) (pz : (p == 0) = false) (HM : Made W (srcV kind z q A L C) p g x)
    (HD : ∀ w b, FieldAt w b x → AnsW w 17 #[pt b, .int .i64 t] (.bool false)) : AnsB W 6 #[srcV kind z q A L C, .int .i64 n] (.bool true) := by
  intro w hw
  obtain ⟨t0, t1, t2, t3⟩ := four_cells w (.int .i64 kind) (.int .i64 z) (.int .u64 q) (.slice A L C) 25
  obtain ⟨V, hV⟩ : ∃ V, w.alloc (.cells #[.int .i64 kind, .int .i64 z, .int .u64 q, .slice A L C] 25) = V := ⟨_, rfl⟩
  have hBV : Below w.heap.size w V := hV ▸ below_alloc _ _
  obtain ⟨bo, hbo⟩ : ∃ bo, w.heap.size = bo := ⟨_, rfl⟩
  have hVs : bo < V.heap.size := by rw [← hV, ← hbo]; simp
  rw [hV, hbo] at t0 t1 t2 t3
  have hWV := bb hw hBV
  go_enter Tryz.func6, Tryz.ntmps6
  go_wp2_with (first
    | (go_at_call 7; with_reducible refine AnsM.use alive10 fun w1 hb1 => ?_; have s0 := keep_cell hb1 hVs t0; have s1 := keep_cell hb1 hVs t1; have s2 := keep_cell hb1 hVs t2; have s3 := keep_cell hb1 hVs t3; have hW1 := bb hWV hb1)
    | (go_at_call 8; with_reducible refine Made.use HM hW1 fun fb w2 hF hb2 => ?_; have hW2 := bb hW1 hb2; have HD2 := HD w2 fb hF)
    | (go_at_call 17; first | (with_reducible refine AnsW.use HD2 _ fun n3 => ?_) | (with_reducible refine AnsW.use0 HD2 fun n3 => ?_)))
  go_ret
  exact ⟨rfl, bb hBV (bb hb1 (bb hb2 (below_drewN _ _)))⟩
set_option maxRecDepth 100000 in
set_option maxHeartbeats 4000000 in
theorem hal_yes (W : World) (kind z q : Int) (A : Option Addr) (L C : Nat) (N M : Nat) (ts us : List Nat) (u : Nat → Nat) (h1 : 1 ≤ N) (h2 : (N : Int) ≤ 150) (hM : 2 * N = M) (hl : ts.length = M) (hlu : us.length = N) (hsm : ∀ y ∈ ts, y < 18446744073709551616) (hsu : ∀ y ∈ us, y < 18446744073709551616)
    (hS : ∀ k, k < N → ts[2 * k]? = us[k]?) (hO : ∀ k y, k < N → ts[k]? = some y → ts[k + N]? = some (u y)) (p g : Int) (x : En) (p0 : 2 < p) (p1 : p < 9223372036854775808) (pz : (p == 0) = false) (HM : Made W (srcV kind z q A L C) p g x)
    (HD : ∀ w b, FieldAt w b x → AnsW w 17 #[pt b, .int .i64 (M : Int)] (.bool true))
    (HT : ∀ w b, FieldAt w b x → OwnT w 11 #[pt b, .int .i64 (M : Int), .bool false] ts)
    (HU : ∀ w b, FieldAt w b x → OwnT w 11 #[pt b, .int .i64 (N : Int), .bool false] us)
    (HN : ∀ y ∈ ts, Ans 19 #[.int .u64 (y : Int), .int .u64 p] (.int .u64 ((u y : Nat) : Int))) : AnsB W 6 #[srcV kind z q A L C, .int .i64 (N : Int)] (.bool true) := by
  intro w hw
  obtain ⟨t0, t1, t2, t3⟩ := four_cells w (.int .i64 kind) (.int .i64 z) (.int .u64 q) (.slice A L C) 25
  obtain ⟨V, hV⟩ : ∃ V, w.alloc (.cells #[.int .i64 kind, .int .i64 z, .int .u64 q, .slice A L C] 25) = V := ⟨_, rfl⟩
  have hBV : Below w.heap.size w V := hV ▸ below_alloc _ _
  obtain ⟨bo, hbo⟩ : ∃ bo, w.heap.size = bo := ⟨_, rfl⟩
  have hVs : bo < V.heap.size := by rw [← hV, ← hbo]; simp
  rw [hV, hbo] at t0 t1 t2 t3
  have hWV := bb hw hBV
  have HSM : Hid (∀ y ∈ ts, y < 18446744073709551616) := hsm
  have HSU : Hid (∀ y ∈ us, y < 18446744073709551616) := hsu
  have HHL : Hid (ts.length = M) := hl
  have HLU : Hid (us.length = N) := hlu
  have HH1 : Hid (1 ≤ N ∧ N ≤ 150) := ⟨h1, by omega⟩
  have HM1 : Hid (1 ≤ M) := by unfold Hid; omega
  have HM2 : Hid (2 * N = M) := hM
  have HS' : Hid (∀ k, k < N → ts[2 * k]? = us[k]?) := hS
  have HO' : Hid (∀ k y, k < N → ts[k]? = some y → ts[k + N]? = some (u y)) := hO
  have HN' : Hid (∀ y ∈ ts, Ans 19 #[.int .u64 (y : Int), .int .u64 p] (.int .u64 ((u y : Nat) : Int))) := HN
  have hlenN : (N : Int) ≤ 9223372036854775807 := by omega
  have ht : IntKind.i64.wrap (2 * (N : Int)) = (M : Int) := by rw [dblI (by omega), hM]
  have ht2 : wrap64 (2 * (N : Int)) = (M : Int) := by rw [dbl (by omega), hM]
  clear hl hlu hsm hsu hS hO HN hM
  go_enter Tryz.func6, Tryz.ntmps6
  go_wp2_with (first
    | (go_at_call 7; with_reducible refine AnsM.use alive10 fun w1 hb1 => ?_; have s0 := keep_cell hb1 hVs t0; have s1 := keep_cell hb1 hVs t1; have s2 := keep_cell hb1 hVs t2; have s3 := keep_cell hb1 hVs t3; have hW1 := bb hWV hb1)
    | (go_at_call 8; with_reducible refine Made.use HM hW1 fun fb w2 hF hb2 => ?_; have hW2 := bb hW1 hb2; have HD2 := HD w2 fb hF; have HT2 := HT w2 fb hF)
    | (go_at_call 17; first | (with_reducible refine AnsW.use HD2 _ fun n3 => ?_) | (with_reducible refine AnsW.use0 HD2 fun n3 => ?_))
    | (go_at_call 11; with_reducible refine OwnT.useG HT2 HHL.out HM1.out (by first | exact below_drewN _ _ | exact bb (below_drewN _ _) (below_drewN _ _) | exact Below.refl _ _) fun g1 C1 w3 hO3 hb3 => ?_; have hB3 := bb (by first | exact below_drewN _ _ | exact bb (below_drewN _ _) (below_drewN _ _) | exact Below.refl _ _) hb3; have hF3 := FieldAt.below hF hB3; have HU3 := HU w3 fb hF3)
    | (go_at_call 11; with_reducible refine OwnT.useG HU3 HLU.out HH1.out.1 (Below.refl _ _) fun g2 C2 w4 hO4 hb4 => ?_))
  have HU1 : Hid (UAt w4 (some ⟨g1, 0, none⟩) C1 ts) := (hO3.words HSM.out).below hb4
  have HU2 : Hid (UAt w4 (some ⟨g2, 0, none⟩) C2 us) := hO4.words HSU.out
  have HB5 : Hid (Below w.heap.size w w4) := bb hBV (bb hb1 (bb hb2 (bb hB3 hb4)))
  clear hO3 hO4 hb4 hb3 hB3 hb2 hb1 HT2 HD2 HU3 hF hF3 ht ht2 h2 h1
  go_loopw [72] (fun v wr => ∃ k j : Nat, v = .int .i64 (k : Int) ∧ k ≤ N ∧ wr = w4.drewN j) (fun v _ => N - (intOf v).toNat)
  case atStart => exact ⟨0, 0, rfl, by omega, rfl⟩
  case round =>
    obtain ⟨k, j, rfl, hk, rfl⟩ := hrel
    by_cases hlt : k < N
    · obtain ⟨v, hv⟩ : ∃ v, us[k]? = some v := ⟨_, List.getElem?_eq_getElem (by rw [HLU.out]; exact hlt)⟩
      obtain ⟨y, hy⟩ : ∃ y, ts[k]? = some y := ⟨_, List.getElem?_eq_getElem (by rw [HHL.out]; have := HM2.out; omega)⟩
      have h2k : ts[2 * k]? = some v := (HS'.out k hlt).trans hv
      have hkN := HO'.out k y hlt hy
      have c1 := HU1.out.at0 h2k
      have c2 := HU2.out.at0 hv
      have c3 := HU1.out.at0 hkN
      have c4 := HU1.out.at0 hy
      have HNy := HN'.out y (List.mem_of_getElem? hy)
      have h150 := HH1.out.2
      have r1 := dbl (k := k) (by omega)
      have r1' := dblI (k := k) (by omega)
      have r2 := addW (k := k) (n := N) (by omega) (by omega)
      have r2' := addI (k := k) (n := N) (by omega) (by omega)
      obtain ⟨m1, hm1⟩ : ∃ m1, 2 * k = m1 := ⟨_, rfl⟩
      obtain ⟨m2, hm2⟩ : ∃ m2, k + N = m2 := ⟨_, rfl⟩
      have q1 : (m1 : Int) < (M : Int) := ltI (by have := HM2.out; omega)
      have q2 : (m2 : Int) < (M : Int) := ltI (by have := HM2.out; omega)
      have q3 : (k : Int) < (M : Int) := ltI (by have := HM2.out; omega)
      have q4 : (k : Int) < (N : Int) := ltI hlt
      rw [hm1] at c1 r1 r1'
      rw [hm2] at c3 r2 r2'
      obtain ⟨t, ht⟩ : ∃ t, u y = t := ⟨_, rfl⟩
      rw [ht] at c3 HNy
      have e1 : ((v : Int) != (v : Int)) = false := by simp
      have e2 : ((t : Int) != (t : Int)) = false := by simp
      clear hy hv hm1 hm2 ht h2k hkN h150
      go_wp2
      go_quiet ((go_at_call 19; first | (with_reducible exact Ans.quiet HNy) | (with_reducible exact Ans.quiet0 HNy)))
      go_wp2
      clear r1 r1' r2 r2' q1 q2 q3 q4
      go_roundw
      case rel => exact ⟨k + 1, j + nq, by go_num, by omega, by first | rfl | (rw [World.drewN_drewN]) | (rw [Nat.add_assoc])⟩
      case measure => simp [intOf]; omega
    · obtain rfl : k = N := by omega
      go_wp2
      go_ret
      exact ⟨rfl, bb HB5.out (below_drewN _ _)⟩
theorem halves_any (W : World) (kind z : Int) (hz : z < 9223372036854775808) (q : Nat) (hq : q < 18446744073709551616) (A : Option Addr) (C : Nat) (es : List En) (hE : EntsAt W A C es) (hfs : ∀ x ∈ es, x.fs.length * 16 ≤ 140737488355328) (n : Int) (hn : n < 9223372036854775808) :
    AnsB W 6 #[srcV kind z (q : Int) A es.length C, .int .i64 n] (.bool true) := by
  rcases made_any W kind z hz q hq A C es hE hfs with HM | ⟨x, hF, HM⟩
  · exact hal_none W kind z q A _ C n HM
  · obtain ⟨h3, hodd, hlt⟩ := hF.num
    have hg := hF.gl
    have pz : ((x.p : Int) == 0) = false := by simp; omega
    by_cases hn1 : n < 1
    · exact hal_less W kind z q A _ C n hn1 x.p x.g x (by omega) (by omega) pz HM
    · by_cases hn2 : 150 < n
      · exact hal_more W kind z q A _ C n (by omega) hn2 x.p x.g x (by omega) (by omega) pz HM
      · obtain ⟨N, rfl⟩ := Int.eq_ofNat_of_zero_le (show 0 ≤ n by omega)
        have d1 := dblI (k := N) (by omega)
        have d2 := dbl (k := N) (by omega)
        have d3 : (2 * N : Nat) ≤ 300 := by omega
        by_cases hd : (x.p - 1) % (2 * N) = 0
        · have hd1 := half_divides (by omega) hd
          refine hal_yes W kind z q A _ C N (2 * N) (pws (rootN x.p x.g (2 * N)) x.p (2 * N)) (pws (rootN x.p x.g N) x.p N) (fun y => negN y x.p) (by omega) (by omega) rfl (pws_len _ _ _) (pws_len _ _ _)
            (fun y hy => by have := pws_lt (show 0 < x.p by omega) y hy; omega) (fun y hy => by have := pws_lt (show 0 < x.p by omega) y hy; omega)
            (fun k hk => by rw [pws_get (by omega), pws_get hk, half_second (by omega) hd]) (fun k y hk hy => ?_) x.p x.g x (by omega) (by omega) pz HM
            (fun w b F => (fDiv_any F _ (by omega)).to (by rw [dvB_nat (by omega) hd])) (fun w b F => table_yes w b x F hF (2 * N) (by omega) (by omega) hd false) (fun w b F => table_yes w b x F hF N (by omega) (by omega) hd1 false)
            (fun y hy => rneg_any y x.p (by have := pws_lt (show 0 < x.p by omega) y hy; omega) (by omega) (by omega))
          rw [pws_get (by omega)] at hy
          cases hy
          rw [pws_get (by omega), half_neg hF (by omega) hd]
        · exact hal_not W kind z q A _ C N ((2 * N : Nat) : Int) (by omega) (by omega) d1 d2 x.p x.g x (by omega) (by omega) pz HM
            (fun w b F => (fDiv_any F _ (by omega)).to (by unfold dvB; rw [Int.toNat_natCast, decide_eq_false hd, Bool.and_false]))
end Go.Proofs.YtlmhhimcihobiaaGreat

/-
  The statement TwiddleCertified: true, of all sources, lengths, places and numbers.
-/
import Derived.Test.YtlmhhimcihobiaaGreatTwA
namespace Go.Proofs.YtlmhhimcihobiaaGreat
set_option linter.unusedVariables false
open Go.RowKit

theorem subW {k n : Nat} (h : k ≤ n) (h2 : n ≤ 8192) : wrap64 ((n : Int) - (k : Int)) = ((n - k : Nat) : Int) := by unfold wrap64; omega
theorem subI {k n : Nat} (h : k ≤ n) (h2 : n ≤ 8192) : IntKind.i64.wrap ((n : Int) - (k : Int)) = ((n - k : Nat) : Int) := by rw [IntKind.wrap_i64]; omega
theorem wrapU (z : Int) : ∃ a : Nat, a < 18446744073709551616 ∧ IntKind.u64.wrap z = (a : Int) := by
  rw [IntKind.wrap_u64]
  exact ⟨(z % 18446744073709551616).toNat, by omega, by omega⟩
set_option maxRecDepth 100000 in
set_option maxHeartbeats 2000000 in
theorem cer_none (W : World) (kind z q : Int) (A : Option Addr) (L C : Nat) (n : Int) (at0 : Int) (other : Nat) (HM : AnsB W 8 #[srcV kind z q A L C] noV) : AnsB W 5 #[srcV kind z q A L C, .int .i64 n, .int .i64 at0, .int .u64 (other : Int)] (.bool true) := by
  intro w hw
  obtain ⟨t0, t1, t2, t3⟩ := four_cells w (.int .i64 kind) (.int .i64 z) (.int .u64 q) (.slice A L C) 25
  obtain ⟨V, hV⟩ : ∃ V, w.alloc (.cells #[.int .i64 kind, .int .i64 z, .int .u64 q, .slice A L C] 25) = V := ⟨_, rfl⟩
  have hBV : Below w.heap.size w V := hV ▸ below_alloc _ _
  obtain ⟨bo, hbo⟩ : ∃ bo, w.heap.size = bo := ⟨_, rfl⟩
  have hVs : bo < V.heap.size := by rw [← hV, ← hbo]; simp
  rw [hV, hbo] at t0 t1 t2 t3
  have hWV := bb hw hBV
  go_enter Tryz.func5, Tryz.ntmps5
  go_wp2_with (first
    | (go_at_call 7; with_reducible refine AnsM.use alive10 fun w1 hb1 => ?_; have s0 := keep_cell hb1 hVs t0; have s1 := keep_cell hb1 hVs t1; have s2 := keep_cell hb1 hVs t2; have s3 := keep_cell hb1 hVs t3; have hW1 := bb hWV hb1)
    | (go_at_call 8; with_reducible refine AnsB.use HM hW1 fun w2 hb2 => ?_; have hW2 := bb hW1 hb2))
  go_ret
  exact ⟨rfl, bb hBV (bb hb1 hb2)⟩
set_option maxRecDepth 100000 in
set_option maxHeartbeats 2000000 in
theorem cer_less (W : World) (kind z q : Int) (A : Option Addr) (L C : Nat) (n : Int) (at0 : Int) (other : Nat) (h : n < 1) (p g : Int) (x : En) (p0 : 2 < p) (p1 : p < 9223372036854775808) (pz : (p == 0) = false) (HM : Made W (srcV kind z q A L C) p g x) : AnsB W 5 #[srcV kind z q A L C, .int .i64 n, .int .i64 at0, .int .u64 (other : Int)] (.bool true) := by
  intro w hw
  obtain ⟨t0, t1, t2, t3⟩ := four_cells w (.int .i64 kind) (.int .i64 z) (.int .u64 q) (.slice A L C) 25
  obtain ⟨V, hV⟩ : ∃ V, w.alloc (.cells #[.int .i64 kind, .int .i64 z, .int .u64 q, .slice A L C] 25) = V := ⟨_, rfl⟩
  have hBV : Below w.heap.size w V := hV ▸ below_alloc _ _
  obtain ⟨bo, hbo⟩ : ∃ bo, w.heap.size = bo := ⟨_, rfl⟩
  have hVs : bo < V.heap.size := by rw [← hV, ← hbo]; simp
  rw [hV, hbo] at t0 t1 t2 t3
  have hWV := bb hw hBV
  go_enter Tryz.func5, Tryz.ntmps5
  go_wp2_with (first
    | (go_at_call 7; with_reducible refine AnsM.use alive10 fun w1 hb1 => ?_; have s0 := keep_cell hb1 hVs t0; have s1 := keep_cell hb1 hVs t1; have s2 := keep_cell hb1 hVs t2; have s3 := keep_cell hb1 hVs t3; have hW1 := bb hWV hb1)
    | (go_at_call 8; with_reducible refine Made.use HM hW1 fun fb w2 hF hb2 => ?_; have hW2 := bb hW1 hb2))
  go_ret
  exact ⟨rfl, bb hBV (bb hb1 hb2)⟩
set_option maxRecDepth 100000 in
set_option maxHeartbeats 2000000 in
theorem cer_more (W : World) (kind z q : Int) (A : Option Addr) (L C : Nat) (n : Int) (at0 : Int) (other : Nat) (h : 1 ≤ n) (h2 : 300 < n) (p g : Int) (x : En) (p0 : 2 < p) (p1 : p < 9223372036854775808) (pz : (p == 0) = false) (HM : Made W (srcV kind z q A L C) p g x) : AnsB W 5 #[srcV kind z q A L C, .int .i64 n, .int .i64 at0, .int .u64 (other : Int)] (.bool true) := by
  intro w hw
  obtain ⟨t0, t1, t2, t3⟩ := four_cells w (.int .i64 kind) (.int .i64 z) (.int .u64 q) (.slice A L C) 25
  obtain ⟨V, hV⟩ : ∃ V, w.alloc (.cells #[.int .i64 kind, .int .i64 z, .int .u64 q, .slice A L C] 25) = V := ⟨_, rfl⟩
  have hBV : Below w.heap.size w V := hV ▸ below_alloc _ _
  obtain ⟨bo, hbo⟩ : ∃ bo, w.heap.size = bo := ⟨_, rfl⟩
  have hVs : bo < V.heap.size := by rw [← hV, ← hbo]; simp
  rw [hV, hbo] at t0 t1 t2 t3
  have hWV := bb hw hBV
  go_enter Tryz.func5, Tryz.ntmps5
  go_wp2_with (first
    | (go_at_call 7; with_reducible refine AnsM.use alive10 fun w1 hb1 => ?_; have s0 := keep_cell hb1 hVs t0; have s1 := keep_cell hb1 hVs t1; have s2 := keep_cell hb1 hVs t2; have s3 := keep_cell hb1 hVs t3; have hW1 := bb hWV hb1)
    | (go_at_call 8; with_reducible refine Made.use HM hW1 fun fb w2 hF hb2 => ?_; have hW2 := bb hW1 hb2))
  go_ret
  exact ⟨rfl, bb hBV (bb hb1 hb2)⟩
set_option maxRecDepth 100000 in
set_option maxHeartbeats 2000000 in
theorem cer_not (W : World) (kind z q : Int) (A : Option Addr) (L C : Nat) (n : Int) (at0 : Int) (other : Nat) (h : 1 ≤ n) (h2 : n ≤ 300) (p g : Int) (x : En) (p0 : 2 < p) (p1 : p < 9223372036854775808) (pz : (p == 0) = false) (HM : Made W (srcV kind z q A L C) p g x)
    (HD : ∀ w b, FieldAt w b x → AnsW w 17 #[pt b, .int .i64 n] (.bool false)) : AnsB W 5 #[srcV kind z q A L C, .int .i64 n, .int .i64 at0, .int .u64 (other : Int)] (.bool true) := by
  intro w hw
  obtain ⟨t0, t1, t2, t3⟩ := four_cells w (.int .i64 kind) (.int .i64 z) (.int .u64 q) (.slice A L C) 25
  obtain ⟨V, hV⟩ : ∃ V, w.alloc (.cells #[.int .i64 kind, .int .i64 z, .int .u64 q, .slice A L C] 25) = V := ⟨_, rfl⟩
  have hBV : Below w.heap.size w V := hV ▸ below_alloc _ _
  obtain ⟨bo, hbo⟩ : ∃ bo, w.heap.size = bo := ⟨_, rfl⟩
  have hVs : bo < V.heap.size := by rw [← hV, ← hbo]; simp
  rw [hV, hbo] at t0 t1 t2 t3
  have hWV := bb hw hBV
  go_enter Tryz.func5, Tryz.ntmps5
  go_wp2_with (first
    | (go_at_call 7; with_reducible refine AnsM.use alive10 fun w1 hb1 => ?_; have s0 := keep_cell hb1 hVs t0; have s1 := keep_cell hb1 hVs t1; have s2 := keep_cell hb1 hVs t2; have s3 := keep_cell hb1 hVs t3; have hW1 := bb hWV hb1)
    | (go_at_call 8; with_reducible refine Made.use HM hW1 fun fb w2 hF hb2 => ?_; have hW2 := bb hW1 hb2; have HD2 := HD w2 fb hF)
    | (go_at_call 17; first | (with_reducible refine AnsW.use HD2 _ fun n3 => ?_) | (with_reducible refine AnsW.use0 HD2 fun n3 => ?_)))
  go_ret
  exact ⟨rfl, bb hBV (bb hb1 (bb hb2 (below_drewN _ _)))⟩
set_option maxRecDepth 100000 in
set_option maxHeartbeats 4000000 in
theorem cer_yes (W : World) (kind z q : Int) (A : Option Addr) (L C : Nat) (N : Nat) (at0 : Int) (other : Nat) (ha : other < 18446744073709551616) (a kk x0 : Nat) (ts us : List Nat) (R : Bool) (h1 : 1 ≤ N) (h2 : (N : Int) ≤ 300) (hl : ts.length = N) (hlu : us.length = N) (hsm : ∀ y ∈ ts, y < 18446744073709551616) (hsu : ∀ y ∈ us, y < 18446744073709551616)
    (hS : ∀ k, k < N → us[k]? = ts[(N - k) % N]?) (hal : a < 18446744073709551616) (hwa : IntKind.u64.wrap at0 = (a : Int)) (hkk : a % N = kk) (hx0 : ts[kk]? = some x0) (p g : Int) (x : En) (p0 : 2 < p) (p1 : p < 9223372036854775808) (pz : (p == 0) = false) (HM : Made W (srcV kind z q A L C) p g x)
    (HD : ∀ w b, FieldAt w b x → AnsW w 17 #[pt b, .int .i64 (N : Int)] (.bool true))
    (HT : ∀ w b, FieldAt w b x → OwnT w 11 #[pt b, .int .i64 (N : Int), .bool false] ts)
    (HU : ∀ w b, FieldAt w b x → OwnT w 11 #[pt b, .int .i64 (N : Int), .bool true] us)
    (HV : ∀ w b A C, FieldAt w b x → UAt w A C ts → AnsB w 15 #[pt b, .slice A N C] (.bool true))
    (HW : ∀ w b A C, FieldAt w b x → UAt w A C us → AnsB w 15 #[pt b, .slice A N C] (.bool true))
    (HX : ∀ w b A C, FieldAt w b x → UAt w A C (ts.set kk other) → AnsB w 15 #[pt b, .slice A N C] (.bool R))
    (HR : ∀ w A C, UAt w A C (ts.set kk other) → AnsW w 16 #[.int .u64 p, .slice A N C] (.bool R))
    (HMu : ∀ (w : World) (b k y v : Nat), FieldAt w b x → ts[k]? = some y → us[k]? = some v → AnsW w 18 #[pt b, .int .u64 (y : Int), .int .u64 (v : Int)] (.int .u64 1)) : AnsB W 5 #[srcV kind z q A L C, .int .i64 (N : Int), .int .i64 at0, .int .u64 (other : Int)] (.bool true) := by
  intro w hw
  obtain ⟨t0, t1, t2, t3⟩ := four_cells w (.int .i64 kind) (.int .i64 z) (.int .u64 q) (.slice A L C) 25
  obtain ⟨V, hV⟩ : ∃ V, w.alloc (.cells #[.int .i64 kind, .int .i64 z, .int .u64 q, .slice A L C] 25) = V := ⟨_, rfl⟩
  have hBV : Below w.heap.size w V := hV ▸ below_alloc _ _
  obtain ⟨bo, hbo⟩ : ∃ bo, w.heap.size = bo := ⟨_, rfl⟩
  have hVs : bo < V.heap.size := by rw [← hV, ← hbo]; simp
  rw [hV, hbo] at t0 t1 t2 t3
  have hWV := bb hw hBV
  have hkl : kk < N := hkk ▸ Nat.mod_lt _ h1
  have HSM : Hid (∀ y ∈ ts, y < 18446744073709551616) := hsm
  have HSU : Hid (∀ y ∈ us, y < 18446744073709551616) := hsu
  have HSX : Hid (∀ y ∈ ts.set kk other, y < 18446744073709551616) := fun y hy => by
    rcases List.mem_or_eq_of_mem_set hy with h | h
    · exact hsm y h
    · rw [h]; exact ha
  have HHL : Hid (ts.length = N) := hl
  have HLU : Hid (us.length = N) := hlu
  have HH1 : Hid (1 ≤ N ∧ N ≤ 300) := ⟨h1, by omega⟩
  have HS' : Hid (∀ k, k < N → us[k]? = ts[(N - k) % N]?) := hS
  have HKL : Hid (kk < N) := hkl
  have HX0 : Hid (ts[kk]? = some x0) := hx0
  have HWA : Hid (IntKind.u64.wrap at0 = (a : Int)) := hwa
  have HKK : Hid ((a : Int) % (N : Int) = (kk : Int)) := by unfold Hid; rw [← Int.natCast_emod, hkk]
  have HKT : Hid (Int.tmod (a : Int) (N : Int) = (kk : Int)) := by unfold Hid; rw [modI, hkk]
  have HMu' : Hid (∀ (w : World) (b k y v : Nat), FieldAt w b x → ts[k]? = some y → us[k]? = some v → AnsW w 18 #[pt b, .int .u64 (y : Int), .int .u64 (v : Int)] (.int .u64 1)) := HMu
  have hlenN : (N : Int) ≤ 9223372036854775807 := by omega
  have hN0 : ¬ (N : Int) = 0 := by omega
  clear hl hlu hsm hsu hS hkk hkl hx0 hwa HMu
  go_enter Tryz.func5, Tryz.ntmps5
  go_wp2_with (first
    | (go_at_call 7; with_reducible refine AnsM.use alive10 fun w1 hb1 => ?_; have s0 := keep_cell hb1 hVs t0; have s1 := keep_cell hb1 hVs t1; have s2 := keep_cell hb1 hVs t2; have s3 := keep_cell hb1 hVs t3; have hW1 := bb hWV hb1)
    | (go_at_call 8; with_reducible refine Made.use HM hW1 fun fb w2 hF hb2 => ?_; have hW2 := bb hW1 hb2; have HD2 := HD w2 fb hF; have HT2 := HT w2 fb hF)
    | (go_at_call 17; first | (with_reducible refine AnsW.use HD2 _ fun n3 => ?_) | (with_reducible refine AnsW.use0 HD2 fun n3 => ?_))
    | (go_at_call 11; with_reducible refine OwnT.useG HT2 HHL.out HH1.out.1 (by first | exact below_drewN _ _ | exact bb (below_drewN _ _) (below_drewN _ _) | exact Below.refl _ _) fun g1 C1 w3 hO3 hb3 => ?_; have hB3 := bb (by first | exact below_drewN _ _ | exact bb (below_drewN _ _) (below_drewN _ _) | exact Below.refl _ _) hb3; have hF3 := FieldAt.below hF hB3; have HU3 := HU w3 fb hF3)
    | (go_at_call 11; with_reducible refine OwnT.useG HU3 HLU.out HH1.out.1 (Below.refl _ _) fun g2 C2 w4 hO4 hb4 => ?_; have hF4 := FieldAt.below hF3 hb4; have HV4 := HV w4 fb _ C1 hF4 ((hO3.words HSM.out).below hb4); have HW4 := HW w4 fb _ C2 hF4 (hO4.words HSU.out))
    | (go_at_call 15; with_reducible refine AnsB.use HV4 (Below.refl _ _) fun w5 hb5 => ?_)
    | (go_at_call 15; with_reducible refine AnsB.use HW4 hb5 fun w6 hb6 => ?_))
  have hb46 := bb hb5 hb6
  have hF6 := FieldAt.below hF4 hb46
  have HU1 : Hid (UAt w6 (some ⟨g1, 0, none⟩) C1 ts) := ((hO3.words HSM.out).below hb4).below hb46
  have HU2 : Hid (UAt w6 (some ⟨g2, 0, none⟩) C2 us) := (hO4.words HSU.out).below hb46
  have HO6 : Hid (OwnU w6 w2.heap.size (some ⟨g1, 0, none⟩) C1 ts) := (OwnU.base hO3 (by first | exact Nat.le_refl _ | exact (below_drewN w2 _).size)).below (bb hb4 hb46)
  have HB26 : Hid (Below w2.heap.size w2 w6) := bb hB3 (bb hb4 hb46)
  have HB02 : Hid (Below w.heap.size w w2) := bb hBV (bb hb1 hb2)
  have HF2 : Hid (FieldAt w2 fb x) := hF
  have HF6 : Hid (FieldAt w6 fb x) := hF6
  clear hO3 hO4 hb4 hb3 hB3 hb2 hb1 HT2 HD2 HU3 hF hF3 hF4 hF6 HV4 HW4 hb46 hb5 hb6 h2 h1
  go_loopw [74] (fun v wr => ∃ k j : Nat, v = .int .i64 (k : Int) ∧ k ≤ N ∧ wr = w6.drewN j) (fun v _ => N - (intOf v).toNat)
  case atStart => exact ⟨0, 0, rfl, by omega, rfl⟩
  case round =>
    obtain ⟨k, j, rfl, hk, rfl⟩ := hrel
    by_cases hlt : k < N
    · obtain ⟨v, hv⟩ : ∃ v, us[k]? = some v := ⟨_, List.getElem?_eq_getElem (by rw [HLU.out]; exact hlt)⟩
      obtain ⟨y, hy⟩ : ∃ y, ts[k]? = some y := ⟨_, List.getElem?_eq_getElem (by rw [HHL.out]; exact hlt)⟩
      have hnk : ts[(N - k) % N]? = some v := (HS'.out k hlt).symm.trans hv
      have c1 := HU1.out.at0 hy
      have c2 := HU2.out.at0 hv
      have c3 := HU1.out.at0 hnk
      have HMy := HMu'.out w6 fb k y v HF6.out hy hv
      have h300 := HH1.out
      have r1 := subW (k := k) (n := N) (by omega) (by omega)
      have r1' := subI (k := k) (n := N) (by omega) (by omega)
      have hml : (N - k) % N < N := Nat.mod_lt _ (by omega)
      obtain ⟨m1, hm1⟩ : ∃ m1, N - k = m1 := ⟨_, rfl⟩
      rw [hm1] at c3 r1 r1' hml
      obtain ⟨m2, hm2⟩ : ∃ m2, m1 % N = m2 := ⟨_, rfl⟩
      rw [hm2] at c3 hml
      have q1 : (m2 : Int) < (N : Int) := ltI hml
      have q3 : (k : Int) < (N : Int) := ltI hlt
      have q5 : wrap64 (m2 : Int) = (m2 : Int) := wrL hml (Nat.le_trans h300.2 (by decide))
      have q6 : IntKind.i64.wrap (m2 : Int) = (m2 : Int) := wrLI hml (Nat.le_trans h300.2 (by decide))
      have e2 : ((v : Int) != (v : Int)) = false := by simp
      have q2 : Int.tmod (m1 : Int) (N : Int) = (m2 : Int) := by rw [modI, hm2]
      have q4 : (m1 : Int) % (N : Int) = (m2 : Int) := by rw [← Int.natCast_emod, hm2]
      clear hy hv hm1 hm2 hnk h300 hml
      go_wp2
      go_quiet ((go_at_call 18; first | (with_reducible exact AnsW.quiet HMy) | (with_reducible exact AnsW.quiet0 HMy)))
      go_wp2
      clear r1 r1' q1 q2 q3 q4 q5 q6
      go_roundw
      case rel => exact ⟨k + 1, j + nq, by go_num, by omega, by first | rfl | (rw [World.drewN_drewN]) | (rw [Nat.add_assoc])⟩
      case measure => simp [intOf]; omega
    · obtain rfl : k = N := by omega
      have h300 := HH1.out
      have ck := HU1.out.at0 HX0.out
      have fz : w6.frozen? ⟨g1, kk, none⟩ = false := World.ownsRow.frozenAt HO6.out kk
      have qk : (kk : Int) < (k : Int) := ltI HKL.out
      have qn : IntKind.u64.wrap (k : Int) = (k : Int) := wrap_small _ (by omega) (by omega)
      have qw : IntKind.i64.wrap (kk : Int) = (kk : Int) := wrLI HKL.out (Nat.le_trans h300.2 (by decide))
      have qa : IntKind.u64.wrap at0 = (a : Int) := HWA.out
      have qm : (a : Int) % (k : Int) = (kk : Int) := HKK.out
      by_cases he : x0 = other
      · obtain ⟨t5, t6⟩ : ((x0 : Int) == (other : Int)) = true ∧ (x0 : Int) = (other : Int) := by subst he; exact ⟨by simp, rfl⟩
        clear h300 he
        go_wp2
        go_ret
        exact ⟨rfl, bb HB02.out (bb HB26.out (below_drewN _ _))⟩
      · obtain ⟨t5, t6⟩ : ((x0 : Int) == (other : Int)) = false ∧ ¬ (x0 : Int) = (other : Int) := by
          have : ¬ (x0 : Int) = (other : Int) := by omega
          exact ⟨by simp; omega, this⟩
        have hset : OwnU ((w6.drewN j).setCell ⟨g1, kk, none⟩ (.int .u64 (other : Int))) w2.heap.size (some ⟨g1, 0, none⟩) C1 (ts.set kk other) := (HO6.out.below (below_drewN w6 j)).set kk other
        obtain ⟨_, eg, hg1, _⟩ := HO6.out.get HX0.out
        cases eg
        have hBs : Below w2.heap.size w2 ((w6.drewN j).setCell ⟨g1, kk, none⟩ (.int .u64 (other : Int))) := (bb HB26.out (below_drewN w6 j)).setCell (p := ⟨g1, kk, none⟩) hg1 _
        obtain ⟨Z, hZ⟩ : ∃ Z, (w6.drewN j).setCell ⟨g1, kk, none⟩ (.int .u64 (other : Int)) = Z := ⟨_, rfl⟩
        rw [hZ] at hset hBs
        have hUZ := hset.words HSX.out
        have HXZ := HX Z fb _ C1 (HF2.out.below hBs) hUZ
        have HRZ := fun w7 (hb : Below Z.heap.size Z w7) => HR w7 _ C1 (hUZ.below hb)
        have HBs : Hid (Below w2.heap.size w2 Z) := hBs
        have hRR : (R == R) = true := by cases R <;> rfl
        clear h300 he hset hBs hg1 hUZ
        go_wp2_with (first
          | (go_at_call 15; with_reducible refine AnsB.use HXZ (Below.refl _ _) fun w7 hb7 => ?_; have HR7 := HRZ w7 hb7)
          | (go_at_call 16; with_reducible refine AnsW.use0 HR7 fun n8 => ?_))
        go_ret
        exact ⟨ret_b (by cases R <;> rfl), bb HB02.out (bb HBs.out (bb hb7 (below_drewN _ _)))⟩
theorem certified_any (W : World) (kind z : Int) (hz : z < 9223372036854775808) (q : Nat) (hq : q < 18446744073709551616) (A : Option Addr) (C : Nat) (es : List En) (hE : EntsAt W A C es) (hfs : ∀ x ∈ es, x.fs.length * 16 ≤ 140737488355328) (n : Int) (hn : n < 9223372036854775808) (at0 : Int) (hat : at0 < 9223372036854775808) (other : Nat) (ha : other < 18446744073709551616) :
    AnsB W 5 #[srcV kind z (q : Int) A es.length C, .int .i64 n, .int .i64 at0, .int .u64 (other : Int)] (.bool true) := by
  rcases made_any W kind z hz q hq A C es hE hfs with HM | ⟨x, hF, HM⟩
  · exact cer_none W kind z q A _ C n at0 other HM
  · obtain ⟨h3, hodd, hlt⟩ := hF.num
    have hg := hF.gl
    have hp := hF.prm
    have pz : ((x.p : Int) == 0) = false := by simp; omega
    by_cases hn1 : n < 1
    · exact cer_less W kind z q A _ C n at0 other hn1 x.p x.g x (by omega) (by omega) pz HM
    · by_cases hn2 : 300 < n
      · exact cer_more W kind z q A _ C n at0 other (by omega) hn2 x.p x.g x (by omega) (by omega) pz HM
      · obtain ⟨N, rfl⟩ := Int.eq_ofNat_of_zero_le (show 0 ≤ n by omega)
        by_cases hd : (x.p - 1) % N = 0
        · obtain ⟨a, hal, hwa⟩ := wrapU at0
          have hN1 : 1 ≤ N := by omega
          have hkl := Nat.mod_lt a (show 0 < N by omega)
          have ho := twR_ord hF hN1 hd
          have hv := twR_inv hF hN1 hd
          obtain ⟨R, hR⟩ : ∃ R : Bool, R = true ↔ 1 ≤ ((pws (twR x N false) x.p N).set (a % N) other).length ∧ DocR x.p ((pws (twR x N false) x.p N).set (a % N) other) := by
            rcases Classical.em (1 ≤ ((pws (twR x N false) x.p N).set (a % N) other).length ∧ DocR x.p ((pws (twR x N false) x.p N).set (a % N) other)) with k | k
            · exact ⟨true, ⟨fun _ => k, fun _ => rfl⟩⟩
            · exact ⟨false, ⟨fun h => (by cases h), fun h => absurd h k⟩⟩
          have hls : ((pws (twR x N false) x.p N).set (a % N) other).length = N := by rw [List.length_set, pws_len]
          have sm : ∀ i, ∀ y ∈ pws (twR x N i) x.p N, y < 18446744073709551616 := fun i y hy => by have := pws_lt (show 0 < x.p by omega) y hy; omega
          have hyes : ∀ i, true = true ↔ 1 ≤ (pws (twR x N i) x.p N).length ∧ DocR x.p (pws (twR x N i) x.p N) := fun i => ⟨fun _ => ⟨by rw [pws_len]; exact hN1, pws_docR (by omega) hN1 (ho i)⟩, fun _ => rfl⟩
          refine cer_yes W kind z q A _ C N at0 other ha a (a % N) _ (pws (twR x N false) x.p N) (pws (twR x N true) x.p N) R hN1 (by omega) (pws_len _ _ _) (pws_len _ _ _) (sm false) (sm true)
            (fun k hk => by rw [pws_get hk, pws_get (Nat.mod_lt _ (by omega)), inv_pow hp (ho false) hN1 hv hk]) hal hwa rfl (pws_get hkl) x.p x.g x (by omega) (by omega) pz HM
            (fun w b F => (fDiv_any F _ (by omega)).to (by rw [dvB_nat hN1 hd])) (fun w b F => table_yes w b x F hF N hN1 (by omega) hd false) (fun w b F => table_yes w b x F hF N hN1 (by omega) hd true)
            (fun w b B D F hU => ?_) (fun w b B D F hU => ?_) (fun w b B D F hU => ?_) (fun w B D hU => ?_) (fun w b k y v F hy hv' => ?_)
          · have := verify_any w b x F hF B D _ hU (by rw [pws_len]; omega) true (hyes false)
            rw [pws_len] at this; exact this
          · have := verify_any w b x F hF B D _ hU (by rw [pws_len]; omega) true (hyes true)
            rw [pws_len] at this; exact this
          · have := verify_any w b x F hF B D _ hU (by rw [hls]; omega) R hR
            rw [hls] at this; exact this
          · have := dRight_any w x.p (by omega) (by omega) B D _ hU (by rw [hls]; omega) R hR
            rw [hls] at this; exact this
          · have hk : k < N := by
              have := (List.getElem?_eq_some_iff.1 hy).1
              rw [pws_len] at this; exact this
            rw [pws_get hk] at hy hv'
            cases hy; cases hv'
            have l1 := Nat.mod_lt (twR x N false ^ k) (show 0 < x.p by omega)
            have l2 := Nat.mod_lt (twR x N true ^ k) (show 0 < x.p by omega)
            exact ansW_int (fMul_any F _ _ (by omega) (by omega)) (by rw [both_one hp (ho false) hN1 hv]; rfl)
        · exact cer_not W kind z q A _ C N at0 other (by omega) (by omega) x.p x.g x (by omega) (by omega) pz HM
            (fun w b F => (fDiv_any F _ (by omega)).to (by unfold dvB; rw [Int.toNat_natCast, decide_eq_false hd, Bool.and_false]))
end Go.Proofs.YtlmhhimcihobiaaGreat

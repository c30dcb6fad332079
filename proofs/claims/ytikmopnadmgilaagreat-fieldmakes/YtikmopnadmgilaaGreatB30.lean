/-
  The statement FieldSums: true, of all sources and numbers.
-/
import Derived.Test.YtikmopnadmgilaaGreatB28
namespace Go.Proofs.YtikmopnadmgilaaGreat
set_option linter.unusedVariables false
open Go.RowKit

set_option maxHeartbeats 1000000 in
theorem FieldSums_none (W : World) (kind z q : Int) (A : Option Addr) (L C : Nat) (n k : Int) (HM : AnsB W 30 #[srcV kind z q A L C] noV) : AnsB W 8 #[srcV kind z q A L C, .int .i64 n, .int .i64 k] (.bool true) := by
  intro w hw
  obtain ⟨t0, t1, t2, t3⟩ := four_cells w (.int .i64 kind) (.int .i64 z) (.int .u64 q) (.slice A L C) 25
  obtain ⟨V, hV⟩ : ∃ V, w.alloc (.cells #[.int .i64 kind, .int .i64 z, .int .u64 q, .slice A L C] 25) = V := ⟨_, rfl⟩
  have hBV : Below w.heap.size w V := hV ▸ below_alloc _ _
  obtain ⟨bo, hbo⟩ : ∃ bo, w.heap.size = bo := ⟨_, rfl⟩
  have hVs : bo < V.heap.size := by rw [← hV, ← hbo]; simp
  rw [hV, hbo] at t0 t1 t2 t3
  have hWV := bb hw hBV
  go_enter Tryz.func8, Tryz.ntmps8
  go_wp2_with (first | (go_at_call 10; with_reducible refine AnsM.use alive6 fun w1 hb1 => ?_; have s0 := keep_cell hb1 hVs t0; have s1 := keep_cell hb1 hVs t1; have s2 := keep_cell hb1 hVs t2; have s3 := keep_cell hb1 hVs t3; have hW1 := bb hWV hb1) | (go_at_call 30; with_reducible refine AnsB.use HM hW1 fun w2 hb2 => ?_))
  go_ret
  exact ⟨rfl, bb hBV (bb hb1 hb2)⟩
set_option maxRecDepth 100000 in
set_option maxHeartbeats 4000000 in
theorem sums_out (W : World) (kind z q : Int) (A : Option Addr) (L C : Nat) (n k p g : Int) (x : En) (p0 : 2 < p) (p1 : p < 9223372036854775808) (pz : (p == 0) = false) (h : n < 1 ∨ (1 ≤ n ∧ 256 < n) ∨ (1 ≤ n ∧ n ≤ 256 ∧ k < 0))
    (HM : Made W (srcV kind z q A L C) p g x)
    : AnsB W 8 #[srcV kind z q A L C, .int .i64 n, .int .i64 k] (.bool true) := by
  intro w hw
  obtain ⟨t0, t1, t2, t3⟩ := four_cells w (.int .i64 kind) (.int .i64 z) (.int .u64 q) (.slice A L C) 25
  obtain ⟨V, hV⟩ : ∃ V, w.alloc (.cells #[.int .i64 kind, .int .i64 z, .int .u64 q, .slice A L C] 25) = V := ⟨_, rfl⟩
  have hBV : Below w.heap.size w V := hV ▸ below_alloc _ _
  obtain ⟨bo, hbo⟩ : ∃ bo, w.heap.size = bo := ⟨_, rfl⟩
  have hVs : bo < V.heap.size := by rw [← hV, ← hbo]; simp
  rw [hV, hbo] at t0 t1 t2 t3
  have hWV := bb hw hBV
  rcases h with h | ⟨h, h2⟩ | ⟨h, h2, h3⟩
  all_goals
    go_enter Tryz.func8, Tryz.ntmps8
    go_wp2_with (first | (go_at_call 10; with_reducible refine AnsM.use alive6 fun w1 hb1 => ?_; have s0 := keep_cell hb1 hVs t0; have s1 := keep_cell hb1 hVs t1; have s2 := keep_cell hb1 hVs t2; have s3 := keep_cell hb1 hVs t3; have hW1 := bb hWV hb1) | (go_at_call 30; with_reducible refine Made.use HM hW1 fun fb w2 hF hb2 => ?_))
    go_ret
    exact ⟨rfl, bb hBV (bb hb1 (bb hb2 (by first | exact below_drewN _ _ | exact bb (below_drewN _ _) (below_drewN _ _) | exact Below.refl _ _)))⟩
set_option maxRecDepth 100000 in
set_option maxHeartbeats 4000000 in
theorem sums_not (W : World) (kind z q : Int) (A : Option Addr) (L C : Nat) (n k p g : Int) (x : En) (p0 : 2 < p) (p1 : p < 9223372036854775808) (pz : (p == 0) = false) (n0 : 1 ≤ n) (n1 : n ≤ 256) (k0 : 0 ≤ k) (k1 : k < 9223372036854775808)
    (HM : Made W (srcV kind z q A L C) p g x)
    (H0 : ∀ (W : World) (fb : Nat), FieldAt W fb x → AnsW W 21 #[pt fb, .int .i64 n] (.bool false))
    : AnsB W 8 #[srcV kind z q A L C, .int .i64 n, .int .i64 k] (.bool true) := by
  intro w hw
  obtain ⟨t0, t1, t2, t3⟩ := four_cells w (.int .i64 kind) (.int .i64 z) (.int .u64 q) (.slice A L C) 25
  obtain ⟨V, hV⟩ : ∃ V, w.alloc (.cells #[.int .i64 kind, .int .i64 z, .int .u64 q, .slice A L C] 25) = V := ⟨_, rfl⟩
  have hBV : Below w.heap.size w V := hV ▸ below_alloc _ _
  obtain ⟨bo, hbo⟩ : ∃ bo, w.heap.size = bo := ⟨_, rfl⟩
  have hVs : bo < V.heap.size := by rw [← hV, ← hbo]; simp
  rw [hV, hbo] at t0 t1 t2 t3
  have hWV := bb hw hBV
  go_enter Tryz.func8, Tryz.ntmps8
  go_wp2_with (first | (go_at_call 10; with_reducible refine AnsM.use alive6 fun w1 hb1 => ?_; have s0 := keep_cell hb1 hVs t0; have s1 := keep_cell hb1 hVs t1; have s2 := keep_cell hb1 hVs t2; have s3 := keep_cell hb1 hVs t3; have hW1 := bb hWV hb1) | (go_at_call 30; with_reducible refine Made.use HM hW1 fun fb w2 hF hb2 => ?_) | (go_at_call 21; first | (with_reducible refine AnsW.use (H0 _ _ hF) _ fun n0 => ?_) | (with_reducible refine AnsW.use0 (H0 _ _ hF) fun n0 => ?_)))
  go_ret
  exact ⟨rfl, bb hBV (bb hb1 (bb hb2 (by first | exact below_drewN _ _ | exact bb (below_drewN _ _) (below_drewN _ _) | exact Below.refl _ _)))⟩
set_option maxRecDepth 100000 in
set_option maxHeartbeats 4000000 in
theorem sums_yes (W : World) (kind z q : Int) (A : Option Addr) (L C : Nat) (n k s : Nat) (r g : Int) (x : En) (p0 : 3 ≤ x.p) (p1 : x.p < 9223372036854775808) (n0 : 1 ≤ n) (n1 : n ≤ 256) (k1 : k < 9223372036854775808) (hs : s < x.p) (t : Bool) (ht : (k % n = 0 ∧ geo s x.p n = n % x.p) ∨ (k % n ≠ 0 ∧ geo s x.p n = 0))
    (HM : Made W (srcV kind z q A L C) (x.p : Int) g x)
    (H0 : ∀ (W : World) (fb : Nat), FieldAt W fb x → AnsW W 21 #[pt fb, .int .i64 (n : Int)] (.bool true))
    (H1 : ∀ (W : World) (fb : Nat), FieldAt W fb x → AnsW W 19 #[pt fb, .int .i64 (n : Int)] (.tuple #[.int .u64 r, .int .i64 0]))
    (H2 : ∀ (W : World) (fb : Nat), FieldAt W fb x → AnsW W 26 #[pt fb, .int .u64 r, .int .u64 (k : Int)] (.int .u64 (s : Int)))
    : AnsB W 8 #[srcV kind z q A L C, .int .i64 (n : Int), .int .i64 (k : Int)] (.bool true) := by
  intro w hw
  obtain ⟨t0, t1, t2, t3⟩ := four_cells w (.int .i64 kind) (.int .i64 z) (.int .u64 q) (.slice A L C) 25
  obtain ⟨V, hV⟩ : ∃ V, w.alloc (.cells #[.int .i64 kind, .int .i64 z, .int .u64 q, .slice A L C] 25) = V := ⟨_, rfl⟩
  have hBV : Below w.heap.size w V := hV ▸ below_alloc _ _
  obtain ⟨bo, hbo⟩ : ∃ bo, w.heap.size = bo := ⟨_, rfl⟩
  have hVs : bo < V.heap.size := by rw [← hV, ← hbo]; simp
  rw [hV, hbo] at t0 t1 t2 t3
  have hWV := bb hw hBV
  obtain ⟨p, hp⟩ : ∃ p, x.p = p := ⟨_, rfl⟩
  have HP : Hid (x.p = p) := hp
  have HT : Hid ((k % n = 0 ∧ geo s x.p n = n % x.p) ∨ (k % n ≠ 0 ∧ geo s x.p n = 0)) := ht
  have HA : ∀ (W : World) (fb : Nat), FieldAt W fb x → ∀ a c : Nat, a < 18446744073709551616 → c < 18446744073709551616 → AnsW W 22 #[pt fb, .int .u64 a, .int .u64 c] (.int .u64 (((a + c) % x.p : Nat) : Int)) := fun W fb F a c ha hc => fAdd_any F a c ha hc
  have HU : ∀ (W : World) (fb : Nat), FieldAt W fb x → ∀ a c : Nat, a < 18446744073709551616 → c < 18446744073709551616 → AnsW W 25 #[pt fb, .int .u64 a, .int .u64 c] (.int .u64 ((a * c % x.p : Nat) : Int)) := fun W fb F a c ha hc => fMul_any F a c ha hc
  rw [hp] at HM p0 p1 hs HA HU
  clear hp ht
  have pz : ((p : Int) == 0) = false := by simp; omega
  have hnz : ((n : Int) == 0) = false := by simp; omega
  go_enter Tryz.func8, Tryz.ntmps8
  go_wp2_with (first | (go_at_call 10; with_reducible refine AnsM.use alive6 fun w1 hb1 => ?_; have s0 := keep_cell hb1 hVs t0; have s1 := keep_cell hb1 hVs t1; have s2 := keep_cell hb1 hVs t2; have s3 := keep_cell hb1 hVs t3; have hW1 := bb hWV hb1) | (go_at_call 30; with_reducible refine Made.use HM hW1 fun fb w2 hF hb2 => ?_) | (go_at_call 21; first | (with_reducible refine AnsW.use (H0 _ _ hF) _ fun n0 => ?_) | (with_reducible refine AnsW.use0 (H0 _ _ hF) fun n0 => ?_)) | (go_at_call 19; first | (with_reducible refine AnsW.use (H1 _ _ hF) _ fun n1 => ?_) | (with_reducible refine AnsW.use0 (H1 _ _ hF) fun n1 => ?_)) | (go_at_call 26; first | (with_reducible refine AnsW.use (H2 _ _ hF) _ fun n2 => ?_) | (with_reducible refine AnsW.use0 (H2 _ _ hF) fun n2 => ?_)))
  go_loopw [13, 14, 15] (fun a b v wr => ∃ j y c d : Nat, a = .int .u64 (y : Int) ∧ b = .int .u64 (c : Int) ∧ v = .int .i64 (j : Int) ∧ j ≤ n ∧ Hid (y = geo s p j ∧ c = s ^ j % p) ∧ y < p ∧ c < p ∧ wr = w2.drewN d) (fun _ _ v _ => n - (intOf v).toNat)
  case atStart => exact ⟨0, 0, 1, _, rfl, rfl, rfl, by omega, ⟨rfl, by rw [Nat.pow_zero, Nat.mod_eq_of_lt (by omega)]⟩, by omega, by omega, rfl⟩
  case round =>
    obtain ⟨j, y, c, d, rfl, rfl, rfl, hj, HI, hy, hc, HW⟩ := hrel
    by_cases hlt : j < n
    · have HA1 := HA w2 fb hF y c (by omega) (by omega)
      have HU1 := HU w2 fb hF c s (by omega) (by omega)
      have ly := Nat.mod_lt (y + c) (show 0 < p by omega)
      have lc := Nat.mod_lt (c * s) (show 0 < p by omega)
      have HS : Hid ((y + c) % p = geo s p (j + 1) ∧ c * s % p = s ^ (j + 1) % p) := by
        obtain ⟨e1, e2⟩ := HI.out
        refine ⟨by rw [e1, e2]; rfl, by rw [e2, Nat.mod_mul_mod, ← Nat.pow_succ]⟩
      obtain ⟨y', hy'⟩ : ∃ y', (y + c) % p = y' := ⟨_, rfl⟩
      obtain ⟨c', hc'⟩ : ∃ c', c * s % p = c' := ⟨_, rfl⟩
      rw [hy'] at HA1 HS ly
      rw [hc'] at HU1 HS lc
      clear HI hy' hc' HA HU
      go_wp2_with (first | (go_at_call 22; first | (with_reducible refine AnsW.use HA1 _ fun m1 => ?_) | (with_reducible refine AnsW.use0 HA1 fun m1 => ?_)) | (go_at_call 25; first | (with_reducible refine AnsW.use HU1 _ fun m2 => ?_) | (with_reducible refine AnsW.use0 HU1 fun m2 => ?_)))
      go_roundw
      case rel => exact ⟨j + 1, y', c', _, rfl, rfl, by go_num, by omega, HS, ly, lc, rfl⟩
      case measure => simp [intOf]; omega
    · obtain rfl : j = n := by omega
      have hB2 : Below w2.heap.size w2 (w2.drewN d) := below_drewN _ _
      rcases HT.out with ⟨h1, h2⟩ | ⟨h1, h2⟩
      · have e : y = j % p := by rw [HI.out.1, ← HP.out]; exact h2
        subst e
        have hk : (k : Int) % (j : Int) = 0 := by exact_mod_cast h1
        clear HT HI HA HU h1 h2
        go_wp2
        go_ret
        exact ⟨by simp, bb hBV (bb hb1 (bb hb2 (by first | exact below_drewN _ _ | exact bb (below_drewN _ _) (below_drewN _ _))))⟩
      · have e : y = 0 := by rw [HI.out.1, ← HP.out]; exact h2
        subst e
        obtain ⟨c0, hc0⟩ : ∃ c0 : Int, (k : Int) % (j : Int) = c0 := ⟨_, rfl⟩
        have hk : (c0 == 0) = false := by
          rw [← hc0, cast_mod]; exact (cast_ne h1).2
        clear HT HI HA HU h1 h2
        go_wp2
        go_ret
        exact ⟨by simp, bb hBV (bb hb1 (bb hb2 (by first | exact below_drewN _ _ | exact bb (below_drewN _ _) (below_drewN _ _))))⟩
/-- The sums of powers. -/
theorem sums_any (W : World) (kind z : Int) (hz : z < 9223372036854775808) (q : Nat) (hq : q < 18446744073709551616) (A : Option Addr) (C : Nat) (es : List En) (hE : EntsAt W A C es) (hfs : ∀ x ∈ es, x.fs.length * 16 ≤ 140737488355328) (n : Int) (hn : n < 9223372036854775808) (k : Int) (hk : k < 9223372036854775808) :
    AnsB W 8 #[srcV kind z (q : Int) A es.length C, .int .i64 n, .int .i64 k] (.bool true) := by
  rcases made_any W kind z hz q hq A C es hE hfs with HM | ⟨x, hF, HM⟩
  · exact FieldSums_none W kind z q A _ C n k HM
  · obtain ⟨h3, hodd, hlt⟩ := hF.num
    obtain ⟨l, hl⟩ := hF.luc
    have hg := hF.gl
    by_cases h : n < 1 ∨ 256 < n ∨ k < 0
    · exact sums_out W kind z q A _ C n k x.p x.g x (by omega) (by omega) (by simp; omega) (by omega) HM
    · obtain ⟨n, rfl⟩ := Int.eq_ofNat_of_zero_le (show 0 ≤ n by omega)
      obtain ⟨k, rfl⟩ := Int.eq_ofNat_of_zero_le (show 0 ≤ k by omega)
      by_cases hd : (x.p - 1) % n = 0
      · have hr := root_lt (p := x.p) (g := x.g) (n := n) (by omega)
        have hs := Nat.mod_lt ((x.g ^ ((x.p - 1) / n) % x.p) ^ k) (show 0 < x.p by omega)
        refine sums_yes W kind z q A _ C n k ((x.g ^ ((x.p - 1) / n) % x.p) ^ k % x.p) ((x.g ^ ((x.p - 1) / n) % x.p : Nat) : Int) x.g x h3 hlt (by omega) (by omega) (by omega) hs true ?_ HM
          (fun W b F => (fDiv_any F _ (by omega)).to (by rw [dvB_nat (by omega) hd])) (fun W b F => fRoot_any F (by omega) n (by omega) (by omega) hd) (fun W b F => fPow_any F _ k (by omega) (by omega))
        have ho := root_order hl n k (by omega) hd
        by_cases hc : k % n = 0
        · refine Or.inl ⟨hc, geo_one _ _ ?_ n⟩
          rw [Nat.mod_mod, ho.2 hc, Nat.mod_eq_of_lt (by omega)]
        · refine Or.inr ⟨hc, geo_zero hF.prm ?_ ?_⟩
          · rw [← Nat.pow_mod, ← Nat.pow_mul]
            exact (root_order hl n (k * n) (by omega) hd).2 (Nat.mul_mod_left _ _)
          · rw [Nat.mod_mod]; exact mt ho.1 hc
      · exact sums_not W kind z q A _ C n k x.p x.g x (by omega) (by omega) (by simp; omega) (by omega) (by omega) (by omega) (by omega) HM
          (fun W b F => (fDiv_any F _ (by omega)).to (by unfold dvB; rw [Int.toNat_natCast, decide_eq_false hd, Bool.and_false]))
end Go.Proofs.YtikmopnadmgilaaGreat

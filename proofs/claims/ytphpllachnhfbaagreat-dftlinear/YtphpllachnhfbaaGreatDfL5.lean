/-
  The statement DftLinear: true, of all sources, lists and numbers.
-/
import Derived.Test.YtphpllachnhfbaaGreatDfA
import Derived.Test.YtphpllachnhfbaaGreatDfL2
import Derived.Test.YtphpllachnhfbaaGreatRg
namespace Go.Proofs.YtphpllachnhfbaaGreat
set_option linter.unusedVariables false
open Go.RowKit

set_option maxRecDepth 100000 in
set_option maxHeartbeats 4000000 in
theorem lin_none (W : World) (kind z q : Int) (A : Option Addr) (L C : Nat) (B : Option Addr) (n D : Nat) (E : Option Addr) (m G : Nat) (k : Int) (i : Bool) (hlen : (n : Int) ≤ 9223372036854775807) (hlen2 : (m : Int) ≤ 9223372036854775807) (HM : FitN W (srcV kind z q A L C) (.slice B n D)) : AnsB W 6 #[srcV kind z q A L C, .slice B n D, .slice E m G, .int .u64 k, .bool i] (.bool true) := by
  intro w hw
  obtain ⟨t0, t1, t2, t3⟩ := four_cells w (.int .i64 kind) (.int .i64 z) (.int .u64 q) (.slice A L C) 25
  obtain ⟨V, hV⟩ : ∃ V, w.alloc (.cells #[.int .i64 kind, .int .i64 z, .int .u64 q, .slice A L C] 25) = V := ⟨_, rfl⟩
  have hBV : Below w.heap.size w V := hV ▸ below_alloc _ _
  obtain ⟨bo, hbo⟩ : ∃ bo, w.heap.size = bo := ⟨_, rfl⟩
  have hVs : bo < V.heap.size := by rw [← hV, ← hbo]; simp
  rw [hV, hbo] at t0 t1 t2 t3
  have hWV := bb hw hBV
  go_enter Tryz.func6, Tryz.ntmps6
  go_wp2_with (first
    | (go_at_call 10; with_reducible refine AnsM.use alive11 fun w1 hb1 => ?_; have s0 := keep_cell hb1 hVs t0; have s1 := keep_cell hb1 hVs t1; have s2 := keep_cell hb1 hVs t2; have s3 := keep_cell hb1 hVs t3; have hW1 := bb hWV hb1)
    | (go_at_call 21; with_reducible refine FitN.use HM hW1 fun fa fp w2 hb2 => ?_))
  go_ret
  exact ⟨rfl, bb hBV (bb hb1 hb2)⟩
set_option maxRecDepth 100000 in
set_option maxHeartbeats 4000000 in
theorem lin_len (W : World) (kind z q : Int) (A : Option Addr) (L C : Nat) (B : Option Addr) (n D : Nat) (E : Option Addr) (m G : Nat) (k : Int) (i : Bool) (hlen : (n : Int) ≤ 9223372036854775807) (hlen2 : (m : Int) ≤ 9223372036854775807) (p : Int) (x : En) (hne : ((m : Int) != (n : Int)) = true) (hne2 : ¬ m = n) (HM : FitY W (srcV kind z q A L C) (.slice B n D) p x) : AnsB W 6 #[srcV kind z q A L C, .slice B n D, .slice E m G, .int .u64 k, .bool i] (.bool true) := by
  intro w hw
  obtain ⟨t0, t1, t2, t3⟩ := four_cells w (.int .i64 kind) (.int .i64 z) (.int .u64 q) (.slice A L C) 25
  obtain ⟨V, hV⟩ : ∃ V, w.alloc (.cells #[.int .i64 kind, .int .i64 z, .int .u64 q, .slice A L C] 25) = V := ⟨_, rfl⟩
  have hBV : Below w.heap.size w V := hV ▸ below_alloc _ _
  obtain ⟨bo, hbo⟩ : ∃ bo, w.heap.size = bo := ⟨_, rfl⟩
  have hVs : bo < V.heap.size := by rw [← hV, ← hbo]; simp
  rw [hV, hbo] at t0 t1 t2 t3
  have hWV := bb hw hBV
  go_enter Tryz.func6, Tryz.ntmps6
  go_wp2_with (first
    | (go_at_call 10; with_reducible refine AnsM.use alive11 fun w1 hb1 => ?_; have s0 := keep_cell hb1 hVs t0; have s1 := keep_cell hb1 hVs t1; have s2 := keep_cell hb1 hVs t2; have s3 := keep_cell hb1 hVs t3; have hW1 := bb hWV hb1)
    | (go_at_call 21; with_reducible refine FitY.use HM hW1 fun fb w2 hF hb2 => ?_; have hW2 := bb hW1 hb2))
  go_ret
  exact ⟨rfl, bb hBV (bb hb1 hb2)⟩
set_option maxRecDepth 100000 in
set_option maxHeartbeats 4000000 in
theorem lin_bad (W : World) (kind z q : Int) (A : Option Addr) (L C : Nat) (B : Option Addr) (n D : Nat) (E : Option Addr) (G : Nat) (k : Int) (i : Bool) (hlen : (n : Int) ≤ 9223372036854775807) (p : Int) (x : En) (HM : FitY W (srcV kind z q A L C) (.slice B n D) p x)
    (HG : ∀ w, Below W.heap.size W w → AnsW w 15 #[.int .u64 p, .slice E n G] (.bool false)) : AnsB W 6 #[srcV kind z q A L C, .slice B n D, .slice E n G, .int .u64 k, .bool i] (.bool true) := by
  intro w hw
  obtain ⟨t0, t1, t2, t3⟩ := four_cells w (.int .i64 kind) (.int .i64 z) (.int .u64 q) (.slice A L C) 25
  obtain ⟨V, hV⟩ : ∃ V, w.alloc (.cells #[.int .i64 kind, .int .i64 z, .int .u64 q, .slice A L C] 25) = V := ⟨_, rfl⟩
  have hBV : Below w.heap.size w V := hV ▸ below_alloc _ _
  obtain ⟨bo, hbo⟩ : ∃ bo, w.heap.size = bo := ⟨_, rfl⟩
  have hVs : bo < V.heap.size := by rw [← hV, ← hbo]; simp
  rw [hV, hbo] at t0 t1 t2 t3
  have hWV := bb hw hBV
  go_enter Tryz.func6, Tryz.ntmps6
  go_wp2_with (first
    | (go_at_call 10; with_reducible refine AnsM.use alive11 fun w1 hb1 => ?_; have s0 := keep_cell hb1 hVs t0; have s1 := keep_cell hb1 hVs t1; have s2 := keep_cell hb1 hVs t2; have s3 := keep_cell hb1 hVs t3; have hW1 := bb hWV hb1)
    | (go_at_call 21; with_reducible refine FitY.use HM hW1 fun fb w2 hF hb2 => ?_; have hW2 := bb hW1 hb2; have HGD := HG w2 hW2)
    | (go_at_call 15; with_reducible refine AnsW.use0 HGD fun n1 => ?_))
  go_ret
  exact ⟨rfl, bb hBV (bb hb1 (bb hb2 (below_drewN _ _)))⟩
set_option maxRecDepth 100000 in
set_option maxHeartbeats 4000000 in
theorem lin_yes (W : World) (kind z q : Int) (A : Option Addr) (L C : Nat) (B : Option Addr) (n D : Nat) (E : Option Addr) (G : Nat) (k : Nat) (i : Bool) (xs ys ps qs rs : List Nat) (d : Nat → Nat) (hX : UAt W B D xs) (hY : UAt W E G ys) (hN : 1 ≤ n ∧ n ≤ 64) (hxl : xs.length = n) (hyl : ys.length = n) (hpl : ps.length = n) (hql : qs.length = n) (hrl : rs.length = n) (hps : ∀ y ∈ ps, y < 18446744073709551616) (hqs : ∀ y ∈ qs, y < 18446744073709551616) (hrs : ∀ y ∈ rs, y < 18446744073709551616) (hds : ∀ j, d j < 18446744073709551616) (p : Nat) (hp : 1 ≤ p) (hp2 : p < 9223372036854775808) (x : En) (HM : FitY W (srcV kind z q A L C) (.slice B n D) (p : Int) x)
    (HG : ∀ w, Below W.heap.size W w → AnsW w 15 #[.int .u64 (p : Int), .slice E n G] (.bool true))
    (H1 : (∀ (w : World) (b : Nat) (B : Option Addr) (D : Nat), FieldAt w b x → UAt w B D xs → OwnT w 12 #[pt b, .slice B n D, .bool i] ps))
    (H2 : (∀ (w : World) (b : Nat) (B : Option Addr) (D : Nat), FieldAt w b x → UAt w B D ys → OwnT w 12 #[pt b, .slice B n D, .bool i] qs))
    (H3 : (∀ (w : World) (b : Nat) (B : Option Addr) (D : Nat), FieldAt w b x → UAt w B D ((List.range n).map d) → OwnT w 12 #[pt b, .slice B n D, .bool i] rs))
    (HMU : ∀ c : Nat, c < 18446744073709551616 → Ans 20 #[.int .u64 (k : Int), .int .u64 (c : Int), .int .u64 (p : Int)] (.int .u64 ((k * c % p : Nat) : Int)))
    (HAD : ∀ t y : Nat, t < p → y < 18446744073709551616 → Ans 22 #[.int .u64 (t : Int), .int .u64 (y : Int), .int .u64 (p : Int)] (.int .u64 (((t + y) % p : Nat) : Int)))
    (HD : ∀ j a b : Nat, xs[j]? = some a → ys[j]? = some b → d j = (k * a % p + b) % p)
    (HE : ∀ j a b c : Nat, ps[j]? = some a → qs[j]? = some b → rs[j]? = some c → c = (k * a % p + b) % p) : AnsB W 6 #[srcV kind z q A L C, .slice B n D, .slice E n G, .int .u64 (k : Int), .bool i] (.bool true) := by
  intro w hw
  obtain ⟨t0, t1, t2, t3⟩ := four_cells w (.int .i64 kind) (.int .i64 z) (.int .u64 q) (.slice A L C) 25
  obtain ⟨V, hV⟩ : ∃ V, w.alloc (.cells #[.int .i64 kind, .int .i64 z, .int .u64 q, .slice A L C] 25) = V := ⟨_, rfl⟩
  have hBV : Below w.heap.size w V := hV ▸ below_alloc _ _
  obtain ⟨bo, hbo⟩ : ∃ bo, w.heap.size = bo := ⟨_, rfl⟩
  have hVs : bo < V.heap.size := by rw [← hV, ← hbo]; simp
  rw [hV, hbo] at t0 t1 t2 t3
  have hWV := bb hw hBV
  obtain ⟨ii, hii, hzi, hsi, hbi⟩ := info_parts infoWd
  have HN : Hid (1 ≤ n ∧ n ≤ 64 ∧ 1 ≤ p ∧ p < 9223372036854775808) := ⟨hN.1, hN.2, hp, hp2⟩
  have HLS : Hid (xs.length = n ∧ ys.length = n ∧ ps.length = n ∧ qs.length = n ∧ rs.length = n) := ⟨hxl, hyl, hpl, hql, hrl⟩
  have HSS : Hid ((∀ y ∈ ps, y < 18446744073709551616) ∧ (∀ y ∈ qs, y < 18446744073709551616) ∧ (∀ y ∈ rs, y < 18446744073709551616) ∧ (∀ j, d j < 18446744073709551616)) := ⟨hps, hqs, hrs, hds⟩
  have HR' : Hid ((∀ (w : World) (b : Nat) (B : Option Addr) (D : Nat), FieldAt w b x → UAt w B D xs → OwnT w 12 #[pt b, .slice B n D, .bool i] ps) ∧ (∀ (w : World) (b : Nat) (B : Option Addr) (D : Nat), FieldAt w b x → UAt w B D ys → OwnT w 12 #[pt b, .slice B n D, .bool i] qs) ∧ (∀ (w : World) (b : Nat) (B : Option Addr) (D : Nat), FieldAt w b x → UAt w B D ((List.range n).map d) → OwnT w 12 #[pt b, .slice B n D, .bool i] rs)) := ⟨H1, H2, H3⟩
  have HMU' : Hid (∀ c : Nat, c < 18446744073709551616 → Ans 20 #[.int .u64 (k : Int), .int .u64 (c : Int), .int .u64 (p : Int)] (.int .u64 ((k * c % p : Nat) : Int))) := HMU
  have HAD' : Hid (∀ t y : Nat, t < p → y < 18446744073709551616 → Ans 22 #[.int .u64 (t : Int), .int .u64 (y : Int), .int .u64 (p : Int)] (.int .u64 (((t + y) % p : Nat) : Int))) := HAD
  have HD' : Hid (∀ j a b : Nat, xs[j]? = some a → ys[j]? = some b → d j = (k * a % p + b) % p) := HD
  have HE' : Hid (∀ j a b c : Nat, ps[j]? = some a → qs[j]? = some b → rs[j]? = some c → c = (k * a % p + b) % p) := HE
  have HSN : Hid (∀ j, ucells ((List.range (j + 1)).map d) = ucells ((List.range j).map d) ++ [.int .u64 ((d j : Nat) : Int)]) := fun j => rng_snoc d j
  have H0 : Hid (ucells ((List.range 0).map d) = []) := rfl
  have hlen : (n : Int) ≤ 9223372036854775807 := by omega
  clear hN hxl hyl hpl hql hrl hps hqs hrs hds H1 H2 H3 HD HE HMU HAD hp hp2
  go_enter Tryz.func6, Tryz.ntmps6
  go_wp2_with (first
    | (go_at_call 10; with_reducible refine AnsM.use alive11 fun w1 hb1 => ?_; have s0 := keep_cell hb1 hVs t0; have s1 := keep_cell hb1 hVs t1; have s2 := keep_cell hb1 hVs t2; have s3 := keep_cell hb1 hVs t3; have hW1 := bb hWV hb1)
    | (go_at_call 21; with_reducible refine FitY.use HM hW1 fun fb w2 hF hb2 => ?_; have hW2 := bb hW1 hb2; have HGD := HG w2 hW2)
    | (go_at_call 15; with_reducible refine AnsW.use0 HGD fun n1 => ?_))
  have hB2 := below_drewN w2 n1
  obtain ⟨w3, hw3⟩ : ∃ w3, w2.drewN n1 = w3 := ⟨_, rfl⟩
  rw [hw3] at hB2 ⊢
  have HX : Hid (UAt w3 B D xs) := (hX.below hW2).below hB2
  have HY : Hid (UAt w3 E G ys) := (hY.below hW2).below hB2
  have HF : Hid (FieldAt w3 fb x) := hF.below hB2
  have HB3 : Hid (Below w.heap.size w w3) := bb hBV (bb hb1 (bb hb2 hB2))
  clear hb2 hb1 hF hX hY hBV hW2 hW1 hWV hw t0 t1 t2 t3 s0 s1 s2 s3 HM HG HGD hB2 hw3
  go_loopw [14, 49] (fun out v wr => ∃ j : Nat, v = .int .i64 (j : Int) ∧ j ≤ n ∧ Hid (wr.ownsRow w3.heap.size 22 1 out j (ucells ((List.range j).map d))) ∧ Hid (Below w3.heap.size w3 wr)) (fun _ v _ => n - (intOf v).toNat)
  case atStart => exact ⟨0, rfl, by omega, by unfold Hid; rw [H0.out]; exact World.ownsRow_nil _ _ _ _, Below.refl _ _⟩
  case round =>
    obtain ⟨j, rfl, hj, HO, HB⟩ := hrel
    by_cases hlt : j < n
    · obtain ⟨h1, hn, hp, hp2⟩ := HN.out
      obtain ⟨a, ha⟩ : ∃ a, xs[j]? = some a := ⟨_, List.getElem?_eq_getElem (by rw [HLS.out.1]; exact hlt)⟩
      obtain ⟨b, hb⟩ : ∃ b, ys[j]? = some b := ⟨_, List.getElem?_eq_getElem (by rw [HLS.out.2.1]; exact hlt)⟩
      obtain ⟨b1, o1, rfl, hl1, c10, al⟩ := HX.out.get j a ha
      obtain ⟨b2, o2, rfl, hl2, c20, bl⟩ := HY.out.get j b hb
      have c1 := ((bcell HB.out).1 b1 (o1 + j) hl1).trans c10
      have c2 := ((bcell HB.out).1 b2 (o2 + j) hl2).trans c20
      have HQ := HMU'.out a al
      have hql := Nat.mod_lt (k * a) (show 0 < p by omega)
      have HA := HAD'.out (k * a % p) b hql bl
      rw [← HD'.out j a b ha hb] at HA
      have HXj := HSN.out j
      obtain ⟨u, hu⟩ : ∃ u, k * a % p = u := ⟨_, rfl⟩
      obtain ⟨y, hy⟩ : ∃ y, d j = y := ⟨_, rfl⟩
      rw [hu] at HQ HA
      rw [hy] at HA HXj
      have HXk : Hid (ucells ((List.range (j + 1)).map d) = ucells ((List.range j).map d) ++ [.int .u64 (y : Int)]) := HXj
      have q2 : (j : Int) < (n : Int) := ltI hlt
      have hjm : j ≤ 64 := Nat.le_trans hj hn
      clear ha hb al bl hu hy HXj hql h1 hn hp hp2
      go_wp2_with fail
      go_region_held3 (fun X => X.cell? ⟨b1, o1 + j, none⟩ = some (.int .u64 (a : Int)) ∧ X.cell? ⟨b2, o2 + j, none⟩ = some (.int .u64 (b : Int))) (first | exact ⟨c1, c2⟩ | exact ⟨d1, d2⟩ | exact ⟨e1, e2⟩ | exact ⟨f1, f2⟩ | exact ⟨g1, g2⟩)
        ((first
          | (go_at_call 20; (with_reducible refine Ans.useB HQ fun X1 hX1 => ?_); have hb1 := below_undrew hX1; have hc1 := bb HB.out hb1; have d1 := ((bcell hc1).1 b1 (o1 + j) hl1).trans c10; have d2 := ((bcell hc1).1 b2 (o2 + j) hl2).trans c20)
          | (go_at_call 22; (with_reducible refine Ans.useB HA fun X2 hX2 => ?_); have hb2 : Below wr.heap.size wr X2 := bb hb1 hX2; have hc2 := bb HB.out hb2; have e1 := ((bcell hc2).1 b1 (o1 + j) hl1).trans c10; have e2 := ((bcell hc2).1 b2 (o2 + j) hl2).trans c20; have hb3 : Below wr.heap.size wr (X2.alloc (.cells #[.int .u64 (y : Int)] 22)) := bb hb2 (below_alloc _ _); have hc3 := bb HB.out hb3; have f1 := ((bcell hc3).1 b1 (o1 + j) hl1).trans c10; have f2 := ((bcell hc3).1 b2 (o2 + j) hl2).trans c20; have hO2 := World.ownsRow.alloc (row_below HO.out hb2) (.cells #[.int .u64 (y : Int)] 22); have hnews := one_new X2 (.int .u64 (y : Int)) 22; have hBa : Below w3.heap.size w3 (X2.alloc (.cells #[.int .u64 (y : Int)] 22)) := bb HB.out hb3)
          | (refine step_append_lies _ (by rfl) _ _ 26 (by rfl) w3.heap.size 22 ii _ 1 8 Tryz.underlying26 hii hzi hsi hbi (by rfl) (by omega) _ j _ (by rfl) hO2 ⟨X2.heap.size, 0, none⟩ 1 1 [.int .u64 (y : Int)] (by rfl) (by rfl) hnews (by simp [Value.oneCell']) (by omega) (by unfold maxLen; omega) (by omega) hBa.size _ (by rfl) ?_; intro g cap w5 hO3 hG hat hlt5; have hB5 : Below w3.heap.size w3 w5 := hBa.grown hG hBa.size (fun k hk => (hO2.lt k hk).1); have g1 := ((bcell hB5).1 b1 (o1 + j) hl1).trans c10; have g2 := ((bcell hB5).1 b2 (o2 + j) hl2).trans c20)))
      have HO3 : Hid (w5.ownsRow w3.heap.size 22 1 (.slice (some ⟨g, 0, none⟩) (j + 1) cap) (j + 1) (ucells ((List.range (j + 1)).map d))) := by unfold Hid; rw [HXk.out]; exact hO3
      have HB5 : Hid (Below w3.heap.size w3 w5) := hB5
      clear hO3 hG hO2 hBa hnews hjm
      go_wp2
      go_roundw
      case rel => exact ⟨j + 1, by go_num, by omega, by unfold Hid; exact HO3.out, HB5⟩
      case measure => simp [intOf]; omega
    · obtain rfl : j = n := by omega
      obtain ⟨A1, C5, rfl⟩ : ∃ A1 C5, u14 = .slice A1 j C5 := by
        rcases HO.out.2 with ⟨hv, h0⟩ | ⟨g, cap, cur, hv, _⟩
        · exact ⟨none, 0, by rw [hv, h0]⟩
        · exact ⟨_, _, hv⟩
      have HUS : Hid (UAt wr A1 C5 ((List.range j).map d)) := by
        have : OwnU wr w3.heap.size A1 C5 ((List.range j).map d) := by unfold OwnU; simp only [List.length_map, List.length_range]; exact HO.out
        exact this.words fun y hy => by
          obtain ⟨m, _, rfl⟩ := List.mem_map.1 hy
          exact HSS.out.2.2.2 m
      have HXr : Hid (UAt wr B D xs) := HX.out.below HB.out
      have HYr : Hid (UAt wr E G ys) := HY.out.below HB.out
      have HFr : Hid (FieldAt wr fb x) := HF.out.below HB.out
      have HBr : Hid (Below w.heap.size w wr) := bb HB3.out HB.out
      have HR1 := HR'.out.1 wr fb B D HFr.out HXr.out
      clear HO HB
      go_wp2_with (first
        | (go_at_call 12; with_reducible refine OwnT.useG HR3 HLS.out.2.2.2.2 HN.out.1 (Below.refl _ _) fun g6 C6 w6 hO6 hb6 => ?_)
        | (go_at_call 12; with_reducible refine OwnT.useG HR2 HLS.out.2.2.2.1 HN.out.1 (Below.refl _ _) fun g5 C8 w5 hO5 hb5 => ?_; have HR3 := HR'.out.2.2 w5 fb _ _ ((HFr.out.below hb4).below hb5) ((HUS.out.below hb4).below hb5))
        | (go_at_call 12; with_reducible refine OwnT.useG HR1 HLS.out.2.2.1 HN.out.1 (Below.refl _ _) fun g4 C4 w4 hO4 hb4 => ?_; have HR2 := HR'.out.2.1 w4 fb E G (HFr.out.below hb4) (HYr.out.below hb4)))
      have HUP : Hid (UAt w6 (some ⟨g4, 0, none⟩) C4 ps) := ((hO4.words HSS.out.1).below hb5).below hb6
      have HUQ : Hid (UAt w6 (some ⟨g5, 0, none⟩) C8 qs) := (hO5.words HSS.out.2.1).below hb6
      have HUR : Hid (UAt w6 (some ⟨g6, 0, none⟩) C6 rs) := hO6.words HSS.out.2.2.1
      have HB6 : Hid (Below w.heap.size w w6) := bb HBr.out (bb hb4 (bb hb5 hb6))
      clear hO4 hO5 hO6 hb4 hb5 hb6 HR1 HR2 HR3
      go_loopw [123] (fun v wr => ∃ l s : Nat, v = .int .i64 (l : Int) ∧ l ≤ j ∧ wr = w6.drewN s) (fun v _ => j - (intOf v).toNat)
      case atStart => exact ⟨0, 0, rfl, by omega, rfl⟩
      case round =>
        obtain ⟨l, s, rfl, hl, rfl⟩ := hrel
        by_cases hlt : l < j
        · obtain ⟨h1, hn, hp, hp2⟩ := HN.out
          obtain ⟨a, ha⟩ : ∃ a, ps[l]? = some a := ⟨_, List.getElem?_eq_getElem (by rw [HLS.out.2.2.1]; exact hlt)⟩
          obtain ⟨b, hb⟩ : ∃ b, qs[l]? = some b := ⟨_, List.getElem?_eq_getElem (by rw [HLS.out.2.2.2.1]; exact hlt)⟩
          obtain ⟨c, hc⟩ : ∃ c, rs[l]? = some c := ⟨_, List.getElem?_eq_getElem (by rw [HLS.out.2.2.2.2]; exact hlt)⟩
          have c1 := HUP.out.at0 ha
          have c2 := HUQ.out.at0 hb
          have c3 := HUR.out.at0 hc
          have al := HSS.out.1 a (List.mem_of_getElem? ha)
          have bl := HSS.out.2.1 b (List.mem_of_getElem? hb)
          have HQ := HMU'.out a al
          have hql := Nat.mod_lt (k * a) (show 0 < p by omega)
          have HA := HAD'.out (k * a % p) b hql bl
          rw [← HE'.out l a b c ha hb hc] at HA
          obtain ⟨u, hu⟩ : ∃ u, k * a % p = u := ⟨_, rfl⟩
          rw [hu] at HQ HA
          have q2 : (l : Int) < (j : Int) := ltI hlt
          have e1 : ((c : Int) != (c : Int)) = false := by simp
          clear ha hb hc al bl hql hu h1 hn hp hp2
          go_wp2
          go_quiet ((first | (go_at_call 20; first | (with_reducible exact Ans.quiet HQ) | (with_reducible exact Ans.quiet0 HQ)) | (go_at_call 22; first | (with_reducible exact Ans.quiet HA) | (with_reducible exact Ans.quiet0 HA))))
          go_wp2
          go_roundw
          case rel => exact ⟨l + 1, _, by go_num, by omega, rfl⟩
          case measure => simp [intOf]; omega
        · obtain rfl : l = j := by omega
          go_wp2
          go_ret
          exact ⟨rfl, bb HB6.out (below_drewN _ _)⟩
theorem linear_any (W : World) (kind z : Int) (hz : z < 9223372036854775808) (q : Nat) (hq : q < 18446744073709551616) (A : Option Addr) (C : Nat) (es : List En) (hE : EntsAt W A C es) (hfs : ∀ x ∈ es, x.fs.length * 16 ≤ 140737488355328) (B : Option Addr) (D : Nat) (xs : List Nat) (hX : UAt W B D xs) (E : Option Addr) (G : Nat) (ys : List Nat) (hY : UAt W E G ys) (k : Nat) (hk : k < 18446744073709551616) (i : Bool) :
    AnsB W 6 #[srcV kind z (q : Int) A es.length C, .slice B xs.length D, .slice E ys.length G, .int .u64 (k : Int), .bool i] (.bool true) := by
  rcases fit_any W kind z hz q hq A C es hE hfs B D xs hX with HM | ⟨x, hF, h1, h64, hd, hg, HM⟩
  · exact lin_none W kind z q A _ C B _ D E _ G k i hX.len hY.len HM
  · obtain ⟨h3, hodd, hlt⟩ := hF.num
    by_cases hl : ys.length = xs.length
    · have HG : ∀ w, Below W.heap.size W w → AnsW w 15 #[.int .u64 (x.p : Int), .slice E ys.length G] (.bool (goodB x.p ys)) := fun w hw => dgood_any w x.p E G ys (hY.below hw)
      rw [hl] at HG ⊢
      cases hg2 : goodB x.p ys
      · rw [hg2] at HG
        exact lin_bad W kind z q A _ C B _ D E G k i hX.len x.p x HM HG
      · rw [hg2] at HG
        have hgy := goodB_iff.1 hg2
        have hzl : ((List.range xs.length).map (fun j => (k * atL xs j % x.p + atL ys j) % x.p)).length = xs.length := by simp
        have hzt : ∀ j, j < xs.length → atL ((List.range xs.length).map (fun j => (k * atL xs j % x.p + atL ys j) % x.p)) j = (k * atL xs j % x.p + atL ys j) % x.p := fun j hj => atL_of (by rw [List.getElem?_map, List.getElem?_range hj]; rfl)
        have hzs : ∀ y ∈ ((List.range xs.length).map (fun j => (k * atL xs j % x.p + atL ys j) % x.p)), y < x.p := fun y hy => by
          obtain ⟨j, _, rfl⟩ := List.mem_map.1 hy
          exact Nat.mod_lt _ (by omega)
        refine lin_yes W kind z q A _ C B _ D E G k i xs ys (dT x i xs) (dT x i ys) (dT x i ((List.range xs.length).map (fun j => (k * atL xs j % x.p + atL ys j) % x.p))) (fun j => (k * atL xs j % x.p + atL ys j) % x.p) hX hY ⟨h1, h64⟩ rfl hl (dT_len _ _ _) (by rw [dT_len, hl]) (by rw [dT_len, hzl])
          (fun y hy => by have := dT_lt hF i xs y hy; omega) (fun y hy => by have := dT_lt hF i ys y hy; omega) (fun y hy => by have := dT_lt hF i _ y hy; omega) (fun j => by have := Nat.mod_lt (k * atL xs j % x.p + atL ys j) (show 0 < x.p by omega); show (k * atL xs j % x.p + atL ys j) % x.p < _; omega) x.p (by omega) hlt x HM HG
          (fun w b B D F U => run_yes F hF U h1 (by omega) hd hg i) (fun w b B D F U => ?_) (fun w b B D F U => ?_) (fun c hc => rmul_any k c x.p hk hc (by omega) (by omega)) (fun t y ht hy => radd_any t y x.p (by omega) hy (by omega) (by omega))
          (fun j a b ha hb => by show (k * atL xs j % x.p + atL ys j) % x.p = _; rw [atL_of ha, atL_of hb]) (fun j a b c ha hb hc => ?_)
        · have := run_yes F hF U (by omega) (by omega) (by rw [hl]; exact hd) hgy i
          rw [hl] at this
          exact this
        · have := run_yes F hF U (by omega) (by omega) (by rw [hzl]; exact hd) hzs i
          rw [hzl] at this
          exact this
        · have hj : j < xs.length := by have := (List.getElem?_eq_some_iff.1 ha).1; rwa [dT_len] at this
          rw [dT_get hj] at ha
          cases ha
          rw [dT_get (by omega)] at hb
          cases hb
          rw [dT_get (by rw [hzl]; exact hj)] at hc
          cases hc
          rw [Nat.mod_add_mod]
          exact dV_lin i hl hzl (fun j hj => by rw [hzt j hj, Nat.mod_mod, Nat.mod_add_mod]) j
    · exact lin_len W kind z q A _ C B _ D E _ G k i hX.len hY.len x.p x (by simp only [bne_iff_ne, ne_eq]; omega) hl HM
end Go.Proofs.YtphpllachnhfbaaGreat

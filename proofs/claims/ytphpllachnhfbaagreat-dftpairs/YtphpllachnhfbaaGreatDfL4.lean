/-
  The statement DftPairs: true, of all sources and lists.
-/
import Derived.Test.YtphpllachnhfbaaGreatDfA
import Derived.Test.YtphpllachnhfbaaGreatDfL2
import Derived.Test.YtphpllachnhfbaaGreatDfL3
namespace Go.Proofs.YtphpllachnhfbaaGreat
set_option linter.unusedVariables false
open Go.RowKit

set_option maxRecDepth 100000 in
set_option maxHeartbeats 4000000 in
theorem pairs_none (W : World) (kind z q : Int) (A : Option Addr) (L C : Nat) (B : Option Addr) (n D : Nat) (E : Option Addr) (m G : Nat) (hlen : (n : Int) ≤ 9223372036854775807) (hlen2 : (m : Int) ≤ 9223372036854775807) (HM : FitN W (srcV kind z q A L C) (.slice B n D)) : AnsB W 9 #[srcV kind z q A L C, .slice B n D, .slice E m G] (.bool true) := by
  intro w hw
  obtain ⟨t0, t1, t2, t3⟩ := four_cells w (.int .i64 kind) (.int .i64 z) (.int .u64 q) (.slice A L C) 25
  obtain ⟨V, hV⟩ : ∃ V, w.alloc (.cells #[.int .i64 kind, .int .i64 z, .int .u64 q, .slice A L C] 25) = V := ⟨_, rfl⟩
  have hBV : Below w.heap.size w V := hV ▸ below_alloc _ _
  obtain ⟨bo, hbo⟩ : ∃ bo, w.heap.size = bo := ⟨_, rfl⟩
  have hVs : bo < V.heap.size := by rw [← hV, ← hbo]; simp
  rw [hV, hbo] at t0 t1 t2 t3
  have hWV := bb hw hBV
  go_enter Tryz.func9, Tryz.ntmps9
  go_wp2_with (first
    | (go_at_call 10; with_reducible refine AnsM.use alive11 fun w1 hb1 => ?_; have s0 := keep_cell hb1 hVs t0; have s1 := keep_cell hb1 hVs t1; have s2 := keep_cell hb1 hVs t2; have s3 := keep_cell hb1 hVs t3; have hW1 := bb hWV hb1)
    | (go_at_call 21; with_reducible refine FitN.use HM hW1 fun fa fp w2 hb2 => ?_))
  go_ret
  exact ⟨rfl, bb hBV (bb hb1 hb2)⟩
set_option maxRecDepth 100000 in
set_option maxHeartbeats 4000000 in
theorem pairs_len (W : World) (kind z q : Int) (A : Option Addr) (L C : Nat) (B : Option Addr) (n D : Nat) (E : Option Addr) (m G : Nat) (hlen : (n : Int) ≤ 9223372036854775807) (hlen2 : (m : Int) ≤ 9223372036854775807) (p : Int) (x : En) (hne : ((m : Int) != (n : Int)) = true) (hne2 : ¬ m = n) (HM : FitY W (srcV kind z q A L C) (.slice B n D) p x) : AnsB W 9 #[srcV kind z q A L C, .slice B n D, .slice E m G] (.bool true) := by
  intro w hw
  obtain ⟨t0, t1, t2, t3⟩ := four_cells w (.int .i64 kind) (.int .i64 z) (.int .u64 q) (.slice A L C) 25
  obtain ⟨V, hV⟩ : ∃ V, w.alloc (.cells #[.int .i64 kind, .int .i64 z, .int .u64 q, .slice A L C] 25) = V := ⟨_, rfl⟩
  have hBV : Below w.heap.size w V := hV ▸ below_alloc _ _
  obtain ⟨bo, hbo⟩ : ∃ bo, w.heap.size = bo := ⟨_, rfl⟩
  have hVs : bo < V.heap.size := by rw [← hV, ← hbo]; simp
  rw [hV, hbo] at t0 t1 t2 t3
  have hWV := bb hw hBV
  go_enter Tryz.func9, Tryz.ntmps9
  go_wp2_with (first
    | (go_at_call 10; with_reducible refine AnsM.use alive11 fun w1 hb1 => ?_; have s0 := keep_cell hb1 hVs t0; have s1 := keep_cell hb1 hVs t1; have s2 := keep_cell hb1 hVs t2; have s3 := keep_cell hb1 hVs t3; have hW1 := bb hWV hb1)
    | (go_at_call 21; with_reducible refine FitY.use HM hW1 fun fb w2 hF hb2 => ?_; have hW2 := bb hW1 hb2))
  go_ret
  exact ⟨rfl, bb hBV (bb hb1 hb2)⟩
set_option maxRecDepth 100000 in
set_option maxHeartbeats 4000000 in
theorem pairs_bad (W : World) (kind z q : Int) (A : Option Addr) (L C : Nat) (B : Option Addr) (n D : Nat) (E : Option Addr) (G : Nat) (hlen : (n : Int) ≤ 9223372036854775807) (p : Int) (x : En) (HM : FitY W (srcV kind z q A L C) (.slice B n D) p x)
    (HG : ∀ w, Below W.heap.size W w → AnsW w 15 #[.int .u64 p, .slice E n G] (.bool false)) : AnsB W 9 #[srcV kind z q A L C, .slice B n D, .slice E n G] (.bool true) := by
  intro w hw
  obtain ⟨t0, t1, t2, t3⟩ := four_cells w (.int .i64 kind) (.int .i64 z) (.int .u64 q) (.slice A L C) 25
  obtain ⟨V, hV⟩ : ∃ V, w.alloc (.cells #[.int .i64 kind, .int .i64 z, .int .u64 q, .slice A L C] 25) = V := ⟨_, rfl⟩
  have hBV : Below w.heap.size w V := hV ▸ below_alloc _ _
  obtain ⟨bo, hbo⟩ : ∃ bo, w.heap.size = bo := ⟨_, rfl⟩
  have hVs : bo < V.heap.size := by rw [← hV, ← hbo]; simp
  rw [hV, hbo] at t0 t1 t2 t3
  have hWV := bb hw hBV
  go_enter Tryz.func9, Tryz.ntmps9
  go_wp2_with (first
    | (go_at_call 10; with_reducible refine AnsM.use alive11 fun w1 hb1 => ?_; have s0 := keep_cell hb1 hVs t0; have s1 := keep_cell hb1 hVs t1; have s2 := keep_cell hb1 hVs t2; have s3 := keep_cell hb1 hVs t3; have hW1 := bb hWV hb1)
    | (go_at_call 21; with_reducible refine FitY.use HM hW1 fun fb w2 hF hb2 => ?_; have hW2 := bb hW1 hb2; have HGD := HG w2 hW2)
    | (go_at_call 15; with_reducible refine AnsW.use0 HGD fun n1 => ?_))
  go_ret
  exact ⟨rfl, bb hBV (bb hb1 (bb hb2 (below_drewN _ _)))⟩
set_option maxRecDepth 100000 in
set_option maxHeartbeats 4000000 in
theorem pairs_yes (W : World) (kind z q : Int) (A : Option Addr) (L C : Nat) (B : Option Addr) (n D : Nat) (E : Option Addr) (G : Nat) (xs ys cs bs : List Nat) (hX : UAt W B D xs) (hY : UAt W E G ys) (hN : 1 ≤ n ∧ n ≤ 64) (hxl : xs.length = n) (hyl : ys.length = n) (hal : cs.length = n) (hbl : bs.length = n) (has : ∀ y ∈ cs, y < 18446744073709551616) (hbs : ∀ y ∈ bs, y < 18446744073709551616) (p : Nat) (hp : 1 ≤ p) (hp2 : p < 9223372036854775808) (x : En) (HM : FitY W (srcV kind z q A L C) (.slice B n D) (p : Int) x)
    (HG : ∀ w, Below W.heap.size W w → AnsW w 15 #[.int .u64 (p : Int), .slice E n G] (.bool true))
    (H1 : (∀ (w : World) (b : Nat) (B : Option Addr) (D : Nat), FieldAt w b x → UAt w B D xs → OwnT w 12 #[pt b, .slice B n D, .bool false] cs))
    (H2 : (∀ (w : World) (b : Nat) (B : Option Addr) (D : Nat), FieldAt w b x → UAt w B D ys → OwnT w 12 #[pt b, .slice B n D, .bool false] bs))
    (HMU : ∀ a c : Nat, a < 18446744073709551616 → c < 18446744073709551616 → Ans 20 #[.int .u64 (a : Int), .int .u64 (c : Int), .int .u64 (p : Int)] (.int .u64 ((a * c % p : Nat) : Int)))
    (HAD : ∀ t y : Nat, t < p → y < p → Ans 22 #[.int .u64 (t : Int), .int .u64 (y : Int), .int .u64 (p : Int)] (.int .u64 (((t + y) % p : Nat) : Int)))
    (HE : sN (fun i => atL cs i * atL bs ((n - i) % n)) n % p = sN (fun i => atL xs i * atL ys i) n % p * n % p) : AnsB W 9 #[srcV kind z q A L C, .slice B n D, .slice E n G] (.bool true) := by
  intro w hw
  obtain ⟨t0, t1, t2, t3⟩ := four_cells w (.int .i64 kind) (.int .i64 z) (.int .u64 q) (.slice A L C) 25
  obtain ⟨V, hV⟩ : ∃ V, w.alloc (.cells #[.int .i64 kind, .int .i64 z, .int .u64 q, .slice A L C] 25) = V := ⟨_, rfl⟩
  have hBV : Below w.heap.size w V := hV ▸ below_alloc _ _
  obtain ⟨bo, hbo⟩ : ∃ bo, w.heap.size = bo := ⟨_, rfl⟩
  have hVs : bo < V.heap.size := by rw [← hV, ← hbo]; simp
  rw [hV, hbo] at t0 t1 t2 t3
  have hWV := bb hw hBV
  have HN : Hid (1 ≤ n ∧ n ≤ 64 ∧ 1 ≤ p ∧ p < 9223372036854775808) := ⟨hN.1, hN.2, hp, hp2⟩
  have HXL : Hid (xs.length = n) := hxl
  have HYL : Hid (ys.length = n) := hyl
  have HAL : Hid (cs.length = n) := hal
  have HBL : Hid (bs.length = n) := hbl
  have HSS : Hid ((∀ y ∈ cs, y < 18446744073709551616) ∧ (∀ y ∈ bs, y < 18446744073709551616)) := ⟨has, hbs⟩
  have HR' : Hid ((∀ (w : World) (b : Nat) (B : Option Addr) (D : Nat), FieldAt w b x → UAt w B D xs → OwnT w 12 #[pt b, .slice B n D, .bool false] cs) ∧ (∀ (w : World) (b : Nat) (B : Option Addr) (D : Nat), FieldAt w b x → UAt w B D ys → OwnT w 12 #[pt b, .slice B n D, .bool false] bs)) := ⟨H1, H2⟩
  have HE' : Hid (sN (fun i => atL cs i * atL bs ((n - i) % n)) n % p = sN (fun i => atL xs i * atL ys i) n % p * n % p) := HE
  have HMU' : Hid (∀ a c : Nat, a < 18446744073709551616 → c < 18446744073709551616 → Ans 20 #[.int .u64 (a : Int), .int .u64 (c : Int), .int .u64 (p : Int)] (.int .u64 ((a * c % p : Nat) : Int))) := HMU
  have HAD' : Hid (∀ t y : Nat, t < p → y < p → Ans 22 #[.int .u64 (t : Int), .int .u64 (y : Int), .int .u64 (p : Int)] (.int .u64 (((t + y) % p : Nat) : Int))) := HAD
  have hlen : (n : Int) ≤ 9223372036854775807 := by omega
  have hn0 : ¬ (n : Int) = 0 := by omega
  have hn1 : ¬ n = 0 := by omega
  have h0p : 0 < p := hp
  clear hN hxl hyl hal hbl has hbs H1 H2 HE HMU HAD hp hp2
  go_enter Tryz.func9, Tryz.ntmps9
  go_wp2_with (first
    | (go_at_call 10; with_reducible refine AnsM.use alive11 fun w1 hb1 => ?_; have s0 := keep_cell hb1 hVs t0; have s1 := keep_cell hb1 hVs t1; have s2 := keep_cell hb1 hVs t2; have s3 := keep_cell hb1 hVs t3; have hW1 := bb hWV hb1)
    | (go_at_call 21; with_reducible refine FitY.use HM hW1 fun fb w2 hF hb2 => ?_; have hW2 := bb hW1 hb2; have hX2 := hX.below hW2; have hY2 := hY.below hW2; have HGD := HG w2 hW2; have HR1 := HR'.out.1 (w2.drewN 0) fb B D (hF.below (below_drewN _ _)) (hX2.below (below_drewN _ _)))
    | (go_at_call 15; with_reducible refine AnsW.use0 HGD fun n1 => ?_)
    | (go_at_call 12; with_reducible refine OwnT.useG HR2 HBL.out HN.out.1 (Below.refl _ _) fun gb C4 w4 hO4 hb4 => ?_)
    | (go_at_call 12; with_reducible refine OwnT.useG (HR'.out.1 _ fb B D (hF.below (below_drewN w2 n1)) (hX2.below (below_drewN w2 n1))) HAL.out HN.out.1 (Below.refl _ _) fun ga C3 w3 hO3 hb3 => ?_; have hB3 := bb (below_drewN w2 n1) hb3; have HR2 := HR'.out.2 w3 fb E G (hF.below hB3) (hY2.below hB3)))
  have HUX : Hid (UAt w4 B D xs) := (hX2.below hB3).below hb4
  have HUY : Hid (UAt w4 E G ys) := (hY2.below hB3).below hb4
  have HUA : Hid (UAt w4 (some ⟨ga, 0, none⟩) C3 cs) := (hO3.words HSS.out.1).below hb4
  have HUB : Hid (UAt w4 (some ⟨gb, 0, none⟩) C4 bs) := hO4.words HSS.out.2
  have HB4 : Hid (Below w.heap.size w w4) := bb hBV (bb hb1 (bb hb2 (bb hB3 hb4)))
  obtain ⟨f, hf⟩ : ∃ f : Nat → Nat, (fun i => atL xs i * atL ys i) = f := ⟨_, rfl⟩
  obtain ⟨g, hg⟩ : ∃ g : Nat → Nat, (fun i => atL cs i * atL bs ((n - i) % n)) = g := ⟨_, rfl⟩
  have HFf : Hid (∀ i, atL xs i * atL ys i = f i) := fun i => congrFun hf i
  have HGg : Hid (∀ i, atL cs i * atL bs ((n - i) % n) = g i) := fun i => congrFun hg i
  rw [hf, hg] at HE'
  clear hO3 hO4 hb4 hb3 hb2 hb1 HR1 HR2 hX2 hY2 hF hX hY hBV hW2 hW1 hWV hw t0 t1 t2 t3 s0 s1 s2 s3 HM hB3 HG HGD hf hg
  go_loopw [15, 16, 76] (fun s r v wr => ∃ t u i k : Nat, s = .int .u64 (t : Int) ∧ r = .int .u64 (u : Int) ∧ v = .int .i64 (i : Int) ∧ i ≤ n ∧ t < p ∧ u < p ∧ Hid (t = sN f i % p) ∧ Hid (u = sN g i % p) ∧ wr = w4.drewN k) (fun _ _ v _ => n - (intOf v).toNat)
  case atStart => exact ⟨0, 0, 0, 0, rfl, rfl, rfl, by omega, h0p, h0p, by unfold Hid; rw [sN, Nat.zero_mod], by unfold Hid; rw [sN, Nat.zero_mod], rfl⟩
  case round =>
    obtain ⟨t, u, i, k, rfl, rfl, rfl, hi, ht, hu, HS, HT, rfl⟩ := hrel
    by_cases hlt : i < n
    · obtain ⟨h1, hn, hp, hp2⟩ := HN.out
      obtain ⟨m, hm⟩ : ∃ m, (n - i) % n = m := ⟨_, rfl⟩
      have hml : m < n := hm ▸ Nat.mod_lt _ (by omega)
      obtain ⟨y, hy⟩ : ∃ y, xs[i]? = some y := ⟨_, List.getElem?_eq_getElem (by rw [HXL.out]; exact hlt)⟩
      obtain ⟨v, hv⟩ : ∃ v, ys[i]? = some v := ⟨_, List.getElem?_eq_getElem (by rw [HYL.out]; exact hlt)⟩
      obtain ⟨a, ha⟩ : ∃ a, cs[i]? = some a := ⟨_, List.getElem?_eq_getElem (by rw [HAL.out]; exact hlt)⟩
      obtain ⟨b, hb⟩ : ∃ b, bs[m]? = some b := ⟨_, List.getElem?_eq_getElem (by rw [HBL.out]; exact hml)⟩
      obtain ⟨b1, o1, rfl, _, c1, yl⟩ := HUX.out.get i y hy
      obtain ⟨b2, o2, rfl, _, c2, vl⟩ := HUY.out.get i v hv
      have c3 := HUA.out.at0 ha
      have c4 := HUB.out.at0 hb
      have HQ1 := HMU'.out y v yl vl
      have HQ2 := HMU'.out a b (HSS.out.1 a (List.mem_of_getElem? ha)) (HSS.out.2 b (List.mem_of_getElem? hb))
      obtain ⟨c, hc⟩ : ∃ c, y * v % p = c := ⟨_, rfl⟩
      obtain ⟨e, he⟩ : ∃ e, a * b % p = e := ⟨_, rfl⟩
      have hcl : c < p := hc ▸ Nat.mod_lt _ (by omega)
      have hel : e < p := he ▸ Nat.mod_lt _ (by omega)
      rw [hc] at HQ1
      rw [he] at HQ2
      have HA1 := HAD'.out t c ht hcl
      have HA2 := HAD'.out u e hu hel
      obtain ⟨t2, ht2⟩ : ∃ t2, (t + c) % p = t2 := ⟨_, rfl⟩
      obtain ⟨u2, hu2⟩ : ∃ u2, (u + e) % p = u2 := ⟨_, rfl⟩
      rw [ht2] at HA1
      rw [hu2] at HA2
      have ht2l : t2 < p := ht2 ▸ Nat.mod_lt _ (by omega)
      have hu2l : u2 < p := hu2 ▸ Nat.mod_lt _ (by omega)
      have HS2 : Hid (t2 = sN f (i + 1) % p) := by
        unfold Hid; rw [← ht2, ← hc, HS.out, sN, ← Nat.add_mod, ← HFf.out, atL_of hy, atL_of hv]
      have HT2 : Hid (u2 = sN g (i + 1) % p) := by
        unfold Hid; rw [← hu2, ← he, HT.out, sN, ← Nat.add_mod, ← HGg.out, hm, atL_of ha, atL_of hb]
      have r1 := subW hlt hn
      have r1' := subI hlt hn
      obtain ⟨d, hd⟩ : ∃ d, n - i = d := ⟨_, rfl⟩
      rw [hd] at r1 r1' hm
      have r2 : Int.tmod (d : Int) (n : Int) = (m : Int) := by rw [← hm]; rfl
      have r2' : (d : Int) % (n : Int) = (m : Int) := by rw [← hm]; rfl
      have r3 : wrap64 (m : Int) = (m : Int) := wrL hml (Nat.le_trans hn (by decide))
      have r3' : IntKind.i64.wrap (m : Int) = (m : Int) := wrLI hml (Nat.le_trans hn (by decide))
      have q1 : (m : Int) < (n : Int) := ltI hml
      have q2 : (i : Int) < (n : Int) := ltI hlt
      clear hy hv ha hb hm hml HS HT ht2 hu2 h1 hn hp hp2 hd hc he hcl hel yl vl
      go_wp2
      go_quiet ((first | (go_at_call 20; first | (with_reducible exact Ans.quiet HQ1) | (with_reducible exact Ans.quiet0 HQ1)) | (go_at_call 22; first | (with_reducible exact Ans.quiet HA1) | (with_reducible exact Ans.quiet0 HA1))))
      go_wp2
      go_quiet ((first | (go_at_call 20; first | (with_reducible exact Ans.quiet HQ2) | (with_reducible exact Ans.quiet0 HQ2)) | (go_at_call 22; first | (with_reducible exact Ans.quiet HA2) | (with_reducible exact Ans.quiet0 HA2))))
      clear r1 r1' r2 r2' r3 r3' q1
      go_wp2
      go_roundw
      case rel => exact ⟨t2, u2, i + 1, _, rfl, rfl, by go_num, by omega, ht2l, hu2l, HS2, HT2, rfl⟩
      case measure => simp [intOf]; omega
    · obtain rfl : i = n := by omega
      obtain ⟨h1, hn, hp, hp2⟩ := HN.out
      have HQ := HMU'.out t i (by omega) (by omega)
      have e0 : t * i % p = u := by rw [HS.out, HT.out]; exact HE'.out.symm
      rw [e0] at HQ
      have r5 : IntKind.u64.wrap (i : Int) = (i : Int) := wrU (Nat.le_trans hn (by decide))
      have e1 : ((u : Int) == (u : Int)) = true := by simp
      clear h1 hn hp hp2 HS HT
      go_wp2_with (go_at_call 20; with_reducible refine Ans.use HQ _ fun n9 => ?_)
      go_ret
      exact ⟨by first | rfl | simp, bb HB4.out (by first | exact below_drewN _ _ | exact bb (below_drewN _ _) (below_drewN _ _))⟩
theorem pairs_any (W : World) (kind z : Int) (hz : z < 9223372036854775808) (q : Nat) (hq : q < 18446744073709551616) (A : Option Addr) (C : Nat) (es : List En) (hE : EntsAt W A C es) (hfs : ∀ x ∈ es, x.fs.length * 16 ≤ 140737488355328) (B : Option Addr) (D : Nat) (xs : List Nat) (hX : UAt W B D xs) (E : Option Addr) (G : Nat) (ys : List Nat) (hY : UAt W E G ys) :
    AnsB W 9 #[srcV kind z (q : Int) A es.length C, .slice B xs.length D, .slice E ys.length G] (.bool true) := by
  rcases fit_any W kind z hz q hq A C es hE hfs B D xs hX with HM | ⟨x, hF, h1, h64, hd, hg, HM⟩
  · exact pairs_none W kind z q A _ C B _ D E _ G hX.len hY.len HM
  · obtain ⟨h3, hodd, hlt⟩ := hF.num
    by_cases hl : ys.length = xs.length
    · have HG : ∀ w, Below W.heap.size W w → AnsW w 15 #[.int .u64 (x.p : Int), .slice E ys.length G] (.bool (goodB x.p ys)) := fun w hw => dgood_any w x.p E G ys (hY.below hw)
      rw [hl] at HG ⊢
      cases hg2 : goodB x.p ys
      · rw [hg2] at HG
        exact pairs_bad W kind z q A _ C B _ D E G hX.len x.p x HM HG
      · rw [hg2] at HG
        have hgy := goodB_iff.1 hg2
        refine pairs_yes W kind z q A _ C B _ D E G xs ys (dT x false xs) (dT x false ys) hX hY ⟨h1, h64⟩ rfl hl (dT_len _ _ _) (by rw [dT_len, hl]) (fun y hy => by have := dT_lt hF false xs y hy; omega) (fun y hy => by have := dT_lt hF false ys y hy; omega) x.p (by omega) hlt x HM HG
          (fun w b B D F U => run_yes F hF U h1 (by omega) hd hg false) (fun w b B D F U => ?_) (fun a c ha hc => rmul_any a c x.p ha hc (by omega) (by omega)) (fun t y ht hy => radd_any t y x.p (by omega) (by omega) (by omega) (by omega)) ?_
        · have := run_yes F hF U (by omega) (by omega) (by rw [hl]; exact hd) hgy false
          rw [hl] at this
          exact this
        · rw [Nat.mod_mul_mod, ← dV_pairs hF h1 hd hl]
          congr 1
          refine sN_ext fun i hi => ?_
          have hm := Nat.mod_lt (xs.length - i) (show 0 < xs.length by omega)
          rw [dT_at hi, dT_at (by rw [hl]; exact hm)]
    · exact pairs_len W kind z q A _ C B _ D E _ G hX.len hY.len x.p x (by simp only [bne_iff_ne, ne_eq]; omega) hl HM
end Go.Proofs.YtphpllachnhfbaaGreat

/-
  The statement DftTwice: true, of all sources and lists.
-/
import Derived.Test.YtphpllachnhfbaaGreatDfA
import Derived.Test.YtphpllachnhfbaaGreatDfL2
namespace Go.Proofs.YtphpllachnhfbaaGreat
set_option linter.unusedVariables false
open Go.RowKit

theorem subW {n j : Nat} (h : j < n) (hn : n ≤ 64) : wrap64 ((n : Int) - (j : Int)) = ((n - j : Nat) : Int) := by rw [← Int.ofNat_sub (Nat.le_of_lt h)]; exact wrN (Nat.le_trans (Nat.sub_le _ _) (Nat.le_trans hn (by decide)))
theorem subI {n j : Nat} (h : j < n) (hn : n ≤ 64) : IntKind.i64.wrap ((n : Int) - (j : Int)) = ((n - j : Nat) : Int) := by rw [← Int.ofNat_sub (Nat.le_of_lt h)]; exact wrI (Nat.le_trans (Nat.sub_le _ _) (Nat.le_trans hn (by decide)))
set_option maxRecDepth 100000 in
set_option maxHeartbeats 4000000 in
theorem twice_none (W : World) (kind z q : Int) (A : Option Addr) (L C : Nat) (B : Option Addr) (n D : Nat) (hlen : (n : Int) ≤ 9223372036854775807) (HM : FitN W (srcV kind z q A L C) (.slice B n D)) : AnsB W 8 #[srcV kind z q A L C, .slice B n D] (.bool true) := by
  intro w hw
  obtain ⟨t0, t1, t2, t3⟩ := four_cells w (.int .i64 kind) (.int .i64 z) (.int .u64 q) (.slice A L C) 25
  obtain ⟨V, hV⟩ : ∃ V, w.alloc (.cells #[.int .i64 kind, .int .i64 z, .int .u64 q, .slice A L C] 25) = V := ⟨_, rfl⟩
  have hBV : Below w.heap.size w V := hV ▸ below_alloc _ _
  obtain ⟨bo, hbo⟩ : ∃ bo, w.heap.size = bo := ⟨_, rfl⟩
  have hVs : bo < V.heap.size := by rw [← hV, ← hbo]; simp
  rw [hV, hbo] at t0 t1 t2 t3
  have hWV := bb hw hBV
  go_enter Tryz.func8, Tryz.ntmps8
  go_wp2_with (first
    | (go_at_call 10; with_reducible refine AnsM.use alive11 fun w1 hb1 => ?_; have s0 := keep_cell hb1 hVs t0; have s1 := keep_cell hb1 hVs t1; have s2 := keep_cell hb1 hVs t2; have s3 := keep_cell hb1 hVs t3; have hW1 := bb hWV hb1)
    | (go_at_call 21; with_reducible refine FitN.use HM hW1 fun fa fp w2 hb2 => ?_))
  go_ret
  exact ⟨rfl, bb hBV (bb hb1 hb2)⟩
set_option maxRecDepth 100000 in
set_option maxHeartbeats 4000000 in
theorem twice_yes (W : World) (kind z q : Int) (A : Option Addr) (L C : Nat) (B : Option Addr) (n D : Nat) (xs ys zs : List Nat) (hX : UAt W B D xs) (hN : 1 ≤ n ∧ n ≤ 64) (hxl : xs.length = n) (hyl : ys.length = n) (hzl : zs.length = n) (hys : ∀ y ∈ ys, y < 18446744073709551616) (hzs : ∀ y ∈ zs, y < 18446744073709551616) (p : Nat) (hp : 1 ≤ p) (x : En) (HM : FitY W (srcV kind z q A L C) (.slice B n D) (p : Int) x)
    (H1 : (∀ (w : World) (b : Nat) (B : Option Addr) (D : Nat), FieldAt w b x → UAt w B D xs → OwnT w 12 #[pt b, .slice B n D, .bool false] ys))
    (H2 : (∀ (w : World) (b : Nat) (B : Option Addr) (D : Nat), FieldAt w b x → UAt w B D ys → OwnT w 12 #[pt b, .slice B n D, .bool false] zs))
    (HE : ys[0]? = some (sN (atL xs) n % p))
    (HMU : ∀ i y v : Nat, xs[i]? = some y → zs[(n - i) % n]? = some v → Ans 20 #[.int .u64 (y : Int), .int .u64 (n : Int), .int .u64 (p : Int)] (.int .u64 (v : Int)))
    (HAD : ∀ t y : Nat, t < p → y ∈ xs → Ans 22 #[.int .u64 (t : Int), .int .u64 (y : Int), .int .u64 (p : Int)] (.int .u64 (((t + y) % p : Nat) : Int))) : AnsB W 8 #[srcV kind z q A L C, .slice B n D] (.bool true) := by
  intro w hw
  obtain ⟨t0, t1, t2, t3⟩ := four_cells w (.int .i64 kind) (.int .i64 z) (.int .u64 q) (.slice A L C) 25
  obtain ⟨V, hV⟩ : ∃ V, w.alloc (.cells #[.int .i64 kind, .int .i64 z, .int .u64 q, .slice A L C] 25) = V := ⟨_, rfl⟩
  have hBV : Below w.heap.size w V := hV ▸ below_alloc _ _
  obtain ⟨bo, hbo⟩ : ∃ bo, w.heap.size = bo := ⟨_, rfl⟩
  have hVs : bo < V.heap.size := by rw [← hV, ← hbo]; simp
  rw [hV, hbo] at t0 t1 t2 t3
  have hWV := bb hw hBV
  have HN : Hid (1 ≤ n ∧ n ≤ 64 ∧ 1 ≤ p) := ⟨hN.1, hN.2, hp⟩
  have HXL : Hid (xs.length = n) := hxl
  have HYL : Hid (ys.length = n) := hyl
  have HZL : Hid (zs.length = n) := hzl
  have HSS : Hid ((∀ y ∈ ys, y < 18446744073709551616) ∧ (∀ y ∈ zs, y < 18446744073709551616)) := ⟨hys, hzs⟩
  have HR' : Hid ((∀ (w : World) (b : Nat) (B : Option Addr) (D : Nat), FieldAt w b x → UAt w B D xs → OwnT w 12 #[pt b, .slice B n D, .bool false] ys) ∧ (∀ (w : World) (b : Nat) (B : Option Addr) (D : Nat), FieldAt w b x → UAt w B D ys → OwnT w 12 #[pt b, .slice B n D, .bool false] zs)) := ⟨H1, H2⟩
  have HE' : Hid (ys[0]? = some (sN (atL xs) n % p)) := HE
  have HMU' : Hid (∀ i y v : Nat, xs[i]? = some y → zs[(n - i) % n]? = some v → Ans 20 #[.int .u64 (y : Int), .int .u64 (n : Int), .int .u64 (p : Int)] (.int .u64 (v : Int))) := HMU
  have HAD' : Hid (∀ t y : Nat, t < p → y ∈ xs → Ans 22 #[.int .u64 (t : Int), .int .u64 (y : Int), .int .u64 (p : Int)] (.int .u64 (((t + y) % p : Nat) : Int))) := HAD
  have hlen : (n : Int) ≤ 9223372036854775807 := by omega
  have hn0 : ¬ (n : Int) = 0 := by omega
  have hn1 : ¬ n = 0 := by omega
  have hnp : (0 : Int) < (n : Int) := by omega
  have h0p : 0 < p := hp
  clear hN hxl hyl hzl hys hzs H1 H2 HE HMU HAD hp
  go_enter Tryz.func8, Tryz.ntmps8
  go_wp2_with (first
    | (go_at_call 10; with_reducible refine AnsM.use alive11 fun w1 hb1 => ?_; have s0 := keep_cell hb1 hVs t0; have s1 := keep_cell hb1 hVs t1; have s2 := keep_cell hb1 hVs t2; have s3 := keep_cell hb1 hVs t3; have hW1 := bb hWV hb1)
    | (go_at_call 21; with_reducible refine FitY.use HM hW1 fun fb w2 hF hb2 => ?_; have hW2 := bb hW1 hb2; have hX2 := hX.below hW2; have HR1 := HR'.out.1 w2 fb B D hF hX2)
    | (go_at_call 12; with_reducible refine OwnT.useG HR2 HZL.out HN.out.1 (Below.refl _ _) fun gb C4 w4 hO4 hb4 => ?_)
    | (go_at_call 12; with_reducible refine OwnT.useG HR1 HYL.out HN.out.1 (Below.refl _ _) fun ga C3 w3 hO3 hb3 => ?_; have HR2 := HR'.out.2 w3 fb _ _ (hF.below hb3) (hO3.words HSS.out.1)))
  have HUX : Hid (UAt w4 B D xs) := (hX2.below hb3).below hb4
  have HUA : Hid (UAt w4 (some ⟨ga, 0, none⟩) C3 ys) := (hO3.words HSS.out.1).below hb4
  have HUB : Hid (UAt w4 (some ⟨gb, 0, none⟩) C4 zs) := hO4.words HSS.out.2
  have HB4 : Hid (Below w.heap.size w w4) := bb hBV (bb hb1 (bb hb2 (bb hb3 hb4)))
  have ca := HUA.out.at0 HE'.out
  clear hO3 hO4 hb4 hb3 hb2 hb1 HR1 HR2 hX2 hF hX hBV hW2 hW1 hWV hw t0 t1 t2 t3 s0 s1 s2 s3 HM
  go_loopw [13, 61] (fun s v wr => ∃ t i k : Nat, s = .int .u64 (t : Int) ∧ v = .int .i64 (i : Int) ∧ i ≤ n ∧ t < p ∧ Hid (t = sN (atL xs) i % p) ∧ wr = w4.drewN k) (fun _ v _ => n - (intOf v).toNat)
  case atStart => exact ⟨0, 0, 0, rfl, rfl, by omega, h0p, by unfold Hid; rw [sN, Nat.zero_mod], rfl⟩
  case round =>
    obtain ⟨t, i, k, rfl, rfl, hi, ht, HS, rfl⟩ := hrel
    by_cases hlt : i < n
    · obtain ⟨h1, hn, hp⟩ := HN.out
      obtain ⟨y, hy⟩ : ∃ y, xs[i]? = some y := ⟨_, List.getElem?_eq_getElem (by rw [HXL.out]; exact hlt)⟩
      obtain ⟨m, hm⟩ : ∃ m, (n - i) % n = m := ⟨_, rfl⟩
      have hml : m < n := hm ▸ Nat.mod_lt _ (by omega)
      obtain ⟨v, hv⟩ : ∃ v, zs[m]? = some v := ⟨_, List.getElem?_eq_getElem (by rw [HZL.out]; exact hml)⟩
      obtain ⟨b, o, rfl, hb, c0, _⟩ := HUX.out.get i y hy
      have c2 := HUB.out.at0 hv
      have HQ := HMU'.out i y v hy (by rw [hm]; exact hv)
      have HA := HAD'.out t y ht (List.mem_of_getElem? hy)
      obtain ⟨t2, ht2⟩ : ∃ t2, (t + y) % p = t2 := ⟨_, rfl⟩
      rw [ht2] at HA
      have ht2l : t2 < p := ht2 ▸ Nat.mod_lt _ (by omega)
      have HS2 : Hid (t2 = sN (atL xs) (i + 1) % p) := by
        unfold Hid; rw [← ht2, HS.out, sN, Nat.mod_add_mod, atL_of hy]
      have r1 := subW hlt hn
      have r1' := subI hlt hn
      obtain ⟨d, hd⟩ : ∃ d, n - i = d := ⟨_, rfl⟩
      rw [hd] at r1 r1' hm
      have r2 : Int.tmod (d : Int) (n : Int) = (m : Int) := by rw [← hm]; rfl
      have r2' : (d : Int) % (n : Int) = (m : Int) := by rw [← hm]; rfl
      have r3 : wrap64 (m : Int) = (m : Int) := wrL hml (Nat.le_trans hn (by decide))
      have r3' : IntKind.i64.wrap (m : Int) = (m : Int) := wrLI hml (Nat.le_trans hn (by decide))
      have r5 : IntKind.u64.wrap (n : Int) = (n : Int) := wrU (Nat.le_trans hn (by decide))
      have q1 : (m : Int) < (n : Int) := ltI hml
      have q2 : (i : Int) < (n : Int) := ltI hlt
      have e1 : ((v : Int) != (v : Int)) = false := by simp
      clear hy hv hm hml hb HS ht2 h1 hn hp hd
      go_wp2_with (go_at_call 22; with_reducible refine Ans.use HA _ fun n1 => ?_)
      go_quiet ((go_at_call 20; first | (with_reducible exact Ans.quiet HQ) | (with_reducible exact Ans.quiet0 HQ)))
      clear r1 r1' r2 r2' r3 r3' r5 q1
      go_wp2
      go_roundw
      case rel => exact ⟨t2, i + 1, _, rfl, by go_num, by omega, ht2l, HS2, rfl⟩
      case measure => simp [intOf]; omega
    · obtain rfl : i = n := by omega
      have e1 : ((((sN (atL xs) i % p : Nat) : Int)) == (t : Int)) = true := by rw [← HS.out]; simp
      obtain ⟨u, hu⟩ : ∃ u, sN (atL xs) i % p = u := ⟨_, rfl⟩
      have e2 : u = t := by rw [← hu]; exact HS.out.symm
      rw [hu] at ca e1
      subst e2
      clear HS hu
      go_wp2
      go_ret
      exact ⟨by first | rfl | simp, bb HB4.out (below_drewN _ _)⟩
theorem twice_any (W : World) (kind z : Int) (hz : z < 9223372036854775808) (q : Nat) (hq : q < 18446744073709551616) (A : Option Addr) (C : Nat) (es : List En) (hE : EntsAt W A C es) (hfs : ∀ x ∈ es, x.fs.length * 16 ≤ 140737488355328) (B : Option Addr) (D : Nat) (xs : List Nat) (hX : UAt W B D xs) :
    AnsB W 8 #[srcV kind z (q : Int) A es.length C, .slice B xs.length D] (.bool true) := by
  rcases fit_any W kind z hz q hq A C es hE hfs B D xs hX with HM | ⟨x, hF, h1, h64, hd, hg, HM⟩
  · exact twice_none W kind z q A _ C B _ D hX.len HM
  · obtain ⟨h3, hodd, hlt⟩ := hF.num
    have hf := dT_len x false xs
    have hzl : (dT x false (dT x false xs)).length = xs.length := by rw [dT_len, dT_len]
    refine twice_yes W kind z q A _ C B _ D xs (dT x false xs) (dT x false (dT x false xs)) hX ⟨h1, h64⟩ rfl hf hzl (fun y hy => by have := dT_lt hF false xs y hy; omega) (fun y hy => by have := dT_lt hF false _ y hy; omega) x.p (by omega) x HM
      (fun w b B D F U => run_yes F hF U h1 (by omega) hd hg false) (fun w b B D F U => ?_) ?_ (fun i y v hy hv => ?_) (fun t y ht hy => ?_)
    · have := run_yes F hF U (by omega) (by omega) (by rw [hf]; exact hd) (dT_lt hF false xs) false
      rw [hf] at this
      exact this
    · rw [dT_get (by omega), dV_first]
    · have hi := (List.getElem?_eq_some_iff.1 hy).1
      have hm := Nat.mod_lt (xs.length - i) (show 0 < xs.length by omega)
      rw [dT_get (by rw [hf]; exact hm)] at hv
      cases hv
      rw [dV_twice hF h1 hd hi, atL_of hy]
      exact rmul_any y xs.length x.p (hX.small y (List.mem_of_getElem? hy)) (by omega) (by omega) (by omega)
    · have := hg y hy
      exact radd_any t y x.p (by omega) (by omega) (by omega) (by omega)
end Go.Proofs.YtphpllachnhfbaaGreat

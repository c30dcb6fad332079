/-
  The statement DftHelps: true, of all sources, numbers and lists.
-/
import Derived.Test.YtphpllachnhfbaaGreatDfA
import Derived.Test.YtphpllachnhfbaaGreatDfL2
import Derived.Test.YtphpllachnhfbaaGreatZn
namespace Go.Proofs.YtphpllachnhfbaaGreat
set_option linter.unusedVariables false
open Go.RowKit

set_option maxRecDepth 100000 in
set_option maxHeartbeats 4000000 in
theorem helps_long (W : World) (kind z q : Int) (A : Option Addr) (L C : Nat) (n most : Int) (B : Option Addr) (k D : Nat) (hlen : (k : Int) ≤ 9223372036854775807) (h : 100 < (k : Int)) : AnsB W 4 #[srcV kind z q A L C, .int .i64 n, .int .i64 most, .slice B k D] (.bool true) := by
  intro w hw
  obtain ⟨t0, t1, t2, t3⟩ := four_cells w (.int .i64 kind) (.int .i64 z) (.int .u64 q) (.slice A L C) 25
  obtain ⟨V, hV⟩ : ∃ V, w.alloc (.cells #[.int .i64 kind, .int .i64 z, .int .u64 q, .slice A L C] 25) = V := ⟨_, rfl⟩
  have hBV : Below w.heap.size w V := hV ▸ below_alloc _ _
  obtain ⟨bo, hbo⟩ : ∃ bo, w.heap.size = bo := ⟨_, rfl⟩
  have hVs : bo < V.heap.size := by rw [← hV, ← hbo]; simp
  rw [hV, hbo] at t0 t1 t2 t3
  have hWV := bb hw hBV
  go_enter Tryz.func4, Tryz.ntmps4
  go_wp2_with (first
    | (go_at_call 10; with_reducible refine AnsM.use alive11 fun w1 hb1 => ?_; have s0 := keep_cell hb1 hVs t0; have s1 := keep_cell hb1 hVs t1; have s2 := keep_cell hb1 hVs t2; have s3 := keep_cell hb1 hVs t3; have hW1 := bb hWV hb1))
  go_ret
  exact ⟨rfl, bb hBV hb1⟩
set_option maxRecDepth 100000 in
set_option maxHeartbeats 4000000 in
theorem helps_none (W : World) (kind z q : Int) (A : Option Addr) (L C : Nat) (n most : Int) (B : Option Addr) (k D : Nat) (xs : List Nat) (hX : UAt W B D xs) (hxl : xs.length = k) (hk : (k : Int) ≤ 100) (HM : AnsB W 11 #[srcV kind z q A L C] noV)
    (HS : ∀ w, Below W.heap.size W w → OwnR w 19 #[.pointer none, .slice B k D] (xs.map fun _ => 0)) : AnsB W 4 #[srcV kind z q A L C, .int .i64 n, .int .i64 most, .slice B k D] (.bool true) := by
  intro w hw
  obtain ⟨t0, t1, t2, t3⟩ := four_cells w (.int .i64 kind) (.int .i64 z) (.int .u64 q) (.slice A L C) 25
  obtain ⟨V, hV⟩ : ∃ V, w.alloc (.cells #[.int .i64 kind, .int .i64 z, .int .u64 q, .slice A L C] 25) = V := ⟨_, rfl⟩
  have hBV : Below w.heap.size w V := hV ▸ below_alloc _ _
  obtain ⟨bo, hbo⟩ : ∃ bo, w.heap.size = bo := ⟨_, rfl⟩
  have hVs : bo < V.heap.size := by rw [← hV, ← hbo]; simp
  rw [hV, hbo] at t0 t1 t2 t3
  have hWV := bb hw hBV
  have HYL : Hid ((xs.map fun _ => (0 : Nat)).length = k) := by unfold Hid; rw [List.length_map]; exact hxl
  have hlen : (k : Int) ≤ 9223372036854775807 := by omega
  have hkk : ((k : Int) == (k : Int)) = true := by simp
  clear hxl
  go_enter Tryz.func4, Tryz.ntmps4
  go_wp2_with (first
    | (go_at_call 10; with_reducible refine AnsM.use alive11 fun w1 hb1 => ?_; have s0 := keep_cell hb1 hVs t0; have s1 := keep_cell hb1 hVs t1; have s2 := keep_cell hb1 hVs t2; have s3 := keep_cell hb1 hVs t3; have hW1 := bb hWV hb1)
    | (go_at_call 11; with_reducible refine AnsB.use HM hW1 fun w2 hb2 => ?_; have hW2 := bb hW1 hb2; have HC2 := ck_nil w2 n most; have HG2 := good_nil w2 (.slice B k D))
    | (go_at_call 17; with_reducible refine AnsW.use0 HC2 fun n1 => ?_)
    | (go_at_call 18; with_reducible refine AnsW.use HG2 _ fun n2 => ?_)
    | (go_at_call 19; (with_reducible refine OwnR.use (HS w2 hW2) (below_drewN w2 _) fun A3 C3 w3 hO3 hb3 => ?_); rw [HYL.out]))
  go_ret
  exact ⟨by first | rfl | simp, bb hBV (bb hb1 (bb hb2 (bb (below_drewN w2 _) hb3)))⟩
set_option maxRecDepth 100000 in
set_option maxHeartbeats 4000000 in
theorem helps_zero (W : World) (kind z q : Int) (A : Option Addr) (L C : Nat) (n most : Int) (B : Option Addr) (k D : Nat) (xs : List Nat) (hX : UAt W B D xs) (hxl : xs.length = k) (hk : (k : Int) ≤ 100) (p g : Nat) (x : En) (p0 : 2 < p) (p1 : p < 9223372036854775808) (pz : ((p : Int) == 0) = false) (HM : Made W (srcV kind z q A L C) (p : Int) (g : Int) x)
    (c : Int) (gd : Bool) (HC : ∀ (w : World) (b : Nat), FieldAt w b x → AnsW w 17 #[pt b, .int .i64 n, .int .i64 most] (.int .i64 c))
    (HD : Ans 14 #[.int .u64 (p : Int), .int .i64 n, .int .i64 most] (.int .i64 c))
    (HG : ∀ (w : World) (b : Nat), Below W.heap.size W w → FieldAt w b x → AnsW w 18 #[pt b, .slice B k D] (.bool gd))
    (HH : ∀ w, Below W.heap.size W w → AnsW w 15 #[.int .u64 (p : Int), .slice B k D] (.bool gd))
    (ys : List Nat) (hyl : ys.length = k) (hys : ∀ y ∈ ys, y < 18446744073709551616)
    (HS : ∀ (w : World) (b : Nat), Below W.heap.size W w → FieldAt w b x → OwnR w 19 #[pt b, .slice B k D] ys) (hz : k % p = 0) (hy0 : ∀ j y : Nat, ys[j]? = some y → y = 0) : AnsB W 4 #[srcV kind z q A L C, .int .i64 n, .int .i64 most, .slice B k D] (.bool true) := by
  intro w hw
  obtain ⟨t0, t1, t2, t3⟩ := four_cells w (.int .i64 kind) (.int .i64 z) (.int .u64 q) (.slice A L C) 25
  obtain ⟨V, hV⟩ : ∃ V, w.alloc (.cells #[.int .i64 kind, .int .i64 z, .int .u64 q, .slice A L C] 25) = V := ⟨_, rfl⟩
  have hBV : Below w.heap.size w V := hV ▸ below_alloc _ _
  obtain ⟨bo, hbo⟩ : ∃ bo, w.heap.size = bo := ⟨_, rfl⟩
  have hVs : bo < V.heap.size := by rw [← hV, ← hbo]; simp
  rw [hV, hbo] at t0 t1 t2 t3
  have hWV := bb hw hBV
  have HYL : Hid (ys.length = k) := hyl
  have HXL : Hid (xs.length = k) := hxl
  have HYS : Hid (∀ y ∈ ys, y < 18446744073709551616) := hys
  have hlen : (k : Int) ≤ 9223372036854775807 := by omega
  have hkk : ((k : Int) != (k : Int)) = false := by simp
  have hcc : (c != c) = false := by simp
  have hgg : (gd != gd) = false := by simp
  have hK : Hid (k ≤ 100 ∧ 2 < p ∧ p < 9223372036854775808) := ⟨by omega, by omega, by omega⟩
  have hku : IntKind.u64.wrap (k : Int) = (k : Int) := wrU (by omega)
  have hp0 : ¬ (p : Int) = 0 := by omega
  have hp1 : ¬ p = 0 := by omega
  clear hxl hyl hys
  have hr : (k : Int) % (p : Int) = 0 := by exact_mod_cast hz
  have hr' : Int.tmod (k : Int) (p : Int) = 0 := by show ((k % p : Nat) : Int) = 0; rw [hz]; rfl
  have HY0 : Hid (∀ j y : Nat, ys[j]? = some y → y = 0) := hy0
  clear hz hy0
  go_enter Tryz.func4, Tryz.ntmps4
  go_wp2_with (first
    | (go_at_call 10; with_reducible refine AnsM.use alive11 fun w1 hb1 => ?_; have s0 := keep_cell hb1 hVs t0; have s1 := keep_cell hb1 hVs t1; have s2 := keep_cell hb1 hVs t2; have s3 := keep_cell hb1 hVs t3; have hW1 := bb hWV hb1)
    | (go_at_call 11; with_reducible refine Made.use HM hW1 fun fb w2 hF hb2 => ?_; have hW2 := bb hW1 hb2; have HC2 := HC w2 fb hF; have HD2 := HD.toW w2; have HG2 := HG w2 fb hW2 hF; have HH2 := HH w2 hW2)
    | (go_at_call 17; with_reducible refine AnsW.use0 HC2 fun n1 => ?_)
    | (go_at_call 14; with_reducible refine AnsW.use HD2 _ fun n2 => ?_)
    | (go_at_call 18; with_reducible refine AnsW.use HG2 _ fun n3 => ?_)
    | (go_at_call 15; with_reducible refine AnsW.use HH2 _ fun n4 => ?_)
    | (go_at_call 19; (with_reducible refine OwnR.use (HS w2 fb hW2 hF) (below_drewN w2 _) fun A3 C3 w3 hO3 hb3 => ?_); rw [HYL.out]))
  have HUX : Hid (UAt w3 B D xs) := ((hX.below hW2).below (below_drewN w2 _)).below hb3
  have HUY : Hid (UAt w3 A3 C3 ys) := hO3.words HYS.out
  have HB3 : Hid (Below w.heap.size w w3) := bb hBV (bb hb1 (bb hb2 (bb (below_drewN w2 _) hb3)))
  clear hO3 hb3 hb2 hb1 hF hX hBV hW2 hW1 hWV hw t0 t1 t2 t3 s0 s1 s2 s3 HM HC2 HD2 HG2 HH2
  go_loopw [81] (fun v wr => ∃ j s : Nat, v = .int .i64 (j : Int) ∧ j ≤ k ∧ wr = w3.drewN s) (fun v _ => k - (intOf v).toNat)
  case atStart => exact ⟨0, 0, rfl, by omega, rfl⟩
  case round =>
    obtain ⟨j, s, rfl, hj, rfl⟩ := hrel
    by_cases hlt : j < k
    · obtain ⟨y, hy⟩ : ∃ y, ys[j]? = some y := ⟨_, List.getElem?_eq_getElem (by rw [HYL.out]; exact hlt)⟩
      obtain ⟨b, o, rfl, _, c0, _⟩ := HUY.out.get j y hy
      obtain rfl := HY0.out j y hy
      have q2 : (j : Int) < (k : Int) := ltI hlt
      clear hy
      go_wp2
      go_roundw
      case rel => exact ⟨j + 1, _, by go_num, by omega, rfl⟩
      case measure => simp [intOf]; omega
    · obtain rfl : j = k := by omega
      go_wp2
      go_ret
      exact ⟨rfl, bb HB3.out (below_drewN _ _)⟩
set_option maxRecDepth 100000 in
set_option maxHeartbeats 4000000 in
theorem helps_yes (W : World) (kind z q : Int) (A : Option Addr) (L C : Nat) (n most : Int) (B : Option Addr) (k D : Nat) (xs : List Nat) (hX : UAt W B D xs) (hxl : xs.length = k) (hk : (k : Int) ≤ 100) (p g : Nat) (x : En) (p0 : 2 < p) (p1 : p < 9223372036854775808) (pz : ((p : Int) == 0) = false) (HM : Made W (srcV kind z q A L C) (p : Int) (g : Int) x)
    (c : Int) (gd : Bool) (HC : ∀ (w : World) (b : Nat), FieldAt w b x → AnsW w 17 #[pt b, .int .i64 n, .int .i64 most] (.int .i64 c))
    (HD : Ans 14 #[.int .u64 (p : Int), .int .i64 n, .int .i64 most] (.int .i64 c))
    (HG : ∀ (w : World) (b : Nat), Below W.heap.size W w → FieldAt w b x → AnsW w 18 #[pt b, .slice B k D] (.bool gd))
    (HH : ∀ w, Below W.heap.size W w → AnsW w 15 #[.int .u64 (p : Int), .slice B k D] (.bool gd))
    (ys : List Nat) (hyl : ys.length = k) (hys : ∀ y ∈ ys, y < 18446744073709551616)
    (HS : ∀ (w : World) (b : Nat), Below W.heap.size W w → FieldAt w b x → OwnR w 19 #[pt b, .slice B k D] ys) (r : Nat) (hz : k % p = r) (hr0 : ¬ r = 0) (HQ : ∀ j y a : Nat, ys[j]? = some y → xs[j]? = some a → y < p ∧ Ans 20 #[.int .u64 (y : Int), .int .u64 (k : Int), .int .u64 (p : Int)] (.int .u64 ((a % p : Nat) : Int))) : AnsB W 4 #[srcV kind z q A L C, .int .i64 n, .int .i64 most, .slice B k D] (.bool true) := by
  intro w hw
  obtain ⟨t0, t1, t2, t3⟩ := four_cells w (.int .i64 kind) (.int .i64 z) (.int .u64 q) (.slice A L C) 25
  obtain ⟨V, hV⟩ : ∃ V, w.alloc (.cells #[.int .i64 kind, .int .i64 z, .int .u64 q, .slice A L C] 25) = V := ⟨_, rfl⟩
  have hBV : Below w.heap.size w V := hV ▸ below_alloc _ _
  obtain ⟨bo, hbo⟩ : ∃ bo, w.heap.size = bo := ⟨_, rfl⟩
  have hVs : bo < V.heap.size := by rw [← hV, ← hbo]; simp
  rw [hV, hbo] at t0 t1 t2 t3
  have hWV := bb hw hBV
  have HYL : Hid (ys.length = k) := hyl
  have HXL : Hid (xs.length = k) := hxl
  have HYS : Hid (∀ y ∈ ys, y < 18446744073709551616) := hys
  have hlen : (k : Int) ≤ 9223372036854775807 := by omega
  have hkk : ((k : Int) != (k : Int)) = false := by simp
  have hcc : (c != c) = false := by simp
  have hgg : (gd != gd) = false := by simp
  have hK : Hid (k ≤ 100 ∧ 2 < p ∧ p < 9223372036854775808) := ⟨by omega, by omega, by omega⟩
  have hku : IntKind.u64.wrap (k : Int) = (k : Int) := wrU (by omega)
  have hp0 : ¬ (p : Int) = 0 := by omega
  have hp1 : ¬ p = 0 := by omega
  clear hxl hyl hys
  have hr : (k : Int) % (p : Int) = (r : Int) := by rw [← hz]; rfl
  have hr' : Int.tmod (k : Int) (p : Int) = (r : Int) := by rw [← hz]; rfl
  have hrb : ((r : Int) == 0) = false := by simp; omega
  have hrn : ¬ (r : Int) = 0 := by omega
  have HQ' : Hid (∀ j y a : Nat, ys[j]? = some y → xs[j]? = some a → y < p ∧ Ans 20 #[.int .u64 (y : Int), .int .u64 (k : Int), .int .u64 (p : Int)] (.int .u64 ((a % p : Nat) : Int))) := HQ
  clear hz HQ
  go_enter Tryz.func4, Tryz.ntmps4
  go_wp2_with (first
    | (go_at_call 10; with_reducible refine AnsM.use alive11 fun w1 hb1 => ?_; have s0 := keep_cell hb1 hVs t0; have s1 := keep_cell hb1 hVs t1; have s2 := keep_cell hb1 hVs t2; have s3 := keep_cell hb1 hVs t3; have hW1 := bb hWV hb1)
    | (go_at_call 11; with_reducible refine Made.use HM hW1 fun fb w2 hF hb2 => ?_; have hW2 := bb hW1 hb2; have HC2 := HC w2 fb hF; have HD2 := HD.toW w2; have HG2 := HG w2 fb hW2 hF; have HH2 := HH w2 hW2)
    | (go_at_call 17; with_reducible refine AnsW.use0 HC2 fun n1 => ?_)
    | (go_at_call 14; with_reducible refine AnsW.use HD2 _ fun n2 => ?_)
    | (go_at_call 18; with_reducible refine AnsW.use HG2 _ fun n3 => ?_)
    | (go_at_call 15; with_reducible refine AnsW.use HH2 _ fun n4 => ?_)
    | (go_at_call 19; (with_reducible refine OwnR.use (HS w2 fb hW2 hF) (below_drewN w2 _) fun A3 C3 w3 hO3 hb3 => ?_); rw [HYL.out]))
  have HUX : Hid (UAt w3 B D xs) := ((hX.below hW2).below (below_drewN w2 _)).below hb3
  have HUY : Hid (UAt w3 A3 C3 ys) := hO3.words HYS.out
  have HB3 : Hid (Below w.heap.size w w3) := bb hBV (bb hb1 (bb hb2 (bb (below_drewN w2 _) hb3)))
  clear hO3 hb3 hb2 hb1 hF hX hBV hW2 hW1 hWV hw t0 t1 t2 t3 s0 s1 s2 s3 HM HC2 HD2 HG2 HH2
  go_loopw [81] (fun v wr => ∃ j s : Nat, v = .int .i64 (j : Int) ∧ j ≤ k ∧ wr = w3.drewN s) (fun v _ => k - (intOf v).toNat)
  case atStart => exact ⟨0, 0, rfl, by omega, rfl⟩
  case round =>
    obtain ⟨j, s, rfl, hj, rfl⟩ := hrel
    by_cases hlt : j < k
    · obtain ⟨y, hy⟩ : ∃ y, ys[j]? = some y := ⟨_, List.getElem?_eq_getElem (by rw [HYL.out]; exact hlt)⟩
      obtain ⟨a, ha⟩ : ∃ a, xs[j]? = some a := ⟨_, List.getElem?_eq_getElem (by rw [HXL.out]; exact hlt)⟩
      obtain ⟨b, o, rfl, _, c0, _⟩ := HUY.out.get j y hy
      obtain ⟨b2, o2, rfl, _, c2, al⟩ := HUX.out.get j a ha
      obtain ⟨hyp, HQ⟩ := HQ'.out j y a hy ha
      obtain ⟨t, ht⟩ : ∃ t, a % p = t := ⟨_, rfl⟩
      rw [ht] at HQ
      have g1 : (a : Int) % (p : Int) = (t : Int) := by rw [← ht]; rfl
      have g1' : Int.tmod (a : Int) (p : Int) = (t : Int) := by rw [← ht]; rfl
      have e1 : ((t : Int) != (t : Int)) = false := by simp
      have e2 : decide ((p : Int) ≤ (y : Int)) = false := decide_eq_false (by omega)
      have e2' : decide (p ≤ y) = false := decide_eq_false (by omega)
      have q2 : (j : Int) < (k : Int) := ltI hlt
      clear hy ha ht al
      go_wp2
      go_quiet ((go_at_call 20; first | (with_reducible exact Ans.quiet HQ) | (with_reducible exact Ans.quiet0 HQ)))
      clear g1 g1' e2 e2'
      go_wp2
      go_roundw
      case rel => exact ⟨j + 1, _, by go_num, by omega, rfl⟩
      case measure => simp [intOf]; omega
    · obtain rfl : j = k := by omega
      go_wp2
      go_ret
      exact ⟨rfl, bb HB3.out (below_drewN _ _)⟩
theorem helps_any (W : World) (kind z : Int) (hz : z < 9223372036854775808) (q : Nat) (hq : q < 18446744073709551616) (A : Option Addr) (C : Nat) (es : List En) (hE : EntsAt W A C es) (hfs : ∀ x ∈ es, x.fs.length * 16 ≤ 140737488355328) (n : Int) (hn : n < 9223372036854775808) (most : Int) (hm : most < 9223372036854775808) (B : Option Addr) (D : Nat) (xs : List Nat) (hX : UAt W B D xs) :
    AnsB W 4 #[srcV kind z (q : Int) A es.length C, .int .i64 n, .int .i64 most, .slice B xs.length D] (.bool true) := by
  have hlen := hX.len
  by_cases hl : 100 < (xs.length : Int)
  · exact helps_long W kind z q A _ C n most B _ D hlen hl
  · rcases made_any W kind z hz q hq A C es hE hfs with HM | ⟨x, hF, HM⟩
    · exact helps_none W kind z q A _ C n most B _ D xs hX rfl (by omega) HM fun w hw => scale_walk w none B D xs (fun _ => 0) 0 0 (by omega) (hX.below hw) (fun w' _ => (zInv _).toW w') (fun w' _ => (zLift 0).toW w') (fun w' _ c _ => (zTimes 0 c).toW w')
    · obtain ⟨h3, hodd, hlt⟩ := hF.num
      have pz : ((x.p : Int) == 0) = false := by simp; omega
      have HC : ∀ (w : World) (b : Nat), FieldAt w b x → AnsW w 17 #[pt b, .int .i64 n, .int .i64 most] (.int .i64 (ckD x.p n most)) := fun w b F => dftck_any F n most hn
      have HD := dcheck_any x.p (by omega) (by omega) n most hn
      have HG : ∀ (w : World) (b : Nat), Below W.heap.size W w → FieldAt w b x → AnsW w 18 #[pt b, .slice B xs.length D] (.bool (goodB x.p xs)) := fun w b hw F => dftgood_any F (hX.below hw)
      have HH : ∀ w, Below W.heap.size W w → AnsW w 15 #[.int .u64 (x.p : Int), .slice B xs.length D] (.bool (goodB x.p xs)) := fun w hw => dgood_any w x.p B D xs (hX.below hw)
      obtain ⟨v, hv, HI⟩ := fInv_any hF.prm hlt xs.length (by omega)
      have hvl := hv.lt
      have HS : ∀ (w : World) (b : Nat), Below W.heap.size W w → FieldAt w b x → OwnR w 19 #[pt b, .slice B xs.length D] (xs.map fun y => v * y % x.p) := fun w b hw F =>
        scale_walk w _ B D xs (fun y => v * y % x.p) v (up v x.p : Nat) (by omega) (hX.below hw) (fun w' hw' => HI w' b (F.below hw')) (fun w' hw' => fLift_any (F.below hw') v (by omega)) (fun w' hw' c hc => fTimes_lift (F.below hw') v c (by omega) (hX.small c hc))
      have hyl : (xs.map fun y => v * y % x.p).length = xs.length := by simp
      have hyp : ∀ y ∈ (xs.map fun y => v * y % x.p), y < x.p := fun y hy => by
        obtain ⟨c, _, rfl⟩ := List.mem_map.1 hy
        exact Nat.mod_lt _ (by omega)
      have hys : ∀ y ∈ (xs.map fun y => v * y % x.p), y < 18446744073709551616 := fun y hy => by have := hyp y hy; omega
      have hget : ∀ j y a : Nat, (xs.map fun y => v * y % x.p)[j]? = some y → xs[j]? = some a → y = v * a % x.p := fun j y a hy ha => by
        rw [List.getElem?_map, ha] at hy
        simpa using hy.symm
      by_cases hz0 : xs.length % x.p = 0
      · refine helps_zero W kind z q A _ C n most B _ D xs hX rfl (by omega) x.p x.g x (by omega) hlt pz HM _ _ HC HD HG HH _ hyl hys HS hz0 fun j y hy => ?_
        rw [List.getElem?_map] at hy
        cases ha : xs[j]? with
        | none => rw [ha] at hy; cases hy
        | some a => rw [ha] at hy; simp only [Option.map_some, Option.some.injEq] at hy; rw [← hy, hv.no hz0, Nat.zero_mul, Nat.zero_mod]
      · refine helps_yes W kind z q A _ C n most B _ D xs hX rfl (by omega) x.p x.g x (by omega) hlt pz HM _ _ HC HD HG HH _ hyl hys HS _ rfl hz0 fun j y a hy ha => ?_
        have hyl := hyp y (List.mem_of_getElem? hy)
        refine ⟨hyl, ?_⟩
        have e := hget j y a hy ha
        refine ans_int (rmul_any y xs.length x.p (by omega) (by omega) (by omega) (by omega)) ?_
        rw [e, Nat.mod_mul_mod, Nat.mul_right_comm, Nat.mul_comm v, Nat.mul_mod, hv.yes hz0, Nat.one_mul, Nat.mod_mod]
end Go.Proofs.YtphpllachnhfbaaGreat

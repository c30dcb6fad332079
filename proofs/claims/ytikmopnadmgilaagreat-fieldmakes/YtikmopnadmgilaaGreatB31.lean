/-
  The statement FieldMakes: there is no field.
-/
import Derived.Test.YtikmopnadmgilaaGreatB30
import Derived.Deep.DeepCutAuto
namespace Go.Proofs.YtikmopnadmgilaaGreat
set_option linter.unusedVariables false
open Go.RowKit

theorem ans_of {f : FuncId} {args : Array Value} {v : Value} (h : ∀ w, AnsW w f args v) : Ans f args v := fun w => (h w).use0 fun j => ⟨rfl, j, rfl⟩
theorem zP : Ans 16 #[.pointer none] (.int .u64 0) := ans_of fun w => fP_walk w _ _ _ (reck_nil w) (nil_modulus w)
theorem zG : Ans 17 #[.pointer none] (.int .u64 0) := ans_of fun w => fG_nil w
theorem zAdd (x y : Int) : Ans 22 #[.pointer none, .int .u64 x, .int .u64 y] (.int .u64 0) := ans_of fun w => fAdd_walk w _ _ _ _ _ (reck_nil w) (nil_add x y w)
theorem zSub (x y : Int) : Ans 23 #[.pointer none, .int .u64 x, .int .u64 y] (.int .u64 0) := ans_of fun w => fSub_walk w _ _ _ _ _ (reck_nil w) (nil_sub x y w)
theorem zNeg (x : Int) : Ans 24 #[.pointer none, .int .u64 x] (.int .u64 0) := ans_of fun w => fNeg_walk w _ _ _ _ (reck_nil w) (nil_neg x w)
theorem zLift (x : Int) : Ans 28 #[.pointer none, .int .u64 x] (.int .u64 0) := ans_of fun w => fLift_walk w _ _ _ _ (reck_nil w) (nil_in x w)
theorem zTimes (x y : Int) : Ans 29 #[.pointer none, .int .u64 x, .int .u64 y] (.int .u64 0) := ans_of fun w => fTimes_walk w _ _ _ _ _ (reck_nil w) (nil_mul x y w)
theorem zMul (x y : Int) : Ans 25 #[.pointer none, .int .u64 x, .int .u64 y] (.int .u64 0) := ans_of fun w => fMul_walk w _ x y 0 0 ((zLift x).toW w) ((zTimes 0 y).toW w)
theorem zPow (x y : Int) : Ans 26 #[.pointer none, .int .u64 x, .int .u64 y] (.int .u64 0) := ans_of fun w => fPow_walk w _ _ x y 0 0 0 (reck_nil w) (nil_in x w) (nil_pow 0 y w) (nil_out 0 w)
theorem zInv (x : Int) : Ans 27 #[.pointer none, .int .u64 x] (.int .u64 0) := ans_of fun w => fInv_walk w _ x 0 0 false (zP.toW w) (Md.inv_small x 0 (by omega) (by omega))
theorem zGood (x : Int) (h : 0 ≤ x) : Ans 18 #[.pointer none, .int .u64 x] (.bool false) := ans_of fun w => (fGood_walk w _ x 0 (zP.toW w)).to (by rw [decide_eq_false (by omega)])
theorem zDiv (n : Int) : Ans 21 #[.pointer none, .int .i64 n] (.bool false) := ans_of fun w => fDiv_nil w n
theorem zRoot (n : Int) : Ans 19 #[.pointer none, .int .i64 n] (.tuple #[.int .u64 0, .int .i64 2]) := ans_of fun w => fRoot_nil w n
theorem zFac : Ans 20 #[.pointer none] (.slice none 0 0) := by
  intro w
  go_enter Tryz.func20, Tryz.ntmps20
  go_wp2
  go_ret
  exact ⟨rfl, 0, rfl⟩
set_option maxRecDepth 100000 in
set_option maxHeartbeats 1000000 in
theorem makes_long (W : World) (kind z q : Int) (A : Option Addr) (L C : Nat) (n x : Int) (hL : 40 < (L : Int)) (hm : (L : Int) ≤ 9223372036854775807) : AnsB W 3 #[srcV kind z q A L C, .int .i64 n, .int .u64 x] (.bool true) := by
  intro w hw
  obtain ⟨t0, t1, t2, t3⟩ := four_cells w (.int .i64 kind) (.int .i64 z) (.int .u64 q) (.slice A L C) 25
  obtain ⟨V, hV⟩ : ∃ V, w.alloc (.cells #[.int .i64 kind, .int .i64 z, .int .u64 q, .slice A L C] 25) = V := ⟨_, rfl⟩
  have hBV : Below w.heap.size w V := hV ▸ below_alloc _ _
  obtain ⟨bo, hbo⟩ : ∃ bo, w.heap.size = bo := ⟨_, rfl⟩
  have hVs : bo < V.heap.size := by rw [← hV, ← hbo]; simp
  rw [hV, hbo] at t0 t1 t2 t3
  have hWV := bb hw hBV
  go_enter Tryz.func3, Tryz.ntmps3
  go_wp2_with (first | (go_at_call 10; with_reducible refine AnsM.use alive6 fun w1 hb1 => ?_; have s0 := keep_cell hb1 hVs t0; have s1 := keep_cell hb1 hVs t1; have s2 := keep_cell hb1 hVs t2; have s3 := keep_cell hb1 hVs t3; have hW1 := bb hWV hb1))
  go_ret
  exact ⟨rfl, bb hBV hb1⟩
set_option maxRecDepth 100000 in
set_option maxHeartbeats 4000000 in
theorem makes_small_no (W : World) (z q : Int) (A : Option Addr) (C : Nat) (es : List En) (hE : EntsAt W A C es) (h40 : es.length ≤ 40) (n x e : Int) (x0 : 0 ≤ x) (he : (e != 0) = true) (HO : AnsB W 11 #[srcV 0 z q A es.length C] (ofV 0 0 e))
    (HX : AnsB W 12 #[.int .u64 q] (.tuple #[.pointer none, .int .i64 e])) : AnsB W 3 #[srcV 0 z q A es.length C, .int .i64 n, .int .u64 x] (.bool true) := by
  intro w hw
  obtain ⟨L, hL⟩ : ∃ L, es.length = L := ⟨_, rfl⟩
  have HL : Hid (es.length = L) := hL
  rw [hL] at h40 HO ⊢
  clear hL
  obtain ⟨t0, t1, t2, t3⟩ := four_cells w (.int .i64 0) (.int .i64 z) (.int .u64 q) (.slice A L C) 25
  obtain ⟨V, hV⟩ : ∃ V, w.alloc (.cells #[.int .i64 0, .int .i64 z, .int .u64 q, .slice A L C] 25) = V := ⟨_, rfl⟩
  have hBV : Below w.heap.size w V := hV ▸ below_alloc _ _
  obtain ⟨bo, hbo⟩ : ∃ bo, w.heap.size = bo := ⟨_, rfl⟩
  have hVs : bo < V.heap.size := by rw [← hV, ← hbo]; simp
  rw [hV, hbo] at t0 t1 t2 t3
  have hWV := bb hw hBV
  have hx : decide (x < 0) = false := decide_eq_false (by omega)
  go_enter Tryz.func3, Tryz.ntmps3
  go_wp2_with (first | (go_at_call 10; with_reducible refine AnsM.use alive6 fun w1 hb1 => ?_; have s0 := keep_cell hb1 hVs t0; have s1 := keep_cell hb1 hVs t1; have s2 := keep_cell hb1 hVs t2; have s3 := keep_cell hb1 hVs t3; have hW1 := bb hWV hb1))
  go_loopw [29] (fun v wr => ∃ k : Nat, v = .int .i64 (k : Int) ∧ k ≤ L ∧ Hid (∀ j y, j < k → es[j]? = some y → ¬ 20 < y.fs.length) ∧ Below V.heap.size V wr) (fun v _ => L - (intOf v).toNat)
  case atStart => exact ⟨0, rfl, by omega, fun j y hj => absurd hj (by omega), hb1⟩
  case round =>
    clear hb1 s0 s1 s2 s3 hW1
    obtain ⟨k, rfl, hk, HI, hB⟩ := hrel
    by_cases hlt : k < L
    · have hlt' : k < es.length := by rw [HL.out]; exact hlt
      obtain ⟨y, hy⟩ : ∃ y, es[k]? = some y := ⟨_, List.getElem?_eq_getElem hlt'⟩
      obtain ⟨b, o, A', C', rfl, hb, c0, c1, c2, hP, hp, hg⟩ := hE.get k y hy
      have hBW : Below W.heap.size W wr := bb hWV hB
      have c0' := keep_cell hBW hb c0
      have c1' := keep_cell hBW hb c1
      have c2' := keep_cell hBW hb c2
      have hfm : y.fs.length ≤ 9223372036854775807 := by have := hP.cap; have := hP.max; unfold maxLen at this; omega
      obtain ⟨pp, hp'⟩ : ∃ p : Int, (y.p : Int) = p := ⟨_, rfl⟩
      obtain ⟨gg, hg'⟩ : ∃ g : Int, (y.g : Int) = g := ⟨_, rfl⟩
      obtain ⟨fl, hfl⟩ : ∃ fl : Nat, y.fs.length = fl := ⟨_, rfl⟩
      rw [hp'] at c0'
      rw [hg'] at c1'
      rw [hfl] at c2' hfm
      by_cases ht : 20 < fl
      · clear c0 c1 c2 hp' hg' hfl hy HI hP hlt'
        go_wp2
        go_ret
        exact ⟨rfl, bb hBV (bb hB (below_alloc _ _))⟩
      · have HS' : Hid (∀ j y, j < k + 1 → es[j]? = some y → ¬ 20 < y.fs.length) := by
          intro j y' hj hy'
          by_cases h : j < k
          · exact HI.out j y' h hy'
          · obtain rfl : j = k := by omega
            rw [hy] at hy'; cases hy'; omega
        clear c0 c1 c2 hp' hg' hfl hy HI hP hlt'
        go_wp2
        go_roundw
        case rel => exact ⟨k + 1, by go_num, by omega, HS', bb hB (below_alloc _ _)⟩
        case measure => simp [intOf]; omega
    · obtain rfl : k = L := by omega
      clear HI
      have hb1 := hB
      have hW1 := bb hWV hB
      have s0 := keep_cell hb1 hVs t0
      have s1 := keep_cell hb1 hVs t1
      have s2 := keep_cell hb1 hVs t2
      have s3 := keep_cell hb1 hVs t3
      go_wp2_with (first | (go_at_call 11; with_reducible refine AnsB.use HO hW1 fun w3 hb3 => ?_; have u0 := keep_cell (bb hb1 hb3) hVs t0; have u1 := keep_cell (bb hb1 hb3) hVs t1; have u2 := keep_cell (bb hb1 hb3) hVs t2; have u3 := keep_cell (bb hb1 hb3) hVs t3; have hW3 := bb hW1 hb3) | (go_at_call 12; with_reducible refine AnsB.use HX hW3 fun w4 hb4 => ?_) | (go_at_call 16; with_reducible refine Ans.use zP _ fun m0 => ?_) | (go_at_call 17; with_reducible refine Ans.use zG _ fun m1 => ?_) | (go_at_call 18; with_reducible refine Ans.use (zGood x x0) _ fun m2 => ?_) | (go_at_call 19; with_reducible refine Ans.use (zRoot n) _ fun m3 => ?_) | (go_at_call 20; with_reducible refine Ans.use zFac _ fun m4 => ?_) | (go_at_call 21; with_reducible refine Ans.use (zDiv n) _ fun m5 => ?_) | (go_at_call 22; with_reducible refine Ans.use (zAdd x x) _ fun m6 => ?_) | (go_at_call 23; with_reducible refine Ans.use (zSub x 1) _ fun m7 => ?_) | (go_at_call 24; with_reducible refine Ans.use (zNeg x) _ fun m8 => ?_) | (go_at_call 25; with_reducible refine Ans.use (zMul x x) _ fun m9 => ?_) | (go_at_call 26; with_reducible refine Ans.use (zPow x 0) _ fun m10 => ?_) | (go_at_call 27; with_reducible refine Ans.use (zInv x) _ fun m11 => ?_) | (go_at_call 28; with_reducible refine Ans.use (zLift x) _ fun m12 => ?_) | (go_at_call 29; with_reducible refine Ans.use (zTimes x x) _ fun m13 => ?_))
      go_ret
      exact ⟨by first | rfl | simp, bb hBV (bb hb1 (bb hb3 (bb hb4 (by first | exact below_drewN _ _ | exact bb (below_drewN _ _) (below_drewN _ _)))))⟩
set_option maxRecDepth 100000 in
set_option maxHeartbeats 4000000 in
theorem makes_known_no (W : World) (z q : Int) (A : Option Addr) (C : Nat) (es : List En) (hE : EntsAt W A C es) (h40 : es.length ≤ 40) (n x e : Int) (x0 : 0 ≤ x) (he : (e != 0) = true) (HO : AnsB W 11 #[srcV 1 z q A es.length C] (ofV 0 0 e))
    (HX : AnsB W 13 #[.int .i64 z] (.tuple #[.pointer none, .int .i64 e])) : AnsB W 3 #[srcV 1 z q A es.length C, .int .i64 n, .int .u64 x] (.bool true) := by
  intro w hw
  obtain ⟨L, hL⟩ : ∃ L, es.length = L := ⟨_, rfl⟩
  have HL : Hid (es.length = L) := hL
  rw [hL] at h40 HO ⊢
  clear hL
  obtain ⟨t0, t1, t2, t3⟩ := four_cells w (.int .i64 1) (.int .i64 z) (.int .u64 q) (.slice A L C) 25
  obtain ⟨V, hV⟩ : ∃ V, w.alloc (.cells #[.int .i64 1, .int .i64 z, .int .u64 q, .slice A L C] 25) = V := ⟨_, rfl⟩
  have hBV : Below w.heap.size w V := hV ▸ below_alloc _ _
  obtain ⟨bo, hbo⟩ : ∃ bo, w.heap.size = bo := ⟨_, rfl⟩
  have hVs : bo < V.heap.size := by rw [← hV, ← hbo]; simp
  rw [hV, hbo] at t0 t1 t2 t3
  have hWV := bb hw hBV
  have hx : decide (x < 0) = false := decide_eq_false (by omega)
  go_enter Tryz.func3, Tryz.ntmps3
  go_wp2_with (first | (go_at_call 10; with_reducible refine AnsM.use alive6 fun w1 hb1 => ?_; have s0 := keep_cell hb1 hVs t0; have s1 := keep_cell hb1 hVs t1; have s2 := keep_cell hb1 hVs t2; have s3 := keep_cell hb1 hVs t3; have hW1 := bb hWV hb1))
  go_loopw [29] (fun v wr => ∃ k : Nat, v = .int .i64 (k : Int) ∧ k ≤ L ∧ Hid (∀ j y, j < k → es[j]? = some y → ¬ 20 < y.fs.length) ∧ Below V.heap.size V wr) (fun v _ => L - (intOf v).toNat)
  case atStart => exact ⟨0, rfl, by omega, fun j y hj => absurd hj (by omega), hb1⟩
  case round =>
    clear hb1 s0 s1 s2 s3 hW1
    obtain ⟨k, rfl, hk, HI, hB⟩ := hrel
    by_cases hlt : k < L
    · have hlt' : k < es.length := by rw [HL.out]; exact hlt
      obtain ⟨y, hy⟩ : ∃ y, es[k]? = some y := ⟨_, List.getElem?_eq_getElem hlt'⟩
      obtain ⟨b, o, A', C', rfl, hb, c0, c1, c2, hP, hp, hg⟩ := hE.get k y hy
      have hBW : Below W.heap.size W wr := bb hWV hB
      have c0' := keep_cell hBW hb c0
      have c1' := keep_cell hBW hb c1
      have c2' := keep_cell hBW hb c2
      have hfm : y.fs.length ≤ 9223372036854775807 := by have := hP.cap; have := hP.max; unfold maxLen at this; omega
      obtain ⟨pp, hp'⟩ : ∃ p : Int, (y.p : Int) = p := ⟨_, rfl⟩
      obtain ⟨gg, hg'⟩ : ∃ g : Int, (y.g : Int) = g := ⟨_, rfl⟩
      obtain ⟨fl, hfl⟩ : ∃ fl : Nat, y.fs.length = fl := ⟨_, rfl⟩
      rw [hp'] at c0'
      rw [hg'] at c1'
      rw [hfl] at c2' hfm
      by_cases ht : 20 < fl
      · clear c0 c1 c2 hp' hg' hfl hy HI hP hlt'
        go_wp2
        go_ret
        exact ⟨rfl, bb hBV (bb hB (below_alloc _ _))⟩
      · have HS' : Hid (∀ j y, j < k + 1 → es[j]? = some y → ¬ 20 < y.fs.length) := by
          intro j y' hj hy'
          by_cases h : j < k
          · exact HI.out j y' h hy'
          · obtain rfl : j = k := by omega
            rw [hy] at hy'; cases hy'; omega
        clear c0 c1 c2 hp' hg' hfl hy HI hP hlt'
        go_wp2
        go_roundw
        case rel => exact ⟨k + 1, by go_num, by omega, HS', bb hB (below_alloc _ _)⟩
        case measure => simp [intOf]; omega
    · obtain rfl : k = L := by omega
      clear HI
      have hb1 := hB
      have hW1 := bb hWV hB
      have s0 := keep_cell hb1 hVs t0
      have s1 := keep_cell hb1 hVs t1
      have s2 := keep_cell hb1 hVs t2
      have s3 := keep_cell hb1 hVs t3
      go_wp2_with (first | (go_at_call 11; with_reducible refine AnsB.use HO hW1 fun w3 hb3 => ?_; have u0 := keep_cell (bb hb1 hb3) hVs t0; have u1 := keep_cell (bb hb1 hb3) hVs t1; have u2 := keep_cell (bb hb1 hb3) hVs t2; have u3 := keep_cell (bb hb1 hb3) hVs t3; have hW3 := bb hW1 hb3) | (go_at_call 13; with_reducible refine AnsB.use HX hW3 fun w4 hb4 => ?_) | (go_at_call 16; with_reducible refine Ans.use zP _ fun m0 => ?_) | (go_at_call 17; with_reducible refine Ans.use zG _ fun m1 => ?_) | (go_at_call 18; with_reducible refine Ans.use (zGood x x0) _ fun m2 => ?_) | (go_at_call 19; with_reducible refine Ans.use (zRoot n) _ fun m3 => ?_) | (go_at_call 20; with_reducible refine Ans.use zFac _ fun m4 => ?_) | (go_at_call 21; with_reducible refine Ans.use (zDiv n) _ fun m5 => ?_) | (go_at_call 22; with_reducible refine Ans.use (zAdd x x) _ fun m6 => ?_) | (go_at_call 23; with_reducible refine Ans.use (zSub x 1) _ fun m7 => ?_) | (go_at_call 24; with_reducible refine Ans.use (zNeg x) _ fun m8 => ?_) | (go_at_call 25; with_reducible refine Ans.use (zMul x x) _ fun m9 => ?_) | (go_at_call 26; with_reducible refine Ans.use (zPow x 0) _ fun m10 => ?_) | (go_at_call 27; with_reducible refine Ans.use (zInv x) _ fun m11 => ?_) | (go_at_call 28; with_reducible refine Ans.use (zLift x) _ fun m12 => ?_) | (go_at_call 29; with_reducible refine Ans.use (zTimes x x) _ fun m13 => ?_))
      go_ret
      exact ⟨by first | rfl | simp, bb hBV (bb hb1 (bb hb3 (bb hb4 (by first | exact below_drewN _ _ | exact bb (below_drewN _ _) (below_drewN _ _)))))⟩
set_option maxRecDepth 100000 in
set_option maxHeartbeats 4000000 in
theorem makes_row_no (W : World) (kind z q : Int) (k0 : (kind == 0) = false) (k1 : (kind == 1) = false) (A : Option Addr) (C : Nat) (es : List En) (hE : EntsAt W A C es) (h40 : es.length ≤ 40) (n x e : Int) (x0 : 0 ≤ x) (he : (e != 0) = true) (HO : AnsB W 11 #[srcV kind z q A es.length C] (ofV 0 0 e))
    (HR : RowsC W (.slice A es.length C) es.length es) (HN : ∀ w A' C', EntsAt w A' C' es → AnsB w 14 #[.slice A' es.length C', .int .u64 q] (.tuple #[.pointer none, .int .i64 e])) : AnsB W 3 #[srcV kind z q A es.length C, .int .i64 n, .int .u64 x] (.bool true) := by
  intro w hw
  obtain ⟨L, hL⟩ : ∃ L, es.length = L := ⟨_, rfl⟩
  have HL : Hid (es.length = L) := hL
  rw [hL] at h40 HO HR HN ⊢
  clear hL
  obtain ⟨t0, t1, t2, t3⟩ := four_cells w (.int .i64 kind) (.int .i64 z) (.int .u64 q) (.slice A L C) 25
  obtain ⟨V, hV⟩ : ∃ V, w.alloc (.cells #[.int .i64 kind, .int .i64 z, .int .u64 q, .slice A L C] 25) = V := ⟨_, rfl⟩
  have hBV : Below w.heap.size w V := hV ▸ below_alloc _ _
  obtain ⟨bo, hbo⟩ : ∃ bo, w.heap.size = bo := ⟨_, rfl⟩
  have hVs : bo < V.heap.size := by rw [← hV, ← hbo]; simp
  rw [hV, hbo] at t0 t1 t2 t3
  have hWV := bb hw hBV
  have hx : decide (x < 0) = false := decide_eq_false (by omega)
  go_enter Tryz.func3, Tryz.ntmps3
  go_wp2_with (first | (go_at_call 10; with_reducible refine AnsM.use alive6 fun w1 hb1 => ?_; have s0 := keep_cell hb1 hVs t0; have s1 := keep_cell hb1 hVs t1; have s2 := keep_cell hb1 hVs t2; have s3 := keep_cell hb1 hVs t3; have hW1 := bb hWV hb1))
  go_loopw [29] (fun v wr => ∃ k : Nat, v = .int .i64 (k : Int) ∧ k ≤ L ∧ Hid (∀ j y, j < k → es[j]? = some y → ¬ 20 < y.fs.length) ∧ Below V.heap.size V wr) (fun v _ => L - (intOf v).toNat)
  case atStart => exact ⟨0, rfl, by omega, fun j y hj => absurd hj (by omega), hb1⟩
  case round =>
    clear hb1 s0 s1 s2 s3 hW1
    obtain ⟨k, rfl, hk, HI, hB⟩ := hrel
    by_cases hlt : k < L
    · have hlt' : k < es.length := by rw [HL.out]; exact hlt
      obtain ⟨y, hy⟩ : ∃ y, es[k]? = some y := ⟨_, List.getElem?_eq_getElem hlt'⟩
      obtain ⟨b, o, A', C', rfl, hb, c0, c1, c2, hP, hp, hg⟩ := hE.get k y hy
      have hBW : Below W.heap.size W wr := bb hWV hB
      have c0' := keep_cell hBW hb c0
      have c1' := keep_cell hBW hb c1
      have c2' := keep_cell hBW hb c2
      have hfm : y.fs.length ≤ 9223372036854775807 := by have := hP.cap; have := hP.max; unfold maxLen at this; omega
      obtain ⟨pp, hp'⟩ : ∃ p : Int, (y.p : Int) = p := ⟨_, rfl⟩
      obtain ⟨gg, hg'⟩ : ∃ g : Int, (y.g : Int) = g := ⟨_, rfl⟩
      obtain ⟨fl, hfl⟩ : ∃ fl : Nat, y.fs.length = fl := ⟨_, rfl⟩
      rw [hp'] at c0'
      rw [hg'] at c1'
      rw [hfl] at c2' hfm
      by_cases ht : 20 < fl
      · clear c0 c1 c2 hp' hg' hfl hy HI hP hlt'
        go_wp2
        go_ret
        exact ⟨rfl, bb hBV (bb hB (below_alloc _ _))⟩
      · have HS' : Hid (∀ j y, j < k + 1 → es[j]? = some y → ¬ 20 < y.fs.length) := by
          intro j y' hj hy'
          by_cases h : j < k
          · exact HI.out j y' h hy'
          · obtain rfl : j = k := by omega
            rw [hy] at hy'; cases hy'; omega
        clear c0 c1 c2 hp' hg' hfl hy HI hP hlt'
        go_wp2
        go_roundw
        case rel => exact ⟨k + 1, by go_num, by omega, HS', bb hB (below_alloc _ _)⟩
        case measure => simp [intOf]; omega
    · obtain rfl : k = L := by omega
      clear HI
      have hb1 := hB
      have hW1 := bb hWV hB
      have s0 := keep_cell hb1 hVs t0
      have s1 := keep_cell hb1 hVs t1
      have s2 := keep_cell hb1 hVs t2
      have s3 := keep_cell hb1 hVs t3
      go_wp2_with (first | (go_at_call 11; with_reducible refine AnsB.use HO hW1 fun w3 hb3 => ?_; have u0 := keep_cell (bb hb1 hb3) hVs t0; have u1 := keep_cell (bb hb1 hb3) hVs t1; have u2 := keep_cell (bb hb1 hb3) hVs t2; have u3 := keep_cell (bb hb1 hb3) hVs t3; have hW3 := bb hW1 hb3))
      go_region_with (first
        | (go_at_call 15; with_reducible refine RowsC.use HR (bb hW3 (below_drew _)) fun A2 C2 wq hEq hbq => ?_; have HN2 := HN wq A2 C2 hEq; have hbd := bb (below_drew w3) hbq; have r2 := keep_cell hbd (Nat.lt_of_lt_of_le hVs (bb hb1 hb3).size) u2)
        | (go_at_call 14; with_reducible refine AnsB.use HN2 (Below.refl _ _) fun w4 hb4 => ?_))
      all_goals
        have hb4 := bb hbd hb4
        go_wp2_with (first | (go_at_call 16; with_reducible refine Ans.use zP _ fun m0 => ?_) | (go_at_call 17; with_reducible refine Ans.use zG _ fun m1 => ?_) | (go_at_call 18; with_reducible refine Ans.use (zGood x x0) _ fun m2 => ?_) | (go_at_call 19; with_reducible refine Ans.use (zRoot n) _ fun m3 => ?_) | (go_at_call 20; with_reducible refine Ans.use zFac _ fun m4 => ?_) | (go_at_call 21; with_reducible refine Ans.use (zDiv n) _ fun m5 => ?_) | (go_at_call 22; with_reducible refine Ans.use (zAdd x x) _ fun m6 => ?_) | (go_at_call 23; with_reducible refine Ans.use (zSub x 1) _ fun m7 => ?_) | (go_at_call 24; with_reducible refine Ans.use (zNeg x) _ fun m8 => ?_) | (go_at_call 25; with_reducible refine Ans.use (zMul x x) _ fun m9 => ?_) | (go_at_call 26; with_reducible refine Ans.use (zPow x 0) _ fun m10 => ?_) | (go_at_call 27; with_reducible refine Ans.use (zInv x) _ fun m11 => ?_) | (go_at_call 28; with_reducible refine Ans.use (zLift x) _ fun m12 => ?_) | (go_at_call 29; with_reducible refine Ans.use (zTimes x x) _ fun m13 => ?_))
        go_ret
        exact ⟨by first | rfl | simp, bb hBV (bb hb1 (bb hb3 (bb hb4 (by first | exact below_drewN _ _ | exact bb (below_drewN _ _) (below_drewN _ _)))))⟩
end Go.Proofs.YtikmopnadmgilaaGreat
/-
  The statement FieldMakes: there is a field.
-/
namespace Go.Proofs.YtikmopnadmgilaaGreat
set_option linter.unusedVariables false
open Go.RowKit

/-! ### Its factors -/
def FacC (W : World) (fb : Nat) (x : En) : Prop := ∀ w, Below W.heap.size W w → Calls Tryz.prog 20 #[pt fb] w fun e w' => ∃ A C, e = .returned (.slice A x.fs.length C) ∧ PowsAt w' A C x.fs ∧ Below w.heap.size w w'
theorem FacC.use {W : World} {fb fl : Nat} {x : En} (h : FacC W fb x) (hl : x.fs.length = fl) {w : World} (hw : Below W.heap.size W w) {R : Ending → World → Prop} (k : ∀ A C w', PowsAt w' A C x.fs → Below w.heap.size w w' → R (.returned (.slice A fl C)) w') : Calls Tryz.prog 20 #[pt fb] w R :=
  (h w hw).mono fun _ _ ⟨A, C, he, h1, h2⟩ => by subst he; rw [hl]; exact k A C _ h1 h2
theorem fac_walk (W : World) (fb fl : Nat) (A : Option Addr) (C : Nat) (fs : List Pw) (hb : fb < W.heap.size) (c3 : W.cell? ⟨fb, 3, none⟩ = some (.slice A fl C)) (HF : Hid (fs.length = fl)) (HK : ∀ w, Below W.heap.size W w → ∀ {R : Ending → World → Prop}, (∀ A2 C2 w', PowsAt w' A2 C2 fs → Below w.heap.size w w' → R (.returned (.slice A2 fl C2)) w') → Calls Tryz.prog 49 #[.slice A fl C] w R) (w : World) (hw : Below W.heap.size W w) :
    Calls Tryz.prog 20 #[pt fb] w fun e w' => ∃ A C, e = .returned (.slice A fl C) ∧ PowsAt w' A C fs ∧ Below w.heap.size w w' := by
  have c3' := keep_cell hw hb c3
  go_enter Tryz.func20, Tryz.ntmps20
  go_wp2_with (go_at_call 49; with_reducible refine HK _ hw fun A2 C2 w2 hP2 hb2 => ?_)
  go_ret
  exact ⟨A2, C2, rfl, hP2, hb2⟩
theorem fac_c {W : World} {fb : Nat} {x : En} (h : FieldAt W fb x) (hl : x.fs.length ≤ 100) : FacC W fb x := by
  obtain ⟨A, C, c3, hP⟩ := h.fs
  have HK := clone_any W A C x.fs hP (by omega)
  intro w hw
  refine fac_walk W fb x.fs.length A C x.fs h.lt c3 rfl (fun w hw R k => ?_) w hw
  exact CloneAns.use HK hw fun A' C' w' h1 _ h2 => k A' C' w' h1 h2
/-- What is asked of the factors: they rise, are there once to 62 times, and their product is p - 1. -/
structure FsOk (x : En) : Prop where
  up : ∀ (i : Nat) (f f' : Pw), x.fs[i]? = some f → x.fs[i + 1]? = some f' → f.q < f'.q
  e : ∀ f ∈ x.fs, 1 ≤ f.e ∧ f.e ≤ 62
  prod : prodOf (x.fs.map fun f => (f.q, f.e.toNat)) = x.p - 1
  len : x.fs.length ≤ 16
theorem fac_facts (es : List En) : ∀ (fs : List Pw) (i left last : Nat), facLoop es i left last fs = true → (∀ f ∈ fs, 1 ≤ f.e ∧ f.e ≤ 62) ∧ (∀ (j : Nat) (f f' : Pw), fs[j]? = some f → fs[j + 1]? = some f' → f.q < f'.q) ∧ (∀ f, fs[0]? = some f → last < f.q) := by
  intro fs
  induction fs with
  | nil => intro i left last _; exact ⟨fun f h => (by cases h), fun j f f' h => (by simp at h), fun f h => (by simp at h)⟩
  | cons f fs ih =>
    intro i left last h
    by_cases h1 : f.q ≤ last
    · rw [facLoop, if_pos h1] at h; cases h
    · by_cases h2 : knownB es i f.q = true
      · cases hw : without left f.q f.e with
        | none => rw [facLoop, if_neg h1, if_neg (by simp [h2]), hw] at h; cases h
        | some r =>
          rw [facLoop, if_neg h1, if_neg (by simp [h2]), hw] at h
          obtain ⟨a, b, c⟩ := ih _ _ _ h
          have he : 1 ≤ f.e ∧ f.e ≤ 62 := by
            unfold without at hw
            by_cases hh : f.e < 1 ∨ 62 < f.e
            · rw [if_pos hh] at hw; cases hw
            · omega
          refine ⟨fun g hg => ?_, fun j g g' hg hg' => ?_, fun g hg => ?_⟩
          · rcases List.mem_cons.1 hg with rfl | hg
            · exact he
            · exact a g hg
          · cases j with
            | zero =>
              simp at hg hg'
              subst hg
              exact c g' (by simpa using hg')
            | succ j => exact b j g g' (by simpa using hg) (by simpa using hg')
          · simp at hg; subst hg; omega
      · rw [facLoop, if_neg h1, if_pos (by simpa using h2)] at h; cases h
theorem RightRow.fsok {es : List En} (h : RightRow es) {k : Nat} {x : En} (hx : es[k]? = some x) : FsOk x := by
  have hk := (List.getElem?_eq_some_iff.1 hx).1
  have hb := check_all h.2 k hk
  rw [bad_some hx] at hb
  obtain ⟨a, b, c, d⟩ := rparts (by simpa using hb)
  unfold factoredB at c
  by_cases e : x.fs.length < 1 ∨ 16 < x.fs.length
  · rw [if_pos e] at c; cases c
  · rw [if_neg e] at c
    obtain ⟨f1, f2, _⟩ := fac_facts _ _ _ _ _ c
    refine ⟨f2, f1, ?_, by omega⟩
    exact (fac_luc (es := es.take k) (fun y hy => by
      obtain ⟨j, hj, rfl⟩ := List.getElem_of_mem hy
      rw [List.length_take] at hj
      rw [List.getElem_take]
      exact (row_luc h.2 j _ (List.getElem?_eq_getElem (by omega))).prime) _ _ _ _ c).2
def mulTo (fs : List Pw) (k : Nat) : Nat := prodOf ((fs.take k).map fun f => (f.q, f.e.toNat)) % 18446744073709551616
theorem prodOf_snoc (l : List (Nat × Nat)) (x : Nat × Nat) : prodOf (l ++ [x]) = prodOf l * x.1 ^ x.2 := by
  induction l with
  | nil => simp [prodOf, Nat.mul_comm]
  | cons y l ih => simp only [List.cons_append, prodOf, ih]; simp [Nat.mul_comm, Nat.mul_left_comm]
theorem mulTo_step {fs : List Pw} {k : Nat} {f : Pw} (h : fs[k]? = some f) : mulTo fs (k + 1) = mulTo fs k * f.q ^ f.e.toNat % 18446744073709551616 := by
  unfold mulTo
  rw [List.take_add_one, h, Option.toList_some, List.map_append, List.map_singleton, prodOf_snoc, Nat.mod_mul_mod]
end Go.Proofs.YtikmopnadmgilaaGreat

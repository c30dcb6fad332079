/-
  What the document tells (alive) of layer 11, and what same and fit answer, for its statements. No condition.
-/
import Derived.Test.YtphpllachnhfbaaGreatDf3
import Derived.Test.YtphpllachnhfbaaGreatF26
namespace Go.Proofs.YtphpllachnhfbaaGreat
set_option linter.unusedVariables false
open Go.RowKit

/-! ### same -/
theorem same_get {xs ys : List Nat} {k : Nat} (hl : xs.length = ys.length) (h : xs.take k = ys.take k) {x y : Nat} (hx : xs[k]? = some x) (hy : ys[k]? = some y) (e : x = y) : xs.take (k + 1) = ys.take (k + 1) := by
  rw [List.take_add_one, List.take_add_one, hx, hy, h, e]
set_option maxHeartbeats 1000000 in
theorem same_any (W : World) (A : Option Addr) (C : Nat) (xs : List Nat) (B : Option Addr) (D : Nat) (ys : List Nat) (hX : UAt W A C xs) (hY : UAt W B D ys) : AnsB W 13 #[.slice A xs.length C, .slice B ys.length D] (.bool (decide (xs = ys))) := by
  intro w hw
  have hlx := hX.len
  obtain ⟨L, hL⟩ : ∃ L, xs.length = L := ⟨_, rfl⟩
  obtain ⟨M, hM⟩ : ∃ M, ys.length = M := ⟨_, rfl⟩
  have HL : Hid (xs.length = L) := hL
  have HM : Hid (ys.length = M) := hM
  rw [hL] at hlx
  rw [hL, hM]
  clear hL hM
  by_cases hLM : L = M
  · subst hLM
    go_enter Tryz.func13, Tryz.ntmps13
    go_wp2
    go_loopw [13] (fun v wr => ∃ k : Nat, v = .int .i64 k ∧ k ≤ L ∧ Hid (xs.take k = ys.take k) ∧ Below w.heap.size w wr) (fun v _ => L - (intOf v).toNat)
    case atStart => exact ⟨0, rfl, by omega, rfl, Below.refl _ _⟩
    case round =>
      obtain ⟨k, rfl, hk, HI, hB⟩ := hrel
      by_cases hlt : k < L
      · obtain ⟨x, hx⟩ : ∃ x, xs[k]? = some x := ⟨_, List.getElem?_eq_getElem (by rw [HL.out]; exact hlt)⟩
        obtain ⟨y, hy⟩ : ∃ y, ys[k]? = some y := ⟨_, List.getElem?_eq_getElem (by rw [HM.out]; exact hlt)⟩
        obtain ⟨b, o, rfl, hb, c0, _⟩ := hX.get k x hx
        obtain ⟨b2, o2, rfl, hb2, d0, _⟩ := hY.get k y hy
        have hBW := hw.trans (hB.mono hw.size)
        have c0' := ((bcell hBW).1 b (o + k) hb).trans c0
        have d0' := ((bcell hBW).1 b2 (o2 + k) hb2).trans d0
        have HB : Hid (Below w.heap.size w wr) := hB
        by_cases he : x = y
        · have HS : Hid (xs.take (k + 1) = ys.take (k + 1)) := same_get (by rw [HL.out, HM.out]) HI.out hx hy he
          have t1 : ((x : Int) != (y : Int)) = false := by simp [he]
          have t2 : ¬ (x : Int) ≠ (y : Int) := by simp [he]
          subst he
          clear c0 d0 hx hy HI hBW hB
          go_wp2
          go_region
          all_goals go_wp2
          all_goals go_roundw
          case rel => exact ⟨k + 1, by go_num, by omega, HS, below_dN HB.out _⟩
          case measure => simp [intOf]; omega
        · have HR : Hid (decide (xs = ys) = false) := by
            unfold Hid; rw [decide_eq_false_iff_not]; intro e; rw [e, hy] at hx; cases hx; exact he rfl
          have t1 : ((x : Int) != (y : Int)) = true := by simp; omega
          have t2 : ¬ (x : Int) = (y : Int) := by omega
          clear c0 d0 hx hy HI hBW hB he
          go_wp2
          go_region
          all_goals go_wp2
          all_goals go_ret
          all_goals exact ⟨ret_b HR.out.symm, below_dN HB.out _⟩
      · obtain rfl : k = L := by omega
        have HR : Hid (decide (xs = ys) = true) := by
          unfold Hid; rw [decide_eq_true_iff]; have := HI.out
          rw [← HL.out, List.take_length, HL.out, ← HM.out, List.take_length] at this
          exact this
        clear HI
        go_wp2
        go_ret
        exact ⟨ret_b HR.out.symm, hB⟩
  · have HR : Hid (decide (xs = ys) = false) := by
      unfold Hid; rw [decide_eq_false_iff_not]; intro e; apply hLM; rw [← HL.out, ← HM.out, e]
    have t1 : ¬ (L : Int) = (M : Int) := by omega
    go_enter Tryz.func13, Tryz.ntmps13
    go_wp2
    go_ret
    exact ⟨ret_b HR.out.symm, Below.refl _ _⟩
/-- .. of two that are the same, their lengths letters. -/
theorem same_yes {W : World} {A : Option Addr} {C : Nat} {B : Option Addr} {D : Nat} {xs : List Nat} {n : Nat} (hX : UAt W A C xs) (hY : UAt W B D xs) (hl : xs.length = n) : AnsB W 13 #[.slice A n C, .slice B n D] (.bool true) := by
  have := same_any W A C xs B D xs hX hY
  rw [decide_eq_true rfl, hl] at this
  exact this

/-! ### alive -/
theorem lit_words (w : World) (a b c d : Nat) (ha : a < 18446744073709551616) (hb : b < 18446744073709551616) (hc : c < 18446744073709551616) (hd : d < 18446744073709551616) : UAt (w.alloc (.cells #[.int .u64 (a : Int), .int .u64 (b : Int), .int .u64 (c : Int), .int .u64 (d : Int)] 22)) (some ⟨w.heap.size, 0, none⟩) 4 [a, b, c, d] := by
  obtain ⟨t0, t1, t2, t3⟩ := four_cells w (.int .u64 (a : Int)) (.int .u64 (b : Int)) (.int .u64 (c : Int)) (.int .u64 (d : Int)) 22
  refine ⟨fun h => (by cases h), Nat.le_refl _, by unfold maxLen; omega, fun i x hx => ⟨w.heap.size, 0, rfl, by simp, ?_, ?_⟩⟩
  · rw [Nat.zero_add]
    match i, hx with
    | 0, hx => cases hx; exact t0
    | 1, hx => cases hx; exact t1
    | 2, hx => cases hx; exact t2
    | 3, hx => cases hx; exact t3
    | i + 4, hx => simp at hx
  · match i, hx with
    | 0, hx => cases hx; exact ha
    | 1, hx => cases hx; exact hb
    | 2, hx => cases hx; exact hc
    | 3, hx => cases hx; exact hd
    | i + 4, hx => simp at hx
set_option maxHeartbeats 1000000 in
theorem alive11_walk (x : En) (HS : ∀ W, FNew W 25 #[.int .u64 5] x)
    (HT : ∀ (W : World) (b : Nat) {R : Ending → World → Prop}, FieldAt W b x → (∀ g C1 w', UAt w' (some ⟨g, 0, none⟩) C1 [0, 4, 3, 2] → Below W.heap.size W w' → R (.returned (.tuple #[.slice (some ⟨g, 0, none⟩) 4 C1, .int .i64 0])) w') →
      Calls Tryz.prog 12 #[pt b, .slice (some ⟨W.heap.size, 0, none⟩) 4 4, .bool false] (W.alloc (.cells #[.int .u64 1, .int .u64 2, .int .u64 3, .int .u64 4] 22)) R)
    (HV : ∀ (W : World) (g C : Nat) {R : Ending → World → Prop}, UAt W (some ⟨g, 0, none⟩) C [0, 4, 3, 2] → (∀ w', Below W.heap.size W w' → R (.returned (.bool true)) w') →
      Calls Tryz.prog 13 #[.slice (some ⟨g, 0, none⟩) 4 C, .slice (some ⟨W.heap.size, 0, none⟩) 4 4] (W.alloc (.cells #[.int .u64 0, .int .u64 4, .int .u64 3, .int .u64 2] 22)) R) : AnsM 10 #[] (.bool true) := by
  intro w
  go_enter Tryz.func10, Tryz.ntmps10
  go_wp2_with (first
    | (go_at_call 25; with_reducible refine FNew.use (HS _) (Below.refl _ _) fun b w1 hF hb1 => ?_)
    | (go_at_call 12; with_reducible refine HT _ _ hF fun g C1 w2 hO hb2 => ?_)
    | (go_at_call 13; with_reducible refine HV _ _ _ hO fun w3 hb3 => ?_))
  go_ret
  exact ⟨rfl, bb hb1 (bb hb2 hb3)⟩
theorem gen5 : genOf 5 = 2 := by
  obtain ⟨h1, h2, h3, h4⟩ := genOf_spec odd5
  have g2 : GenP 2 5 := by
    intro q hq
    obtain ⟨pq, dq⟩ := (mem_pf (by omega)).1 hq
    have h5 := pq.1
    have h6 := Nat.le_of_dvd (by omega) dq
    have key : ∀ q, q < 5 → 2 ≤ q → 2 ^ ((5 - 1) / q) % 5 ≠ 1 := by
      have hp := pq
      intro q hq h2
      have : q = 2 ∨ q = 3 ∨ q = 4 := by omega
      rcases this with rfl | rfl | rfl <;> decide
    exact key q (by omega) h5
  by_cases e3 : 2 < genOf 5
  · exact absurd g2 (h4 2 (by omega) e3)
  · omega
theorem fld5 : Fld (enOf 5) := small_fld odd5
theorem root5 : twR (enOf 5) 4 false = 2 := by
  show rootN 5 (genOf 5) 4 = 2
  rw [gen5]; rfl
theorem p5 : (enOf 5).p = 5 := rfl
theorem dT5 : dT (enOf 5) false [1, 2, 3, 4] = [0, 4, 3, 2] := by
  have e : ∀ k, dV (enOf 5) false [1, 2, 3, 4] k = tS 2 4 (atL [1, 2, 3, 4]) k % 5 := fun k => by
    unfold dV
    rw [if_neg (by decide)]
    show tS (twR (enOf 5) 4 false) 4 _ k % 5 = _
    rw [root5]
  show (List.range 4).map (dV (enOf 5) false [1, 2, 3, 4]) = _
  rw [show (List.range 4).map (dV (enOf 5) false [1, 2, 3, 4]) = (List.range 4).map (fun k => tS 2 4 (atL [1, 2, 3, 4]) k % 5) from List.map_congr_left fun k _ => e k]
  decide
theorem alive11 : AnsM 10 #[] (.bool true) := by
  have hd : ((enOf 5).p - 1) % 4 = 0 := by show (5 - 1) % 4 = 0; rfl
  refine alive11_walk (enOf 5) (fun W => small_yes W 5 odd5) (fun W b R hF k => ?_) (fun W g C R hU k => ?_)
  · have hU := lit_words W 1 2 3 4 (by omega) (by omega) (by omega) (by omega)
    have hb := below_alloc W (.cells #[.int .u64 1, .int .u64 2, .int .u64 3, .int .u64 4] 22)
    have HR := run_yes (hF.below hb) fld5 hU (by decide) (by decide) hd (fun y hy => by
      rw [p5]
      have : ∀ y ∈ [1, 2, 3, 4], y < 5 := by decide
      exact this y hy) false
    rw [dT5] at HR
    refine OwnT.useG HR rfl (by decide) (Below.refl _ _) fun g C1 w' h1 h2 => k g C1 w' (h1.words (by decide)) (bb hb h2)
  · have hV := lit_words W 0 4 3 2 (by omega) (by omega) (by omega) (by omega)
    have hb := below_alloc W (.cells #[.int .u64 0, .int .u64 4, .int .u64 3, .int .u64 2] 22)
    exact AnsB.use (same_yes (hU.below hb) hV rfl) (Below.refl _ _) fun w' h => k w' (bb hb h)

/-! ### fit -/
/-- A source and a list that can't be transformed there. -/
def FitN (W : World) (s l : Value) : Prop := ∀ w, Below W.heap.size W w → Calls Tryz.prog 21 #[s, l, .int .i64 64] w fun e w' => ∃ a p, e = .returned (.tuple #[.pointer a, .int .u64 p, .bool false]) ∧ Below w.heap.size w w'
theorem FitN.use {W : World} {s l : Value} (h : FitN W s l) {w : World} (hw : Below W.heap.size W w) {R : Ending → World → Prop} (k : ∀ a p w', Below w.heap.size w w' → R (.returned (.tuple #[.pointer a, .int .u64 p, .bool false])) w') : Calls Tryz.prog 21 #[s, l, .int .i64 64] w R :=
  (h w hw).mono fun _ _ ⟨a, p, he, h2⟩ => by subst he; exact k a p _ h2
/-- .. that can. -/
def FitY (W : World) (s l : Value) (p : Int) (x : En) : Prop := ∀ w, Below W.heap.size W w → Calls Tryz.prog 21 #[s, l, .int .i64 64] w fun e w' => ∃ b, e = .returned (.tuple #[pt b, .int .u64 p, .bool true]) ∧ FieldAt w' b x ∧ Below w.heap.size w w'
theorem FitY.use {W : World} {s l : Value} {p : Int} {x : En} (h : FitY W s l p x) {w : World} (hw : Below W.heap.size W w) {R : Ending → World → Prop} (k : ∀ b w', FieldAt w' b x → Below w.heap.size w w' → R (.returned (.tuple #[pt b, .int .u64 p, .bool true])) w') : Calls Tryz.prog 21 #[s, l, .int .i64 64] w R :=
  (h w hw).mono fun _ _ ⟨b, he, h1, h2⟩ => by subst he; exact k b _ h1 h2
/-! ### fit: walks -/
set_option maxHeartbeats 1000000 in
theorem fit_none (W : World) (kind z q : Int) (A : Option Addr) (L C : Nat) (B : Option Addr) (n D : Nat) (hlen : (n : Int) ≤ 9223372036854775807) (HM : AnsB W 11 #[srcV kind z q A L C] noV) : FitN W (srcV kind z q A L C) (.slice B n D) := by
  intro w hw
  obtain ⟨t0, t1, t2, t3⟩ := four_cells w (.int .i64 kind) (.int .i64 z) (.int .u64 q) (.slice A L C) 25
  obtain ⟨V, hV⟩ : ∃ V, w.alloc (.cells #[.int .i64 kind, .int .i64 z, .int .u64 q, .slice A L C] 25) = V := ⟨_, rfl⟩
  have hBV : Below w.heap.size w V := hV ▸ below_alloc _ _
  obtain ⟨bo, hbo⟩ : ∃ bo, w.heap.size = bo := ⟨_, rfl⟩
  have hVs : bo < V.heap.size := by rw [← hV, ← hbo]; simp
  rw [hV, hbo] at t0 t1 t2 t3
  have hWV := bb hw hBV
  go_enter Tryz.func21, Tryz.ntmps21
  go_wp2_with (first
    | (go_at_call 11; with_reducible refine AnsB.use HM hWV fun w2 hb2 => ?_))
  go_ret3
  exact ⟨_, _, rfl, bb hBV hb2⟩
set_option maxHeartbeats 1000000 in
theorem fit_long (W : World) (kind z q : Int) (A : Option Addr) (L C : Nat) (B : Option Addr) (n D : Nat) (hlen : (n : Int) ≤ 9223372036854775807) (p g : Int) (x : En) (p0 : 2 < p) (p1 : p < 9223372036854775808) (pz : (p == 0) = false) (HM : Made W (srcV kind z q A L C) p g x) (h : 64 < (n : Int)) : FitN W (srcV kind z q A L C) (.slice B n D) := by
  intro w hw
  obtain ⟨t0, t1, t2, t3⟩ := four_cells w (.int .i64 kind) (.int .i64 z) (.int .u64 q) (.slice A L C) 25
  obtain ⟨V, hV⟩ : ∃ V, w.alloc (.cells #[.int .i64 kind, .int .i64 z, .int .u64 q, .slice A L C] 25) = V := ⟨_, rfl⟩
  have hBV : Below w.heap.size w V := hV ▸ below_alloc _ _
  obtain ⟨bo, hbo⟩ : ∃ bo, w.heap.size = bo := ⟨_, rfl⟩
  have hVs : bo < V.heap.size := by rw [← hV, ← hbo]; simp
  rw [hV, hbo] at t0 t1 t2 t3
  have hWV := bb hw hBV
  go_enter Tryz.func21, Tryz.ntmps21
  go_wp2_with (first
    | (go_at_call 11; with_reducible refine Made.use HM hWV fun fb w2 hF hb2 => ?_))
  go_ret3
  exact ⟨_, _, rfl, bb hBV hb2⟩
set_option maxHeartbeats 1000000 in
theorem fit_check (W : World) (kind z q : Int) (A : Option Addr) (L C : Nat) (B : Option Addr) (n D : Nat) (hlen : (n : Int) ≤ 9223372036854775807) (p g : Int) (x : En) (p0 : 2 < p) (p1 : p < 9223372036854775808) (pz : (p == 0) = false) (HM : Made W (srcV kind z q A L C) p g x) (h : (n : Int) ≤ 64) (e : Int) (he : (e != 0) = true) (HC : Ans 14 #[.int .u64 p, .int .i64 (n : Int), .int .i64 64] (.int .i64 e)) : FitN W (srcV kind z q A L C) (.slice B n D) := by
  intro w hw
  obtain ⟨t0, t1, t2, t3⟩ := four_cells w (.int .i64 kind) (.int .i64 z) (.int .u64 q) (.slice A L C) 25
  obtain ⟨V, hV⟩ : ∃ V, w.alloc (.cells #[.int .i64 kind, .int .i64 z, .int .u64 q, .slice A L C] 25) = V := ⟨_, rfl⟩
  have hBV : Below w.heap.size w V := hV ▸ below_alloc _ _
  obtain ⟨bo, hbo⟩ : ∃ bo, w.heap.size = bo := ⟨_, rfl⟩
  have hVs : bo < V.heap.size := by rw [← hV, ← hbo]; simp
  rw [hV, hbo] at t0 t1 t2 t3
  have hWV := bb hw hBV
  go_enter Tryz.func21, Tryz.ntmps21
  go_wp2_with (first
    | (go_at_call 11; with_reducible refine Made.use HM hWV fun fb w2 hF hb2 => ?_)
    | (go_at_call 14; with_reducible refine Ans.use HC _ fun n1 => ?_))
  go_ret3
  exact ⟨_, _, rfl, bb hBV (bb hb2 (below_drewN _ _))⟩
set_option maxHeartbeats 1000000 in
theorem fit_bad (W : World) (kind z q : Int) (A : Option Addr) (L C : Nat) (B : Option Addr) (n D : Nat) (hlen : (n : Int) ≤ 9223372036854775807) (p g : Int) (x : En) (p0 : 2 < p) (p1 : p < 9223372036854775808) (pz : (p == 0) = false) (HM : Made W (srcV kind z q A L C) p g x) (h : (n : Int) ≤ 64) (HC : Ans 14 #[.int .u64 p, .int .i64 (n : Int), .int .i64 64] (.int .i64 0))
    (HG : ∀ w, Below W.heap.size W w → AnsW w 15 #[.int .u64 p, .slice B n D] (.bool false)) : FitN W (srcV kind z q A L C) (.slice B n D) := by
  intro w hw
  obtain ⟨t0, t1, t2, t3⟩ := four_cells w (.int .i64 kind) (.int .i64 z) (.int .u64 q) (.slice A L C) 25
  obtain ⟨V, hV⟩ : ∃ V, w.alloc (.cells #[.int .i64 kind, .int .i64 z, .int .u64 q, .slice A L C] 25) = V := ⟨_, rfl⟩
  have hBV : Below w.heap.size w V := hV ▸ below_alloc _ _
  obtain ⟨bo, hbo⟩ : ∃ bo, w.heap.size = bo := ⟨_, rfl⟩
  have hVs : bo < V.heap.size := by rw [← hV, ← hbo]; simp
  rw [hV, hbo] at t0 t1 t2 t3
  have hWV := bb hw hBV
  go_enter Tryz.func21, Tryz.ntmps21
  go_wp2_with (first
    | (go_at_call 11; with_reducible refine Made.use HM hWV fun fb w2 hF hb2 => ?_; have hW2 := bb hWV hb2; have HG2 := HG w2 hW2)
    | (go_at_call 14; with_reducible refine Ans.use HC _ fun n1 => ?_)
    | (go_at_call 15; with_reducible refine AnsW.use HG2 _ fun n2 => ?_))
  go_ret3
  exact ⟨_, _, rfl, bb hBV (bb hb2 (below_drewN _ _))⟩
set_option maxHeartbeats 1000000 in
theorem fit_yes (W : World) (kind z q : Int) (A : Option Addr) (L C : Nat) (B : Option Addr) (n D : Nat) (hlen : (n : Int) ≤ 9223372036854775807) (p g : Int) (x : En) (p0 : 2 < p) (p1 : p < 9223372036854775808) (pz : (p == 0) = false) (HM : Made W (srcV kind z q A L C) p g x) (h : (n : Int) ≤ 64) (HC : Ans 14 #[.int .u64 p, .int .i64 (n : Int), .int .i64 64] (.int .i64 0))
    (HG : ∀ w, Below W.heap.size W w → AnsW w 15 #[.int .u64 p, .slice B n D] (.bool true)) : FitY W (srcV kind z q A L C) (.slice B n D) p x := by
  intro w hw
  obtain ⟨t0, t1, t2, t3⟩ := four_cells w (.int .i64 kind) (.int .i64 z) (.int .u64 q) (.slice A L C) 25
  obtain ⟨V, hV⟩ : ∃ V, w.alloc (.cells #[.int .i64 kind, .int .i64 z, .int .u64 q, .slice A L C] 25) = V := ⟨_, rfl⟩
  have hBV : Below w.heap.size w V := hV ▸ below_alloc _ _
  obtain ⟨bo, hbo⟩ : ∃ bo, w.heap.size = bo := ⟨_, rfl⟩
  have hVs : bo < V.heap.size := by rw [← hV, ← hbo]; simp
  rw [hV, hbo] at t0 t1 t2 t3
  have hWV := bb hw hBV
  go_enter Tryz.func21, Tryz.ntmps21
  go_wp2_with (first
    | (go_at_call 11; with_reducible refine Made.use HM hWV fun fb w2 hF hb2 => ?_; have hW2 := bb hWV hb2; have HG2 := HG w2 hW2)
    | (go_at_call 14; with_reducible refine Ans.use HC _ fun n1 => ?_)
    | (go_at_call 15; with_reducible refine AnsW.use HG2 _ fun n2 => ?_))
  go_ret3
  exact ⟨_, rfl, FieldAt.below hF (below_drewN _ _), bb hBV (bb hb2 (below_drewN _ _))⟩
/-- A source and a list: they can't be transformed, or there is a field, and they can. -/
theorem fit_any (W : World) (kind z : Int) (hz : z < 9223372036854775808) (q : Nat) (hq : q < 18446744073709551616) (A : Option Addr) (C : Nat) (es : List En) (hE : EntsAt W A C es) (hfs : ∀ x ∈ es, x.fs.length * 16 ≤ 140737488355328) (B : Option Addr) (D : Nat) (xs : List Nat) (hX : UAt W B D xs) :
    FitN W (srcV kind z (q : Int) A es.length C) (.slice B xs.length D) ∨ ∃ x, Fld x ∧ 1 ≤ xs.length ∧ xs.length ≤ 64 ∧ (x.p - 1) % xs.length = 0 ∧ (∀ y ∈ xs, y < x.p) ∧ FitY W (srcV kind z (q : Int) A es.length C) (.slice B xs.length D) (x.p : Int) x := by
  have hlen := hX.len
  rcases made_any W kind z hz q hq A C es hE hfs with HM | ⟨x, hF, HM⟩
  · exact Or.inl (fit_none W kind z q A _ C B _ D hlen HM)
  · obtain ⟨h3, hodd, hlt⟩ := hF.num
    have pz : ((x.p : Int) == 0) = false := by simp; omega
    have HC := dcheck_any x.p (by omega) (by omega) (xs.length : Int) 64 (by omega)
    by_cases hl : 64 < (xs.length : Int)
    · exact Or.inl (fit_long W kind z q A _ C B _ D hlen x.p x.g x (by omega) (by omega) pz HM hl)
    · by_cases hc : ckD x.p (xs.length : Int) 64 = 0
      · obtain ⟨h1, h2, hd⟩ := ckD_ok hc
        rw [hc] at HC
        have HG : ∀ w, Below W.heap.size W w → AnsW w 15 #[.int .u64 (x.p : Int), .slice B xs.length D] (.bool (goodB x.p xs)) := fun w hw => dgood_any w x.p B D xs (hX.below hw)
        cases hg : goodB x.p xs
        · rw [hg] at HG
          exact Or.inl (fit_bad W kind z q A _ C B _ D hlen x.p x.g x (by omega) (by omega) pz HM (by omega) HC HG)
        · rw [hg] at HG
          exact Or.inr ⟨x, hF, h1, by omega, hd, goodB_iff.1 hg, fit_yes W kind z q A _ C B _ D hlen x.p x.g x (by omega) (by omega) pz HM (by omega) HC HG⟩
      · exact Or.inl (fit_check W kind z q A _ C B _ D hlen x.p x.g x (by omega) (by omega) pz HM (by omega) _ (by simp only [bne_iff_ne, ne_eq]; exact hc) HC)
end Go.Proofs.YtphpllachnhfbaaGreat

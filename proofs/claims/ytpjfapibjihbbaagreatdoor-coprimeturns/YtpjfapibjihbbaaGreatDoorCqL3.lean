/-
  The statement CoprimeTurns: true, of all sources, lists and parts. No condition but that the program's four factors lie there.
-/
import Derived.Test.YtpjfapibjihbbaaGreatDoorF46
namespace Go.Proofs.YtpjfapibjihbbaaGreatDoor
set_option linter.unusedVariables false
open Go.RowKit

set_option maxRecDepth 100000 in
set_option maxHeartbeats 4000000 in
theorem tr_none (W : World) (kind z q : Int) (A : Option Addr) (L C : Nat) (hG : FacG W) (B : Option Addr) (n D : Nat) (a : Int) (i : Bool) (hlen : (n : Int) ≤ 9223372036854775807) (HM : AnsB W 6 #[srcV kind z q A L C] noV) : AnsB W 4 #[srcV kind z q A L C, .slice B n D, .int .i64 a, .bool i] (.bool true) := by
  intro w hw
  obtain ⟨t0, t1, t2, t3⟩ := four_cells w (.int .i64 kind) (.int .i64 z) (.int .u64 q) (.slice A L C) 25
  obtain ⟨V, hV⟩ : ∃ V, w.alloc (.cells #[.int .i64 kind, .int .i64 z, .int .u64 q, .slice A L C] 25) = V := ⟨_, rfl⟩
  have hBV : Below w.heap.size w V := hV ▸ below_alloc _ _
  obtain ⟨bo, hbo⟩ : ∃ bo, w.heap.size = bo := ⟨_, rfl⟩
  have hVs : bo < V.heap.size := by rw [← hV, ← hbo]; simp
  rw [hV, hbo] at t0 t1 t2 t3
  have hWV := bb hw hBV
  go_enter Tryz.func4, Tryz.ntmps4
  go_wp2_with (first
    | (go_at_call 5; with_reducible refine AnsB.use (alive15 _) hWV fun w1 hb1 => ?_; have s0 := keep_cell hb1 hVs t0; have s1 := keep_cell hb1 hVs t1; have s2 := keep_cell hb1 hVs t2; have s3 := keep_cell hb1 hVs t3; have hW1 := bb hWV hb1)
    | (go_at_call 6; with_reducible refine AnsB.use HM hW1 fun w2 hb2 => ?_; have hW2 := bb hW1 hb2))
  go_ret
  exact ⟨rfl, bb hBV (bb hb1 hb2)⟩
set_option maxRecDepth 100000 in
set_option maxHeartbeats 4000000 in
theorem tr_long (W : World) (kind z q : Int) (A : Option Addr) (L C : Nat) (hG : FacG W) (B : Option Addr) (n D : Nat) (a : Int) (i : Bool) (hlen : (n : Int) ≤ 9223372036854775807) (p g : Nat) (x : En) (p0 : 2 < p) (p1 : p < 9223372036854775808) (pz : ((p : Int) == 0) = false) (HM : Made W (srcV kind z q A L C) (p : Int) (g : Int) x) (h : 240 < (n : Int)) (hd : decide ((240 : Int) < (n : Int)) = true) : AnsB W 4 #[srcV kind z q A L C, .slice B n D, .int .i64 a, .bool i] (.bool true) := by
  intro w hw
  obtain ⟨t0, t1, t2, t3⟩ := four_cells w (.int .i64 kind) (.int .i64 z) (.int .u64 q) (.slice A L C) 25
  obtain ⟨V, hV⟩ : ∃ V, w.alloc (.cells #[.int .i64 kind, .int .i64 z, .int .u64 q, .slice A L C] 25) = V := ⟨_, rfl⟩
  have hBV : Below w.heap.size w V := hV ▸ below_alloc _ _
  obtain ⟨bo, hbo⟩ : ∃ bo, w.heap.size = bo := ⟨_, rfl⟩
  have hVs : bo < V.heap.size := by rw [← hV, ← hbo]; simp
  rw [hV, hbo] at t0 t1 t2 t3
  have hWV := bb hw hBV
  go_enter Tryz.func4, Tryz.ntmps4
  go_wp2_with (first
    | (go_at_call 5; with_reducible refine AnsB.use (alive15 _) hWV fun w1 hb1 => ?_; have s0 := keep_cell hb1 hVs t0; have s1 := keep_cell hb1 hVs t1; have s2 := keep_cell hb1 hVs t2; have s3 := keep_cell hb1 hVs t3; have hW1 := bb hWV hb1)
    | (go_at_call 6; with_reducible refine Made.use HM hW1 fun fb w2 hF hb2 => ?_; have hW2 := bb hW1 hb2))
  go_ret
  exact ⟨rfl, bb hBV (bb hb1 hb2)⟩
set_option maxRecDepth 100000 in
set_option maxHeartbeats 4000000 in
theorem tr_err (W : World) (kind z q : Int) (A : Option Addr) (L C : Nat) (hG : FacG W) (B : Option Addr) (n D : Nat) (a : Int) (i : Bool) (hlen : (n : Int) ≤ 9223372036854775807) (p g : Nat) (x : En) (p0 : 2 < p) (p1 : p < 9223372036854775808) (pz : ((p : Int) == 0) = false) (HM : Made W (srcV kind z q A L C) (p : Int) (g : Int) x) (h : (n : Int) ≤ 240) (hd : decide ((240 : Int) < (n : Int)) = false) (e : Int) (he : (e != 0) = true)
    (HFA : ∀ w, Below W.heap.size W w → AnsB w 9 #[.int .u64 (p : Int), .slice B n D, .int .i64 a] (.int .i64 e)) : AnsB W 4 #[srcV kind z q A L C, .slice B n D, .int .i64 a, .bool i] (.bool true) := by
  intro w hw
  obtain ⟨t0, t1, t2, t3⟩ := four_cells w (.int .i64 kind) (.int .i64 z) (.int .u64 q) (.slice A L C) 25
  obtain ⟨V, hV⟩ : ∃ V, w.alloc (.cells #[.int .i64 kind, .int .i64 z, .int .u64 q, .slice A L C] 25) = V := ⟨_, rfl⟩
  have hBV : Below w.heap.size w V := hV ▸ below_alloc _ _
  obtain ⟨bo, hbo⟩ : ∃ bo, w.heap.size = bo := ⟨_, rfl⟩
  have hVs : bo < V.heap.size := by rw [← hV, ← hbo]; simp
  rw [hV, hbo] at t0 t1 t2 t3
  have hWV := bb hw hBV
  go_enter Tryz.func4, Tryz.ntmps4
  go_wp2_with (first
    | (go_at_call 5; with_reducible refine AnsB.use (alive15 _) hWV fun w1 hb1 => ?_; have s0 := keep_cell hb1 hVs t0; have s1 := keep_cell hb1 hVs t1; have s2 := keep_cell hb1 hVs t2; have s3 := keep_cell hb1 hVs t3; have hW1 := bb hWV hb1)
    | (go_at_call 6; with_reducible refine Made.use HM hW1 fun fb w2 hF hb2 => ?_; have hW2 := bb hW1 hb2; have HG2 := HFA w2 hW2)
    | (go_at_call 9; with_reducible refine AnsB.use HG2 (Below.refl _ _) fun w7 hb7 => ?_; have hW7 := bb hW2 hb7))
  go_ret
  exact ⟨rfl, bb hBV (bb hb1 (bb hb2 hb7))⟩
set_option maxRecDepth 100000 in
set_option maxHeartbeats 4000000 in
theorem tr_yes (W : World) (kind z q : Int) (A : Option Addr) (L C : Nat) (hG : FacG W) (B : Option Addr) (n D : Nat) (a c : Nat) (i : Bool) (hlen : (n : Int) ≤ 9223372036854775807) (ha : ¬ (a : Int) = 0) (hc : Int.tdiv (n : Int) (a : Int) = (c : Int)) (hcw : wrap64 (c : Int) = (c : Int)) (xs ys : List Nat) (hX : UAt W B D xs) (h1 : 1 ≤ n) (hxl : xs.length = n) (hal : ys.length = n) (hxs : ∀ y ∈ xs, y < 18446744073709551616) (has : ∀ y ∈ ys, y < 18446744073709551616) (p g : Nat) (x : En) (p0 : 2 < p) (p1 : p < 9223372036854775808) (pz : ((p : Int) == 0) = false) (HM : Made W (srcV kind z q A L C) (p : Int) (g : Int) x) (h : (n : Int) ≤ 240) (hd : decide ((240 : Int) < (n : Int)) = false)
    (HFA : ∀ w, Below W.heap.size W w → AnsB w 9 #[.int .u64 (p : Int), .slice B n D, .int .i64 (a : Int)] (.int .i64 0))
    (H1 : (∀ (w : World) (b : Nat) (B : Option Addr) (D : Nat), FieldAt w b x → FacG w → UAt w B D xs → OwnT w 7 #[pt b, .slice B n D, .int .i64 (a : Int), .bool i] ys))
    (H2 : (∀ (w : World) (b : Nat) (B : Option Addr) (D : Nat), FieldAt w b x → FacG w → UAt w B D xs → OwnT w 7 #[pt b, .slice B n D, .int .i64 (c : Int), .bool i] ys))
    (H3 : (∀ (w : World) (b : Nat) (B : Option Addr) (D : Nat), FieldAt w b x → FacG w → UAt w B D ys → OwnT w 7 #[pt b, .slice B n D, .int .i64 (c : Int), .bool (!i)] xs)) : AnsB W 4 #[srcV kind z q A L C, .slice B n D, .int .i64 (a : Int), .bool i] (.bool true) := by
  intro w hw
  obtain ⟨t0, t1, t2, t3⟩ := four_cells w (.int .i64 kind) (.int .i64 z) (.int .u64 q) (.slice A L C) 25
  obtain ⟨V, hV⟩ : ∃ V, w.alloc (.cells #[.int .i64 kind, .int .i64 z, .int .u64 q, .slice A L C] 25) = V := ⟨_, rfl⟩
  have hBV : Below w.heap.size w V := hV ▸ below_alloc _ _
  obtain ⟨bo, hbo⟩ : ∃ bo, w.heap.size = bo := ⟨_, rfl⟩
  have hVs : bo < V.heap.size := by rw [← hV, ← hbo]; simp
  rw [hV, hbo] at t0 t1 t2 t3
  have hWV := bb hw hBV
  have HN : Hid (1 ≤ n) := h1
  have HXL : Hid (xs.length = n) := hxl
  have HAL2 : Hid (ys.length = n) := hal
  clear h1 hxl hal
  go_enter Tryz.func4, Tryz.ntmps4
  go_wp2_with (first
    | (go_at_call 5; with_reducible refine AnsB.use (alive15 _) hWV fun w1 hb1 => ?_; have s0 := keep_cell hb1 hVs t0; have s1 := keep_cell hb1 hVs t1; have s2 := keep_cell hb1 hVs t2; have s3 := keep_cell hb1 hVs t3; have hW1 := bb hWV hb1)
    | (go_at_call 6; with_reducible refine Made.use HM hW1 fun fb w2 hF hb2 => ?_; have hW2 := bb hW1 hb2; have HG2 := HFA w2 hW2)
    | (go_at_call 9; with_reducible refine AnsB.use HG2 (Below.refl _ _) fun w7 hb7 => ?_; have hW7 := bb hW2 hb7; have HRa := H1 w7 fb B D (hF.below hb7) (hG.below hW7) (hX.below hW7))
    | (go_at_call 7; with_reducible refine OwnT.useG HRz HXL.out HN.out (Below.refl _ _) fun g5 C5 w5 hO5 hb5 => ?_; have hZ5 := hO5.words hxs; have hX5 := hX.below (bb hW4 hb5); have hP5 := hY34.below hb5; have hQ5 := hY4.below hb5; have HQ1 := same_yes hP5 hQ5 HAL2.out)
    | (go_at_call 7; with_reducible refine OwnT.useG HRc HAL2.out HN.out (Below.refl _ _) fun g4 C4 w4 hO4 hb4 => ?_; have hW4 := bb hW3 hb4; have hY34 := hY3.below hb4; have hY4 := hO4.words has; have HRz := H3 w4 fb _ _ (hF3.below hb4) (hG.below hW4) hY34)
    | (go_at_call 7; with_reducible refine OwnT.useG HRa HAL2.out HN.out (Below.refl _ _) fun g3 C3 w3 hO3 hb3 => ?_; have hW3 := bb hW7 hb3; have hF3 := (hF.below hb7).below hb3; have hY3 := hO3.words has; have HRc := H2 w3 fb B D hF3 (hG.below hW3) (hX.below hW3))
    | (go_at_call 8; with_reducible refine AnsB.use HQ2 (Below.refl _ _) fun w9 hb9 => ?_)
    | (go_at_call 8; with_reducible refine AnsB.use HQ1 (Below.refl _ _) fun w8 hb8 => ?_; have HQ2 := same_yes (hZ5.below hb8) (hX5.below hb8) HXL.out))
  go_ret
  exact ⟨rfl, bb hBV (bb hb1 (bb hb2 (bb hb7 (bb hb3 (bb hb4 (bb hb5 (bb hb8 hb9)))))))⟩
theorem tr_any (W : World) (hG : FacG W) (kind z : Int) (hz : z < 9223372036854775808) (q : Nat) (hq : q < 18446744073709551616) (A : Option Addr) (C : Nat) (es : List En) (hE : EntsAt W A C es) (hfs : ∀ x ∈ es, x.fs.length * 16 ≤ 140737488355328) (B : Option Addr) (D : Nat) (xs : List Nat) (hX : UAt W B D xs) (a : Int) (ha : a < 9223372036854775808) (i : Bool) :
    AnsB W 4 #[srcV kind z (q : Int) A es.length C, .slice B xs.length D, .int .i64 a, .bool i] (.bool true) := by
  have hlen := hX.len
  rcases made_any W kind z hz q hq A C es hE hfs with HM | ⟨x, hF, HM⟩
  · exact tr_none W kind z q A _ C hG B _ D a i hlen HM
  · obtain ⟨h3, hodd, hlt⟩ := hF.num
    have pz : ((x.p : Int) == 0) = false := by simp; omega
    by_cases hl : 240 < (xs.length : Int)
    · exact tr_long W kind z q A _ C hG B _ D a i hlen x.p x.g x (by omega) hlt pz HM hl (decide_eq_true hl)
    · have HFA : ∀ w, Below W.heap.size W w → AnsB w 9 #[.int .u64 (x.p : Int), .slice B xs.length D, .int .i64 a] (.int .i64 (ck4 x.p xs a)) := fun w hw => faultc_any (by omega) (by omega) (hX.below hw) a
      by_cases hc : ck4 x.p xs a = 0
      · rw [hc] at HFA
        obtain ⟨a, c, rfl, hac, ha2, hc2, hcop, h1, hn, hd, hg, _, _⟩ := ck4_ok hc
        have hys : ∀ y ∈ dT x i xs, y < 18446744073709551616 := fun y hy => by have := dT_lt hF i xs y hy; omega
        have hdiv : xs.length / a = c := by rw [← hac]; exact Nat.mul_div_cancel_left c (by omega)
        have hcl : c ≤ 1024 := by have := Nat.div_le_self xs.length a; omega
        have hco := ck4_other hc hac
        refine tr_yes W kind z q A _ C hG B _ D a c i hlen (by omega) (divB hdiv) (wrN (by omega)) xs (dT x i xs) hX h1 rfl (dT_len _ _ _) hX.small hys x.p x.g x (by omega) hlt pz HM (by omega) (decide_eq_false hl) HFA
          (fun w b B D F G U => runc_ok F hF G U hc i) (fun w b B D F G U => runc_ok F hF G U hco i) (fun w b B D F G U => ?_)
        have := runc_ok F hF G U (ck4_dT hF hco) (!i)
        have e : dT x (!i) (dT x i xs) = xs := by
          cases i
          · exact dT_back hF h1 hd hg
          · exact dT_forth hF h1 hd hg
        rw [dT_len, e] at this
        exact this
      · exact tr_err W kind z q A _ C hG B _ D a i hlen x.p x.g x (by omega) hlt pz HM (by omega) (decide_eq_false hl) _ (by simp only [bne_iff_ne, ne_eq]; exact hc) HFA
end Go.Proofs.YtpjfapibjihbbaaGreatDoor

/-
  The statement CoprimeIs: true, of all sources, lists and parts. No condition but that the program's four factors lie there.
-/
import Derived.Test.YtpjfapibjihbbaaGreatDoorF46
import Derived.Test.YtpjfapibjihbbaaGreatDoorWc
namespace Go.Proofs.YtpjfapibjihbbaaGreatDoor
set_option linter.unusedVariables false
open Go.RowKit

set_option maxRecDepth 100000 in
set_option maxHeartbeats 4000000 in
theorem is_long (W : World) (kind z q : Int) (A : Option Addr) (L C : Nat) (hG : FacG W) (B : Option Addr) (n D : Nat) (a : Int) (i : Bool) (hlen : (n : Int) ≤ 9223372036854775807) (h : 1100 < (n : Int)) : AnsB W 3 #[srcV kind z q A L C, .slice B n D, .int .i64 a, .bool i] (.bool true) := by
  intro w hw
  obtain ⟨t0, t1, t2, t3⟩ := four_cells w (.int .i64 kind) (.int .i64 z) (.int .u64 q) (.slice A L C) 25
  obtain ⟨V, hV⟩ : ∃ V, w.alloc (.cells #[.int .i64 kind, .int .i64 z, .int .u64 q, .slice A L C] 25) = V := ⟨_, rfl⟩
  have hBV : Below w.heap.size w V := hV ▸ below_alloc _ _
  obtain ⟨bo, hbo⟩ : ∃ bo, w.heap.size = bo := ⟨_, rfl⟩
  have hVs : bo < V.heap.size := by rw [← hV, ← hbo]; simp
  rw [hV, hbo] at t0 t1 t2 t3
  have hWV := bb hw hBV
  go_enter Tryz.func3, Tryz.ntmps3
  go_wp2_with (first
    | (go_at_call 5; with_reducible refine AnsB.use (alive15 _) hWV fun w1 hb1 => ?_; have s0 := keep_cell hb1 hVs t0; have s1 := keep_cell hb1 hVs t1; have s2 := keep_cell hb1 hVs t2; have s3 := keep_cell hb1 hVs t3; have hW1 := bb hWV hb1))
  go_ret
  exact ⟨rfl, bb hBV hb1⟩
set_option maxRecDepth 100000 in
set_option maxHeartbeats 4000000 in
theorem is_none (W : World) (kind z q : Int) (A : Option Addr) (L C : Nat) (hG : FacG W) (B : Option Addr) (n D : Nat) (a : Int) (i : Bool) (xs : List Nat) (hX : UAt W B D xs) (hxl : xs.length = n) (hn : (n : Int) ≤ 1100) (HM : AnsB W 6 #[srcV kind z q A L C] noV) : AnsB W 3 #[srcV kind z q A L C, .slice B n D, .int .i64 a, .bool i] (.bool true) := by
  intro w hw
  obtain ⟨t0, t1, t2, t3⟩ := four_cells w (.int .i64 kind) (.int .i64 z) (.int .u64 q) (.slice A L C) 25
  obtain ⟨V, hV⟩ : ∃ V, w.alloc (.cells #[.int .i64 kind, .int .i64 z, .int .u64 q, .slice A L C] 25) = V := ⟨_, rfl⟩
  have hBV : Below w.heap.size w V := hV ▸ below_alloc _ _
  obtain ⟨bo, hbo⟩ : ∃ bo, w.heap.size = bo := ⟨_, rfl⟩
  have hVs : bo < V.heap.size := by rw [← hV, ← hbo]; simp
  rw [hV, hbo] at t0 t1 t2 t3
  have hWV := bb hw hBV
  have HXL : Hid (xs.length = n) := hxl
  have hlen : (n : Int) ≤ 9223372036854775807 := by omega
  clear hxl
  go_enter Tryz.func3, Tryz.ntmps3
  go_wp2_with (first
    | (go_at_call 5; with_reducible refine AnsB.use (alive15 _) hWV fun w1 hb1 => ?_; have s0 := keep_cell hb1 hVs t0; have s1 := keep_cell hb1 hVs t1; have s2 := keep_cell hb1 hVs t2; have s3 := keep_cell hb1 hVs t3; have hW1 := bb hWV hb1)
    | (go_at_call 6; with_reducible refine AnsB.use HM hW1 fun w2 hb2 => ?_; have hW2 := bb hW1 hb2)
    | (at_builtin; refine Hid.out ?_))
  unfold Hid
  refine wp_copy' hX HXL.out hW2 (by omega) rfl _ _ rfl rfl rfl ?_
  intro A3 C3 w3 hU3 hB3
  have hX3 := (hX.below hW2).below hB3
  have hB0 := bb hBV (bb hb1 (bb hb2 hB3))
  have hW3 := bb hW2 hB3
  have HR1 := runc_nil w3 A3 n C3 a i hlen
  go_wp2_with (first
    | (go_at_call 7; with_reducible refine AnsB.use HR1 (Below.refl _ _) fun w4 hb4 => ?_; have HS1 := same_yes (hU3.below hb4) (hX3.below hb4) HXL.out)
    | (go_at_call 8; with_reducible refine AnsB.use HS1 (Below.refl _ _) fun w5 hb5 => ?_))
  go_ret
  exact ⟨rfl, bb hB0 (bb hb4 hb5)⟩
set_option maxRecDepth 100000 in
set_option maxHeartbeats 4000000 in
theorem is_err (W : World) (kind z q : Int) (A : Option Addr) (L C : Nat) (hG : FacG W) (B : Option Addr) (n D : Nat) (a : Int) (i : Bool) (xs : List Nat) (hX : UAt W B D xs) (hxl : xs.length = n) (hn : (n : Int) ≤ 1100) (p g : Nat) (x : En) (p0 : 2 < p) (p1 : p < 9223372036854775808) (pz : ((p : Int) == 0) = false) (HM : Made W (srcV kind z q A L C) (p : Int) (g : Int) x) (e : Int) (he : (e != 0) = true) (he0 : (e == 0) = false)
    (HU : ∀ (w : World) (b : Nat) (A : Option Addr) (C : Nat), FieldAt w b x → FacG w → UAt w A C xs → AnsB w 7 #[pt b, .slice A n C, .int .i64 a, .bool i] (.tuple #[.slice none 0 0, .int .i64 e]))
    (HFA : ∀ w, Below W.heap.size W w → AnsB w 9 #[.int .u64 (p : Int), .slice B n D, .int .i64 a] (.int .i64 e)) : AnsB W 3 #[srcV kind z q A L C, .slice B n D, .int .i64 a, .bool i] (.bool true) := by
  intro w hw
  obtain ⟨t0, t1, t2, t3⟩ := four_cells w (.int .i64 kind) (.int .i64 z) (.int .u64 q) (.slice A L C) 25
  obtain ⟨V, hV⟩ : ∃ V, w.alloc (.cells #[.int .i64 kind, .int .i64 z, .int .u64 q, .slice A L C] 25) = V := ⟨_, rfl⟩
  have hBV : Below w.heap.size w V := hV ▸ below_alloc _ _
  obtain ⟨bo, hbo⟩ : ∃ bo, w.heap.size = bo := ⟨_, rfl⟩
  have hVs : bo < V.heap.size := by rw [← hV, ← hbo]; simp
  rw [hV, hbo] at t0 t1 t2 t3
  have hWV := bb hw hBV
  have HXL : Hid (xs.length = n) := hxl
  have hlen : (n : Int) ≤ 9223372036854775807 := by omega
  have hee : (e == e) = true := by simp
  clear hxl
  go_enter Tryz.func3, Tryz.ntmps3
  go_wp2_with (first
    | (go_at_call 5; with_reducible refine AnsB.use (alive15 _) hWV fun w1 hb1 => ?_; have s0 := keep_cell hb1 hVs t0; have s1 := keep_cell hb1 hVs t1; have s2 := keep_cell hb1 hVs t2; have s3 := keep_cell hb1 hVs t3; have hW1 := bb hWV hb1)
    | (go_at_call 6; with_reducible refine Made.use HM hW1 fun fb w2 hF hb2 => ?_; have hW2 := bb hW1 hb2)
    | (at_builtin; refine Hid.out ?_))
  unfold Hid
  refine wp_copy' hX HXL.out hW2 (by omega) rfl _ _ rfl rfl rfl ?_
  intro A3 C3 w3 hU3 hB3
  have hX3 := (hX.below hW2).below hB3
  have hB0 := bb hBV (bb hb1 (bb hb2 hB3))
  have hW3 := bb hW2 hB3
  have HR1 := HU w3 fb A3 C3 (hF.below hB3) (hG.below hW3) hU3
  go_wp2_with (first
    | (go_at_call 7; with_reducible refine AnsB.use HR1 (Below.refl _ _) fun w4 hb4 => ?_; have HS1 := same_yes (hU3.below hb4) (hX3.below hb4) HXL.out)
    | (go_at_call 8; with_reducible refine AnsB.use HS1 (Below.refl _ _) fun w5 hb5 => ?_; have hW5 := bb hW3 (bb hb4 hb5); have HG5 := HFA w5 hW5)
    | (go_at_call 9; with_reducible refine AnsB.use HG5 (Below.refl _ _) fun w7 hb7 => ?_; have hW7 := bb hW5 hb7))
  go_ret
  exact ⟨by first | rfl | simp, bb hB0 (bb hb4 (bb hb5 hb7))⟩
set_option maxRecDepth 100000 in
set_option maxHeartbeats 4000000 in
theorem is_many (W : World) (kind z q : Int) (A : Option Addr) (L C : Nat) (hG : FacG W) (B : Option Addr) (n D : Nat) (a : Int) (i : Bool) (xs : List Nat) (hX : UAt W B D xs) (hxl : xs.length = n) (hn : (n : Int) ≤ 1100) (p g : Nat) (x : En) (p0 : 2 < p) (p1 : p < 9223372036854775808) (pz : ((p : Int) == 0) = false) (HM : Made W (srcV kind z q A L C) (p : Int) (g : Int) x) (ys : List Nat) (hyl : ys.length = n) (h1 : 1 ≤ n) (hys : ∀ y ∈ ys, y < 18446744073709551616) (h32 : 42 < (n : Int))
    (HU : ∀ (w : World) (b : Nat) (A : Option Addr) (C : Nat), FieldAt w b x → FacG w → UAt w A C xs → OwnT w 7 #[pt b, .slice A n C, .int .i64 a, .bool i] ys)
    (HFA : ∀ w, Below W.heap.size W w → AnsB w 9 #[.int .u64 (p : Int), .slice B n D, .int .i64 a] (.int .i64 0)) : AnsB W 3 #[srcV kind z q A L C, .slice B n D, .int .i64 a, .bool i] (.bool true) := by
  intro w hw
  obtain ⟨t0, t1, t2, t3⟩ := four_cells w (.int .i64 kind) (.int .i64 z) (.int .u64 q) (.slice A L C) 25
  obtain ⟨V, hV⟩ : ∃ V, w.alloc (.cells #[.int .i64 kind, .int .i64 z, .int .u64 q, .slice A L C] 25) = V := ⟨_, rfl⟩
  have hBV : Below w.heap.size w V := hV ▸ below_alloc _ _
  obtain ⟨bo, hbo⟩ : ∃ bo, w.heap.size = bo := ⟨_, rfl⟩
  have hVs : bo < V.heap.size := by rw [← hV, ← hbo]; simp
  rw [hV, hbo] at t0 t1 t2 t3
  have hWV := bb hw hBV
  have HXL : Hid (xs.length = n) := hxl
  have hlen : (n : Int) ≤ 9223372036854775807 := by omega
  have HYL : Hid (ys.length = n) := hyl
  have HN : Hid (1 ≤ n) := h1
  clear hyl h1
  have hnn : ((n : Int) == (n : Int)) = true := by simp
  clear hxl
  go_enter Tryz.func3, Tryz.ntmps3
  go_wp2_with (first
    | (go_at_call 5; with_reducible refine AnsB.use (alive15 _) hWV fun w1 hb1 => ?_; have s0 := keep_cell hb1 hVs t0; have s1 := keep_cell hb1 hVs t1; have s2 := keep_cell hb1 hVs t2; have s3 := keep_cell hb1 hVs t3; have hW1 := bb hWV hb1)
    | (go_at_call 6; with_reducible refine Made.use HM hW1 fun fb w2 hF hb2 => ?_; have hW2 := bb hW1 hb2)
    | (at_builtin; refine Hid.out ?_))
  unfold Hid
  refine wp_copy' hX HXL.out hW2 (by omega) rfl _ _ rfl rfl rfl ?_
  intro A3 C3 w3 hU3 hB3
  have hX3 := (hX.below hW2).below hB3
  have hB0 := bb hBV (bb hb1 (bb hb2 hB3))
  have hW3 := bb hW2 hB3
  have HR1 := HU w3 fb A3 C3 (hF.below hB3) (hG.below hW3) hU3
  go_wp2_with (first
    | (go_at_call 7; with_reducible refine OwnT.useG HR1 HYL.out HN.out (Below.refl _ _) fun g4 C4 w4 hO4 hb4 => ?_; have HS1 := same_yes (hU3.below hb4) (hX3.below hb4) HXL.out; have hY4 := hO4.words hys)
    | (go_at_call 8; with_reducible refine AnsB.use HS1 (Below.refl _ _) fun w5 hb5 => ?_; have hW5 := bb hW3 (bb hb4 hb5); have HG5 := HFA w5 hW5; have hY45 := hY4.below hb5)
    | (go_at_call 9; with_reducible refine AnsB.use HG5 (Below.refl _ _) fun w7 hb7 => ?_; have hW7 := bb hW5 hb7))
  go_ret
  exact ⟨by first | rfl | simp, bb hB0 (bb hb4 (bb hb5 hb7))⟩
set_option maxRecDepth 100000 in
set_option maxHeartbeats 4000000 in
theorem is_few (W : World) (kind z q : Int) (A : Option Addr) (L C : Nat) (hG : FacG W) (B : Option Addr) (n D : Nat) (a : Int) (i : Bool) (xs : List Nat) (hX : UAt W B D xs) (hxl : xs.length = n) (hn : (n : Int) ≤ 1100) (p g : Nat) (x : En) (p0 : 2 < p) (p1 : p < 9223372036854775808) (pz : ((p : Int) == 0) = false) (HM : Made W (srcV kind z q A L C) (p : Int) (g : Int) x) (ys : List Nat) (hyl : ys.length = n) (h1 : 1 ≤ n) (hys : ∀ y ∈ ys, y < 18446744073709551616) (h32 : (n : Int) ≤ 42)
    (HU : ∀ (w : World) (b : Nat) (A : Option Addr) (C : Nat), FieldAt w b x → FacG w → UAt w A C xs → OwnT w 7 #[pt b, .slice A n C, .int .i64 a, .bool i] ys)
    (HFA : ∀ w, Below W.heap.size W w → AnsB w 9 #[.int .u64 (p : Int), .slice B n D, .int .i64 a] (.int .i64 0))
    (HDo : ∀ w, Below W.heap.size W w → OwnR w 10 #[.int .u64 (p : Int), .int .u64 (g : Int), .slice B n D, .bool i] ys) : AnsB W 3 #[srcV kind z q A L C, .slice B n D, .int .i64 a, .bool i] (.bool true) := by
  intro w hw
  obtain ⟨t0, t1, t2, t3⟩ := four_cells w (.int .i64 kind) (.int .i64 z) (.int .u64 q) (.slice A L C) 25
  obtain ⟨V, hV⟩ : ∃ V, w.alloc (.cells #[.int .i64 kind, .int .i64 z, .int .u64 q, .slice A L C] 25) = V := ⟨_, rfl⟩
  have hBV : Below w.heap.size w V := hV ▸ below_alloc _ _
  obtain ⟨bo, hbo⟩ : ∃ bo, w.heap.size = bo := ⟨_, rfl⟩
  have hVs : bo < V.heap.size := by rw [← hV, ← hbo]; simp
  rw [hV, hbo] at t0 t1 t2 t3
  have hWV := bb hw hBV
  have HXL : Hid (xs.length = n) := hxl
  have hlen : (n : Int) ≤ 9223372036854775807 := by omega
  have HYL : Hid (ys.length = n) := hyl
  have HN : Hid (1 ≤ n) := h1
  clear hyl h1
  have hnn : ((n : Int) == (n : Int)) = true := by simp
  clear hxl
  go_enter Tryz.func3, Tryz.ntmps3
  go_wp2_with (first
    | (go_at_call 5; with_reducible refine AnsB.use (alive15 _) hWV fun w1 hb1 => ?_; have s0 := keep_cell hb1 hVs t0; have s1 := keep_cell hb1 hVs t1; have s2 := keep_cell hb1 hVs t2; have s3 := keep_cell hb1 hVs t3; have hW1 := bb hWV hb1)
    | (go_at_call 6; with_reducible refine Made.use HM hW1 fun fb w2 hF hb2 => ?_; have hW2 := bb hW1 hb2)
    | (at_builtin; refine Hid.out ?_))
  unfold Hid
  refine wp_copy' hX HXL.out hW2 (by omega) rfl _ _ rfl rfl rfl ?_
  intro A3 C3 w3 hU3 hB3
  have hX3 := (hX.below hW2).below hB3
  have hB0 := bb hBV (bb hb1 (bb hb2 hB3))
  have hW3 := bb hW2 hB3
  have HR1 := HU w3 fb A3 C3 (hF.below hB3) (hG.below hW3) hU3
  go_wp2_with (first
    | (go_at_call 7; with_reducible refine OwnT.useG HR1 HYL.out HN.out (Below.refl _ _) fun g4 C4 w4 hO4 hb4 => ?_; have HS1 := same_yes (hU3.below hb4) (hX3.below hb4) HXL.out; have hY4 := hO4.words hys)
    | (go_at_call 10; with_reducible refine OwnR.useG (HDo w7 hW7) HYL.out HN.out (Below.refl _ _) fun g8 C8 w8 hO8 hb8 => ?_; have hY8 := hO8.words hys; have HS2 := same_yes ((hY45.below hb7).below hb8) hY8 HYL.out)
    | (go_at_call 8; with_reducible refine AnsB.use HS2 (Below.refl _ _) fun w9 hb9 => ?_)
    | (go_at_call 8; with_reducible refine AnsB.use HS1 (Below.refl _ _) fun w5 hb5 => ?_; have hW5 := bb hW3 (bb hb4 hb5); have HG5 := HFA w5 hW5; have hY45 := hY4.below hb5)
    | (go_at_call 9; with_reducible refine AnsB.use HG5 (Below.refl _ _) fun w7 hb7 => ?_; have hW7 := bb hW5 hb7))
  go_ret
  exact ⟨by first | rfl | simp, bb hB0 (bb hb4 (bb hb5 (bb hb7 (bb hb8 hb9))))⟩
theorem is_any (W : World) (hG : FacG W) (kind z : Int) (hz : z < 9223372036854775808) (q : Nat) (hq : q < 18446744073709551616) (A : Option Addr) (C : Nat) (es : List En) (hE : EntsAt W A C es) (hfs : ∀ x ∈ es, x.fs.length * 16 ≤ 140737488355328) (B : Option Addr) (D : Nat) (xs : List Nat) (hX : UAt W B D xs) (a : Int) (ha : a < 9223372036854775808) (i : Bool) :
    AnsB W 3 #[srcV kind z (q : Int) A es.length C, .slice B xs.length D, .int .i64 a, .bool i] (.bool true) := by
  have hlen := hX.len
  by_cases hl : 1100 < (xs.length : Int)
  · exact is_long W kind z q A _ C hG B _ D a i hlen hl
  · rcases made_any W kind z hz q hq A C es hE hfs with HM | ⟨x, hF, HM⟩
    · exact is_none W kind z q A _ C hG B _ D a i xs hX rfl (by omega) HM
    · obtain ⟨h3, hodd, hlt⟩ := hF.num
      have pz : ((x.p : Int) == 0) = false := by simp; omega
      have HFA : ∀ w, Below W.heap.size W w → AnsB w 9 #[.int .u64 (x.p : Int), .slice B xs.length D, .int .i64 a] (.int .i64 (ck4 x.p xs a)) := fun w hw => faultc_any (by omega) (by omega) (hX.below hw) a
      by_cases hc : ck4 x.p xs a = 0
      · obtain ⟨_, _, _, _, _, _, _, h1, _, hd, _, _, _⟩ := ck4_ok hc
        have hys : ∀ y ∈ dT x i xs, y < 18446744073709551616 := fun y hy => by have := dT_lt hF i xs y hy; omega
        rw [hc] at HFA
        by_cases h32 : 42 < (xs.length : Int)
        · exact is_many W kind z q A _ C hG B _ D a i xs hX rfl (by omega) x.p x.g x (by omega) hlt pz HM (dT x i xs) (dT_len _ _ _) h1 hys h32 (fun w b A C F G U => runc_ok F hF G U hc i) HFA
        · exact is_few W kind z q A _ C hG B _ D a i xs hX rfl (by omega) x.p x.g x (by omega) hlt pz HM (dT x i xs) (dT_len _ _ _) h1 hys (by omega) (fun w b A C F G U => runc_ok F hF G U hc i) HFA
            (fun w hw => drun_any hF (hX.below hw) h1 (by omega) hd i)
      · exact is_err W kind z q A _ C hG B _ D a i xs hX rfl (by omega) x.p x.g x (by omega) hlt pz HM _ (by simp only [bne_iff_ne, ne_eq]; exact hc) (by simp only [beq_eq_false_iff_ne, ne_eq]; exact hc) (fun w b A C F G U => runc_bad F U hc i) HFA
end Go.Proofs.YtpjfapibjihbbaaGreatDoor

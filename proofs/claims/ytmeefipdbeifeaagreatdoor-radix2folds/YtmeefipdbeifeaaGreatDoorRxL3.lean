/-
  The statement Radix2Folds: true, of all sources and lists. No condition but that the library's table lies there.
-/
import Derived.Test.YtmeefipdbeifeaaGreatDoorRxL1
import Derived.Test.YtmeefipdbeifeaaGreatDoorRxF
import Derived.Test.YtmeefipdbeifeaaGreatDoorRg2
import Derived.Deep.RegionHeld3
import Derived.Deep.AppendLies
import Derived.Deep.RegionWith
import Derived.BigQuiet
namespace Go.Proofs.YtmeefipdbeifeaaGreatDoor
set_option linter.unusedVariables false
open Go.RowKit

set_option maxRecDepth 100000 in
set_option maxHeartbeats 4000000 in
theorem folds_none (W : World) (kind z q : Int) (A : Option Addr) (L C : Nat) (HAL : AnsB W 7 #[] (.bool true)) (B : Option Addr) (n D : Nat) (hlen : (n : Int) ≤ 9223372036854775807) (HM : AnsB W 8 #[srcV kind z q A L C] noV) : AnsB W 6 #[srcV kind z q A L C, .slice B n D] (.bool true) := by
  intro w hw
  obtain ⟨t0, t1, t2, t3⟩ := four_cells w (.int .i64 kind) (.int .i64 z) (.int .u64 q) (.slice A L C) 25
  obtain ⟨V, hV⟩ : ∃ V, w.alloc (.cells #[.int .i64 kind, .int .i64 z, .int .u64 q, .slice A L C] 25) = V := ⟨_, rfl⟩
  have hBV : Below w.heap.size w V := hV ▸ below_alloc _ _
  obtain ⟨bo, hbo⟩ : ∃ bo, w.heap.size = bo := ⟨_, rfl⟩
  have hVs : bo < V.heap.size := by rw [← hV, ← hbo]; simp
  rw [hV, hbo] at t0 t1 t2 t3
  have hWV := bb hw hBV
  go_enter Tryz.func6, Tryz.ntmps6
  go_wp2_with (first
    | (go_at_call 7; with_reducible refine AnsB.use HAL hWV fun w1 hb1 => ?_; have s0 := keep_cell hb1 hVs t0; have s1 := keep_cell hb1 hVs t1; have s2 := keep_cell hb1 hVs t2; have s3 := keep_cell hb1 hVs t3; have hW1 := bb hWV hb1)
    | (go_at_call 8; with_reducible refine AnsB.use HM hW1 fun w2 hb2 => ?_; have hW2 := bb hW1 hb2))
  go_ret
  exact ⟨rfl, bb hBV (bb hb1 hb2)⟩
set_option maxRecDepth 100000 in
set_option maxHeartbeats 4000000 in
theorem folds_small (W : World) (kind z q : Int) (A : Option Addr) (L C : Nat) (HAL : AnsB W 7 #[] (.bool true)) (B : Option Addr) (n D : Nat) (hlen : (n : Int) ≤ 9223372036854775807) (p g : Nat) (x : En) (p0 : 2 < p) (p1 : p < 9223372036854775808) (pz : ((p : Int) == 0) = false) (HM : Made W (srcV kind z q A L C) (p : Int) (g : Int) x) (h : (n : Int) < 2) (hd : decide ((n : Int) < 2) = true) : AnsB W 6 #[srcV kind z q A L C, .slice B n D] (.bool true) := by
  intro w hw
  obtain ⟨t0, t1, t2, t3⟩ := four_cells w (.int .i64 kind) (.int .i64 z) (.int .u64 q) (.slice A L C) 25
  obtain ⟨V, hV⟩ : ∃ V, w.alloc (.cells #[.int .i64 kind, .int .i64 z, .int .u64 q, .slice A L C] 25) = V := ⟨_, rfl⟩
  have hBV : Below w.heap.size w V := hV ▸ below_alloc _ _
  obtain ⟨bo, hbo⟩ : ∃ bo, w.heap.size = bo := ⟨_, rfl⟩
  have hVs : bo < V.heap.size := by rw [← hV, ← hbo]; simp
  rw [hV, hbo] at t0 t1 t2 t3
  have hWV := bb hw hBV
  go_enter Tryz.func6, Tryz.ntmps6
  go_wp2_with (first
    | (go_at_call 7; with_reducible refine AnsB.use HAL hWV fun w1 hb1 => ?_; have s0 := keep_cell hb1 hVs t0; have s1 := keep_cell hb1 hVs t1; have s2 := keep_cell hb1 hVs t2; have s3 := keep_cell hb1 hVs t3; have hW1 := bb hWV hb1)
    | (go_at_call 8; with_reducible refine Made.use HM hW1 fun fb w2 hF hb2 => ?_; have hW2 := bb hW1 hb2))
  go_ret
  exact ⟨rfl, bb hBV (bb hb1 hb2)⟩
set_option maxRecDepth 100000 in
set_option maxHeartbeats 4000000 in
theorem folds_long (W : World) (kind z q : Int) (A : Option Addr) (L C : Nat) (HAL : AnsB W 7 #[] (.bool true)) (B : Option Addr) (n D : Nat) (hlen : (n : Int) ≤ 9223372036854775807) (p g : Nat) (x : En) (p0 : 2 < p) (p1 : p < 9223372036854775808) (pz : ((p : Int) == 0) = false) (HM : Made W (srcV kind z q A L C) (p : Int) (g : Int) x) (h2 : (2 : Int) ≤ (n : Int)) (hd2 : decide ((n : Int) < 2) = false) (h : 128 < (n : Int)) (hd : decide ((128 : Int) < (n : Int)) = true) : AnsB W 6 #[srcV kind z q A L C, .slice B n D] (.bool true) := by
  intro w hw
  obtain ⟨t0, t1, t2, t3⟩ := four_cells w (.int .i64 kind) (.int .i64 z) (.int .u64 q) (.slice A L C) 25
  obtain ⟨V, hV⟩ : ∃ V, w.alloc (.cells #[.int .i64 kind, .int .i64 z, .int .u64 q, .slice A L C] 25) = V := ⟨_, rfl⟩
  have hBV : Below w.heap.size w V := hV ▸ below_alloc _ _
  obtain ⟨bo, hbo⟩ : ∃ bo, w.heap.size = bo := ⟨_, rfl⟩
  have hVs : bo < V.heap.size := by rw [← hV, ← hbo]; simp
  rw [hV, hbo] at t0 t1 t2 t3
  have hWV := bb hw hBV
  go_enter Tryz.func6, Tryz.ntmps6
  go_wp2_with (first
    | (go_at_call 7; with_reducible refine AnsB.use HAL hWV fun w1 hb1 => ?_; have s0 := keep_cell hb1 hVs t0; have s1 := keep_cell hb1 hVs t1; have s2 := keep_cell hb1 hVs t2; have s3 := keep_cell hb1 hVs t3; have hW1 := bb hWV hb1)
    | (go_at_call 8; with_reducible refine Made.use HM hW1 fun fb w2 hF hb2 => ?_; have hW2 := bb hW1 hb2))
  go_ret
  exact ⟨rfl, bb hBV (bb hb1 hb2)⟩
set_option maxRecDepth 100000 in
set_option maxHeartbeats 4000000 in
theorem folds_kind (W : World) (kind z q : Int) (A : Option Addr) (L C : Nat) (HAL : AnsB W 7 #[] (.bool true)) (B : Option Addr) (n D : Nat) (hlen : (n : Int) ≤ 9223372036854775807) (p g : Nat) (x : En) (p0 : 2 < p) (p1 : p < 9223372036854775808) (pz : ((p : Int) == 0) = false) (HM : Made W (srcV kind z q A L C) (p : Int) (g : Int) x) (h2 : (2 : Int) ≤ (n : Int)) (hd2 : decide ((n : Int) < 2) = false) (h : (n : Int) ≤ 128) (hd : decide ((128 : Int) < (n : Int)) = false) (HFT : Ans 13 #[.int .i64 (n : Int)] (.bool false)) : AnsB W 6 #[srcV kind z q A L C, .slice B n D] (.bool true) := by
  intro w hw
  obtain ⟨t0, t1, t2, t3⟩ := four_cells w (.int .i64 kind) (.int .i64 z) (.int .u64 q) (.slice A L C) 25
  obtain ⟨V, hV⟩ : ∃ V, w.alloc (.cells #[.int .i64 kind, .int .i64 z, .int .u64 q, .slice A L C] 25) = V := ⟨_, rfl⟩
  have hBV : Below w.heap.size w V := hV ▸ below_alloc _ _
  obtain ⟨bo, hbo⟩ : ∃ bo, w.heap.size = bo := ⟨_, rfl⟩
  have hVs : bo < V.heap.size := by rw [← hV, ← hbo]; simp
  rw [hV, hbo] at t0 t1 t2 t3
  have hWV := bb hw hBV
  go_enter Tryz.func6, Tryz.ntmps6
  go_wp2_with (first
    | (go_at_call 7; with_reducible refine AnsB.use HAL hWV fun w1 hb1 => ?_; have s0 := keep_cell hb1 hVs t0; have s1 := keep_cell hb1 hVs t1; have s2 := keep_cell hb1 hVs t2; have s3 := keep_cell hb1 hVs t3; have hW1 := bb hWV hb1)
    | (go_at_call 8; with_reducible refine Made.use HM hW1 fun fb w2 hF hb2 => ?_; have hW2 := bb hW1 hb2)
    | (go_at_call 13; with_reducible refine Ans.use HFT _ fun n8 => ?_))
  go_ret
  exact ⟨rfl, bb hBV (bb hb1 (bb hb2 (below_drewN _ _)))⟩
set_option maxRecDepth 100000 in
set_option maxHeartbeats 4000000 in
theorem folds_chk (W : World) (kind z q : Int) (A : Option Addr) (L C : Nat) (HAL : AnsB W 7 #[] (.bool true)) (B : Option Addr) (n D : Nat) (hlen : (n : Int) ≤ 9223372036854775807) (p g : Nat) (x : En) (p0 : 2 < p) (p1 : p < 9223372036854775808) (pz : ((p : Int) == 0) = false) (HM : Made W (srcV kind z q A L C) (p : Int) (g : Int) x) (h2 : (2 : Int) ≤ (n : Int)) (hd2 : decide ((n : Int) < 2) = false) (h : (n : Int) ≤ 128) (hd : decide ((128 : Int) < (n : Int)) = false) (HFT : Ans 13 #[.int .i64 (n : Int)] (.bool true)) (e : Int) (he : (e != 0) = true) (HC : Ans 12 #[.int .u64 (p : Int), .int .i64 (n : Int), .int .i64 128] (.int .i64 e)) : AnsB W 6 #[srcV kind z q A L C, .slice B n D] (.bool true) := by
  intro w hw
  obtain ⟨t0, t1, t2, t3⟩ := four_cells w (.int .i64 kind) (.int .i64 z) (.int .u64 q) (.slice A L C) 25
  obtain ⟨V, hV⟩ : ∃ V, w.alloc (.cells #[.int .i64 kind, .int .i64 z, .int .u64 q, .slice A L C] 25) = V := ⟨_, rfl⟩
  have hBV : Below w.heap.size w V := hV ▸ below_alloc _ _
  obtain ⟨bo, hbo⟩ : ∃ bo, w.heap.size = bo := ⟨_, rfl⟩
  have hVs : bo < V.heap.size := by rw [← hV, ← hbo]; simp
  rw [hV, hbo] at t0 t1 t2 t3
  have hWV := bb hw hBV
  go_enter Tryz.func6, Tryz.ntmps6
  go_wp2_with (first
    | (go_at_call 7; with_reducible refine AnsB.use HAL hWV fun w1 hb1 => ?_; have s0 := keep_cell hb1 hVs t0; have s1 := keep_cell hb1 hVs t1; have s2 := keep_cell hb1 hVs t2; have s3 := keep_cell hb1 hVs t3; have hW1 := bb hWV hb1)
    | (go_at_call 8; with_reducible refine Made.use HM hW1 fun fb w2 hF hb2 => ?_; have hW2 := bb hW1 hb2)
    | (go_at_call 13; with_reducible refine Ans.use HFT _ fun n8 => ?_)
    | (go_at_call 12; with_reducible refine Ans.use HC _ fun n6 => ?_))
  go_ret
  exact ⟨rfl, bb hBV (bb hb1 (bb hb2 (below_drewN _ _)))⟩
set_option maxRecDepth 100000 in
set_option maxHeartbeats 4000000 in
theorem folds_bad (W : World) (kind z q : Int) (A : Option Addr) (L C : Nat) (HAL : AnsB W 7 #[] (.bool true)) (B : Option Addr) (n D : Nat) (hlen : (n : Int) ≤ 9223372036854775807) (p g : Nat) (x : En) (p0 : 2 < p) (p1 : p < 9223372036854775808) (pz : ((p : Int) == 0) = false) (HM : Made W (srcV kind z q A L C) (p : Int) (g : Int) x) (h2 : (2 : Int) ≤ (n : Int)) (hd2 : decide ((n : Int) < 2) = false) (h : (n : Int) ≤ 128) (hd : decide ((128 : Int) < (n : Int)) = false) (HFT : Ans 13 #[.int .i64 (n : Int)] (.bool true)) (HC : Ans 12 #[.int .u64 (p : Int), .int .i64 (n : Int), .int .i64 128] (.int .i64 0)) (HG : ∀ w, Below W.heap.size W w → AnsW w 14 #[.int .u64 (p : Int), .slice B n D] (.bool false)) : AnsB W 6 #[srcV kind z q A L C, .slice B n D] (.bool true) := by
  intro w hw
  obtain ⟨t0, t1, t2, t3⟩ := four_cells w (.int .i64 kind) (.int .i64 z) (.int .u64 q) (.slice A L C) 25
  obtain ⟨V, hV⟩ : ∃ V, w.alloc (.cells #[.int .i64 kind, .int .i64 z, .int .u64 q, .slice A L C] 25) = V := ⟨_, rfl⟩
  have hBV : Below w.heap.size w V := hV ▸ below_alloc _ _
  obtain ⟨bo, hbo⟩ : ∃ bo, w.heap.size = bo := ⟨_, rfl⟩
  have hVs : bo < V.heap.size := by rw [← hV, ← hbo]; simp
  rw [hV, hbo] at t0 t1 t2 t3
  have hWV := bb hw hBV
  go_enter Tryz.func6, Tryz.ntmps6
  go_wp2_with (first
    | (go_at_call 7; with_reducible refine AnsB.use HAL hWV fun w1 hb1 => ?_; have s0 := keep_cell hb1 hVs t0; have s1 := keep_cell hb1 hVs t1; have s2 := keep_cell hb1 hVs t2; have s3 := keep_cell hb1 hVs t3; have hW1 := bb hWV hb1)
    | (go_at_call 8; with_reducible refine Made.use HM hW1 fun fb w2 hF hb2 => ?_; have hW2 := bb hW1 hb2; have HG2 := HG w2 hW2)
    | (go_at_call 13; with_reducible refine Ans.use HFT _ fun n8 => ?_)
    | (go_at_call 12; with_reducible refine Ans.use HC _ fun n6 => ?_)
    | (go_at_call 14; with_reducible refine AnsW.use HG2 _ fun n7 => ?_))
  go_ret
  exact ⟨rfl, bb hBV (bb hb1 (bb hb2 (below_drewN _ _)))⟩
theorem UAt.news {w : World} {b o C : Nat} {xs : List Nat} (h : UAt w (some ⟨b, o, none⟩) C xs) : ∀ j u, (ucells xs)[j]? = some u → w.cell? ((⟨b, o, none⟩ : Addr).add j) = some u := by
  intro j u hu
  obtain ⟨z, hz, rfl⟩ := ucells_at hu
  rw [Addr.add_lit]
  exact (h.at hz).1
theorem ucells_one (xs : List Nat) : ∀ u ∈ ucells xs, u.oneCell' = true := by
  intro u hu
  obtain ⟨j, hj, rfl⟩ := List.getElem_of_mem hu
  obtain ⟨z, _, hc⟩ := ucells_at (List.getElem?_eq_getElem hj)
  rw [hc]; rfl
theorem hlf_int {n m : Nat} (h : n = 2 * m) (hm : m ≤ 4096) : (n : Int) / 2 = (m : Int) ∧ wrap64 ((n : Int) / 2) = (m : Int) ∧ IntKind.i64.wrap ((n : Int) / 2) = (m : Int) := by
  have e : (n : Int) / 2 = (m : Int) := by omega
  rw [e]
  exact ⟨rfl, wrN (by omega), wrI (by omega)⟩
theorem wrT {l k : Nat} (h : l * 2 = k) (hk : k ≤ 4096) : 2 * (l : Int) = (k : Int) ∧ wrap64 (2 * (l : Int)) = (k : Int) ∧ IntKind.i64.wrap (2 * (l : Int)) = (k : Int) ∧ wrap64 ((k : Int) + 1) = ((k + 1 : Nat) : Int) ∧ IntKind.i64.wrap ((k : Int) + 1) = ((k + 1 : Nat) : Int) := by
  have e : 2 * (l : Int) = (k : Int) := by omega
  rw [e]
  exact ⟨rfl, wrN (by omega), wrI (by omega), wrN (x := k + 1) (by omega), wrI (x := k + 1) (by omega)⟩
theorem ucells_app (xs ys : List Nat) : ucells (xs ++ ys) = ucells xs ++ ucells ys := by simp [ucells]
theorem UAt.take {w : World} {A : Option Addr} {C : Nat} {xs : List Nat} (h : UAt w A C xs) (m : Nat) : UAt w A C (xs.take m) :=
  ⟨h.nil, Nat.le_trans (by rw [List.length_take]; exact Nat.min_le_right _ _) h.cap, h.max, fun i x hx => h.get i x (by
    rw [List.getElem?_take] at hx
    split at hx
    · exact hx
    · cases hx)⟩
theorem own_twice {w : World} {base g C k : Nat} {ts : List Nat} (h : w.ownsRow base 22 1 (.slice (some ⟨g, 0, none⟩) (0 + k + k) C) (0 + k + k) ([] ++ ucells ts ++ ucells ts)) (hl : ts.length = k) (hs : ∀ y ∈ ts, y < 18446744073709551616) : UAt w (some ⟨g, 0, none⟩) C (ts ++ ts) := by
  have : OwnU w base (some ⟨g, 0, none⟩) C (ts ++ ts) := by
    unfold OwnU
    rw [show (ts ++ ts).length = 0 + k + k by rw [List.length_append, hl]; omega, ucells_app]
    exact h
  exact this.words fun y hy => (List.mem_append.1 hy).elim (hs y) (hs y)
set_option maxRecDepth 100000 in
set_option maxHeartbeats 8000000 in
theorem folds_yes (W : World) (kind z q : Int) (A : Option Addr) (L C : Nat) (HAL : AnsB W 7 #[] (.bool true)) (lb lo : Nat) (n D : Nat) (p : Nat) (hlen : (n : Int) ≤ 9223372036854775807) (m : Nat) (hD0 : DeB W) (xs ts hs ys zs cs ds : List Nat) (hX : UAt W (some ⟨lb, lo, none⟩) D xs) (hm : n = 2 * m) (hm1 : 1 ≤ m) (hm2 : m ≤ 64) (hxl : xs.length = n) (hts : xs.take m = ts) (hh : hs = lf m fun j => (atL xs j + atL xs (j + m)) % p) (g : Nat) (x : En) (p0 : 2 < p) (p1 : p < 9223372036854775808) (pz : ((p : Int) == 0) = false) (HM : Made W (srcV kind z q A L C) (p : Int) (g : Int) x) (h2 : (2 : Int) ≤ (n : Int)) (hd2 : decide ((n : Int) < 2) = false) (hd : decide ((128 : Int) < (n : Int)) = false) (HFT : Ans 13 #[.int .i64 (n : Int)] (.bool true)) (HC : Ans 12 #[.int .u64 (p : Int), .int .i64 (n : Int), .int .i64 128] (.int .i64 0))
    (HG : ∀ w, Below W.heap.size W w → AnsW w 14 #[.int .u64 (p : Int), .slice (some ⟨lb, lo, none⟩) n D] (.bool true))
    (hyl : ys.length = n) (hzl : zs.length = m) (hcl : cs.length = n) (hdl : ds.length = m) (hys : ∀ y ∈ ys, y < 18446744073709551616) (hzs : ∀ y ∈ zs, y < 18446744073709551616) (hcs : ∀ y ∈ cs, y < 18446744073709551616) (hds : ∀ y ∈ ds, y < 18446744073709551616)
    (HAD : ∀ (w : World) (b u v : Nat), FieldAt w b x → u < 18446744073709551616 → v < 18446744073709551616 → AnsW w 19 #[pt b, .int .u64 (u : Int), .int .u64 (v : Int)] (.int .u64 (((u + v) % p : Nat) : Int)))
    (H1 : (∀ (w : World) (b : Nat) (B : Option Addr) (D : Nat), FieldAt w b x → DeB w → UAt w B D xs → OwnT w 9 #[pt b, .slice B n D, .bool false] ys))
    (HU2 : (∀ (w : World) (b : Nat) (B : Option Addr) (D : Nat), FieldAt w b x → DeB w → UAt w B D hs → OwnT w 9 #[pt b, .slice B m D, .bool false] zs))
    (H3 : (∀ (w : World) (b : Nat) (B : Option Addr) (D : Nat), FieldAt w b x → DeB w → UAt w B D (ts ++ ts) → OwnT w 10 #[pt b, .slice B (m + m) D, .bool false] cs))
    (H4 : (∀ (w : World) (b : Nat) (B : Option Addr) (D : Nat), FieldAt w b x → DeB w → UAt w B D ts → OwnT w 10 #[pt b, .slice B m D, .bool false] ds))
    (HV : ∀ k, k < m → ∃ v d : Nat, zs[k]? = some v ∧ ys[k * 2]? = some v ∧ ds[k]? = some d ∧ cs[k * 2]? = some ((d + d) % p) ∧ cs[k * 2 + 1]? = some 0) : AnsB W 6 #[srcV kind z q A L C, .slice (some ⟨lb, lo, none⟩) n D] (.bool true) := by
  intro w hw
  obtain ⟨t0, t1, t2, t3⟩ := four_cells w (.int .i64 kind) (.int .i64 z) (.int .u64 q) (.slice A L C) 25
  obtain ⟨V, hV⟩ : ∃ V, w.alloc (.cells #[.int .i64 kind, .int .i64 z, .int .u64 q, .slice A L C] 25) = V := ⟨_, rfl⟩
  have hBV : Below w.heap.size w V := hV ▸ below_alloc _ _
  obtain ⟨bo, hbo⟩ : ∃ bo, w.heap.size = bo := ⟨_, rfl⟩
  have hVs : bo < V.heap.size := by rw [← hV, ← hbo]; simp
  rw [hV, hbo] at t0 t1 t2 t3
  have hWV := bb hw hBV
  obtain ⟨ii, hii, hzi, hsi, hbi⟩ := info_parts infoWd
  have HN : Hid (1 ≤ m ∧ m ≤ 64 ∧ n = 2 * m) := ⟨hm1, hm2, hm⟩
  have HLN : Hid (xs.length = n ∧ ys.length = n ∧ zs.length = m ∧ cs.length = n ∧ ds.length = m ∧ ts.length = m) := ⟨hxl, hyl, hzl, hcl, hdl, by rw [← hts, List.length_take, hxl]; omega⟩
  have HSM : Hid ((∀ y ∈ ys, y < 18446744073709551616) ∧ (∀ y ∈ zs, y < 18446744073709551616) ∧ (∀ y ∈ cs, y < 18446744073709551616) ∧ (∀ y ∈ ds, y < 18446744073709551616)) := ⟨hys, hzs, hcs, hds⟩
  have HTS : Hid (xs.take m = ts) := hts
  have HHS : Hid (hs = lf m fun j => (atL xs j + atL xs (j + m)) % p) := hh
  have HXW : Hid (UAt W (some ⟨lb, lo, none⟩) D xs) := hX
  have HDW : Hid (DeB W) := hD0
  have HP : Hid (2 < p ∧ p < 9223372036854775808) := ⟨p0, p1⟩
  have HAD' := (show Hid _ from HAD)
  have H1' := (show Hid _ from H1)
  have H2' := (show Hid _ from HU2)
  have H3' := (show Hid _ from H3)
  have H4' := (show Hid _ from H4)
  have HV' := (show Hid _ from HV)
  have hmD : m ≤ D := by have := hX.cap; omega
  have hmDi : (m : Int) ≤ (D : Int) := by omega
  have hmn : m ≤ n := by omega
  have hmni : (m : Int) ≤ (n : Int) := by omega
  have hm4 : m ≤ 4096 := by omega
  have hn4 : n ≤ 128 := by omega
  have hnn : ((n : Int) != (n : Int)) = false := (eqB (x := n) (y := n) rfl).1
  have hmm : ((m : Int) != (m : Int)) = false := (eqB (x := m) (y := m) rfl).1
  have hdv := (hlf_int hm hm4).1
  clear hm4
  clear hm hm1 hxl hts hh hX hD0 hyl hzl hcl hdl hys hzs hcs hds HAD H1 HU2 H3 H4 HV
  go_enter Tryz.func6, Tryz.ntmps6
  go_wp2_with (first
    | (go_at_call 7; with_reducible refine AnsB.use HAL hWV fun w1 hb1 => ?_; have s0 := keep_cell hb1 hVs t0; have s1 := keep_cell hb1 hVs t1; have s2 := keep_cell hb1 hVs t2; have s3 := keep_cell hb1 hVs t3; have hW1 := bb hWV hb1)
    | (go_at_call 8; with_reducible refine Made.use HM hW1 fun fb w2 hF hb2 => ?_; have hW2 := bb hW1 hb2; have HG2 := HG w2 hW2)
    | (go_at_call 13; with_reducible refine Ans.use HFT _ fun n8 => ?_)
    | (go_at_call 12; with_reducible refine Ans.use HC _ fun n6 => ?_)
    | (go_at_call 14; with_reducible refine AnsW.use HG2 _ fun n7 => ?_)
    | (at_make; refine Hid.out ?_))
  unfold Hid
  have HB3 : Hid (Below w2.heap.size w2 (w2.drewN (n8 + n6 + n7))) := below_drewN w2 _
  obtain ⟨w3, hw3⟩ : ∃ w3, w2.drewN (n8 + n6 + n7) = w3 := ⟨_, rfl⟩
  rw [hw3] at HB3 ⊢
  have HX : Hid (UAt w3 (some ⟨lb, lo, none⟩) D xs) := (HXW.out.below hW2).below HB3.out
  have HD3 : Hid (DeB w3) := (HDW.out.below hW2).below HB3.out
  have HF : Hid (FieldAt w3 fb x) := hF.below HB3.out
  have HBB : Hid (Below w.heap.size w w3) := bb hBV (bb hb1 (bb hb2 HB3.out))
  clear hb2 hb1 hF hBV hW2 hW1 hWV hw t0 t1 t2 t3 s0 s1 s2 s3 HM HG HG2 HB3 hw3 HC HFT HAL HXW HDW p0 p1 h2
  refine wpList_make_full _ rfl _ _ 26 rfl w3.heap.size 22 ii _ 1 Tryz.underlying26 hii hzi hsi .i64 .i64 (m : Int) (m : Int) m rfl rfl rfl rfl (by have := HN.out; rw [hbi]; omega) (by have := HN.out; unfold maxLen; omega) (Nat.le_refl _) ?_
  intro w4 hR hG1
  obtain ⟨gc, hgc⟩ : ∃ gc, w3.heap.size = gc := ⟨_, rfl⟩
  have HGC : Hid (w3.heap.size = gc) := hgc
  obtain ⟨f, hf⟩ : ∃ f : Nat → Nat, (fun j => (atL xs j + atL xs (j + m)) % p) = f := ⟨_, rfl⟩
  have HF0 : Hid (∀ j, f j = (atL xs j + atL xs (j + m)) % p) := fun j => by rw [← hf]
  have HHS2 : Hid (hs = wfl 0 m m f) := by unfold Hid; rw [HHS.out, wfl_all, hf]; rfl
  have hR1 : OwnU w4 w3.heap.size (some ⟨w3.heap.size, 0, none⟩) m (wfl 0 m 0 f) := by
    have e : (madeCells (Value.int .u64 0).cells (m * 1)).toList = ucells (wfl 0 m 0 f) := by
      rw [made_list rfl, wfl_zero]; simp [ucells]
    unfold OwnU
    rw [← e, wfl_len]; exact hR
  have hB4 : Below w3.heap.size w3 w4 := (Below.refl _ _).grown hG1 (Nat.le_refl _) (fun k ek => by cases ek)
  rw [hgc] at hR1 ⊢
  have HR2 : Hid (OwnU w4 w3.heap.size (some ⟨gc, 0, none⟩) m (wfl 0 m 0 f)) := by unfold Hid; rw [hgc]; exact hR1
  have HB4 : Hid (Below w3.heap.size w3 w4) := hB4
  clear hR hR1 hG1 hgc hB4 hf HHS
  go_wp2
  go_loopw [62] (fun v wr => ∃ k : Nat, v = .int .i64 (k : Int) ∧ k ≤ m ∧ Hid (OwnU wr w3.heap.size (some ⟨gc, 0, none⟩) m (wfl 0 m k f)) ∧ Hid (Below w3.heap.size w3 wr)) (fun v _ => m - (intOf v).toNat)
  case atStart => exact ⟨0, rfl, by omega, HR2, HB4⟩
  case round =>
    clear HR2 HB4
    obtain ⟨k, rfl, hk, HO, HB⟩ := hrel
    by_cases hlt : k < m
    · obtain ⟨k2, hk2⟩ : ∃ k2, k + m = k2 := ⟨_, rfl⟩
      have hk2n : k2 < n := by have := HN.out; omega
      obtain ⟨u, hu⟩ : ∃ u, xs[k]? = some u := ⟨_, List.getElem?_eq_getElem (by rw [HLN.out.1]; have := HN.out; omega)⟩
      obtain ⟨v, hv⟩ : ∃ v, xs[k2]? = some v := ⟨_, List.getElem?_eq_getElem (by rw [HLN.out.1]; exact hk2n)⟩
      obtain ⟨c1, ul, hlb⟩ := HX.out.at hu
      obtain ⟨c2, vl, _⟩ := HX.out.at hv
      have d1 := ((bcell HB.out).1 lb (lo + k) hlb).trans c1
      have d2 := ((bcell HB.out).1 lb (lo + k2) hlb).trans c2
      have hfr : wr.frozen? ⟨gc, k, none⟩ = false := by
        have := HO.out; unfold OwnU at this; exact World.ownsRow.frozenAt this k
      obtain ⟨_, eg, _, _, c3, _⟩ := HO.out.get (i := k) (x := 0) (by rw [wfl_get 0 f hlt, if_neg (by omega)])
      cases eg
      obtain ⟨y, hy⟩ : ∃ y, (u + v) % p = y := ⟨_, rfl⟩
      have hfy : f k = y := by rw [HF0.out, atL_of hu, hk2, atL_of hv, hy]
      have HA1 := HAD'.out wr fb u v (HF.out.below HB.out) ul vl
      rw [hy] at HA1
      have HO3 : Hid (∀ X, Below wr.heap.size wr X → OwnU (X.setCell ⟨gc, k, none⟩ (.int .u64 (y : Int))) w3.heap.size (some ⟨gc, 0, none⟩) m (wfl 0 m (k + 1) f)) := fun X hX => by
        rw [← wfl_set, hfy]; exact (HO.out.below hX).set k y
      have HB5 : Hid (∀ X, Below wr.heap.size wr X → Below w3.heap.size w3 (X.setCell ⟨gc, k, none⟩ (.int .u64 (y : Int)))) := fun X hX => (bb HB.out hX).setCell (p := ⟨gc, k, none⟩) (by rw [HGC.out]; exact Nat.le_refl _) _
      have q1 : (k : Int) < (m : Int) := ltI hlt
      have q2 : (k2 : Int) < (n : Int) := ltI hk2n
      have q3 : (k : Int) < (n : Int) := by omega
      have q4 : k < n := by omega
      have r1 : (k : Int) + (m : Int) = (k2 : Int) := by omega
      clear hu hv c1 c2 ul vl hy hfy HO HB hk2
      go_wp2
      refine wp_region_tail_lit 16 (by kernel_rfl) (by kernel_rfl) ?_
      simp only [List.take_succ_cons, List.take_zero, List.drop_succ_cons, List.drop_zero]
      repeat (go_big_quiet_step ((go_at_call 19; first | (with_reducible exact AnsW.quiet HA1) | (with_reducible exact AnsW.quiet0 HA1))))
      refine wpQuiet_nil ?_
      rintro _ ⟨n9, rfl⟩
      clear r1
      all_goals go_wp2
      all_goals go_roundw
      all_goals first
        | exact ⟨k + 1, by go_num, by omega, HO3.out _ (below_drewN wr _), HB5.out _ (below_drewN wr _)⟩
        | (simp [intOf]; omega)
    · obtain rfl : k = m := by omega
      have HUH : Hid (UAt wr (some ⟨gc, 0, none⟩) k hs) := by
        unfold Hid; rw [HHS2.out]
        refine HO.out.words fun y hy => ?_
        rw [wfl_all] at hy
        obtain ⟨j, _, rfl⟩ := List.mem_map.1 hy
        rw [HF0.out]
        have := Nat.mod_lt (atL xs j + atL xs (j + k)) (show 0 < p by have := HP.out; omega)
        have := HP.out; omega
      have HX5 : Hid (UAt wr (some ⟨lb, lo, none⟩) D xs) := HX.out.below HB.out
      have HD5 : Hid (DeB wr) := HD3.out.below HB.out
      have HF5 : Hid (FieldAt wr fb x) := HF.out.below HB.out
      have HB5 : Hid (Below w.heap.size w wr) := bb HBB.out HB.out
      have hn1 : Hid (1 ≤ n) := by have := HN.out; unfold Hid; omega
      clear HO HB HX HD3 HF HBB
      go_wp2_with (first
        | (go_at_call 9; with_reducible refine OwnT.useG (H2'.out w6 fb _ _ (HF5.out.below hb6) (HD5.out.below hb6) (HUH.out.below hb6)) HLN.out.2.2.1 HN.out.1 (Below.refl _ _) fun g7 C7 w7 hO7 hb7 => ?_)
        | (go_at_call 9; with_reducible refine OwnT.useG (H1'.out wr fb _ _ HF5.out HD5.out HX5.out) HLN.out.2.1 hn1.out (Below.refl _ _) fun g6 C6 w6 hO6 hb6 => ?_))
      have HT7 : Hid (UAt w7 (some ⟨lb, lo, none⟩) D ts) := by unfold Hid; rw [← HTS.out]; exact (((HX5.out.below hb6).below hb7).take k)
      have HX7 : Hid (UAt w7 (some ⟨lb, lo, none⟩) D xs) := (HX5.out.below hb6).below hb7
      have HF7 : Hid (FieldAt w7 fb x) := (HF5.out.below hb6).below hb7
      have HD7 : Hid (DeB w7) := (HD5.out.below hb6).below hb7
      have HYS : Hid (UAt w7 (some ⟨g6, 0, none⟩) C6 ys) := (hO6.words HSM.out.1).below hb7
      have HZS : Hid (UAt w7 (some ⟨g7, 0, none⟩) C7 zs) := hO7.words HSM.out.2.1
      have HB7 : Hid (Below w.heap.size w w7) := bb HB5.out (bb hb6 hb7)
      have hO0 : (w7.drew.alloc (.cells #[] 22)).ownsRow w7.heap.size 22 1 (.slice (some ⟨w7.heap.size, 0, none⟩) 0 0) 0 [] := World.ownsRow_made (base := w7.heap.size) (e := 22) (size := 1) w7.drew #[] 0 (Nat.le_refl _) (by unfold maxLen; omega) rfl
      have hBa0 : Below w7.heap.size w7 (w7.drew.alloc (.cells #[] 22)) := below_undrew (below_alloc w7.drew _)
      have hnews0 := (HT7.out.below hBa0).news
      have hlts : (ucells ts).length = k * 1 := by rw [ucells_len, HLN.out.2.2.2.2.2, Nat.mul_one]
      have hk1 : 0 < k := HN.out.1
      have hD0 : 0 < D := by omega
      have hD1 : ¬ D = 0 := by omega
      have hD2 : ¬ (D : Int) = 0 := by omega
      have hD3 : ¬ 0 = D := by omega
      have hD4 : (0 : Int) < (D : Int) := by omega
      have hmx1 : 0 + k ≤ maxLen := by have := HN.out; unfold maxLen; omega
      have hmx2 : 0 + k + k ≤ maxLen := by have := HN.out; unfold maxLen; omega
      have hby1 : (0 + k) * 8 ≤ 140737488355328 := by have := HN.out; omega
      have hby2 : (0 + k + k) * 8 ≤ 140737488355328 := by have := HN.out; omega
      clear hb6 hb7 hO6 hO7 HX5 HF5 HD5 HB5 HUH
      have hk5 : k ≤ 16777216 := by have := HN.out; omega
      have hwm : wrap64 (k : Int) = (k : Int) := wrN hk5
      have hwm2 : IntKind.i64.wrap (k : Int) = (k : Int) := wrI hk5
      clear hk5
      go_region_held3 (fun _ => True) (trivial)
        ((first
          | (go_at_call 10; with_reducible refine OwnT.useG (H3'.out w9 fb _ _ (HF7.out.below hB9) (HD7.out.below hB9) hU9) HLN.out.2.2.2.1 hn1.out (Below.refl _ _) fun g10 C10 w10 hO10 hb10 => ?_)
          | (refine step_append_lies _ (by rfl) _ _ 26 (by rfl) w7.heap.size 22 ii _ 1 8 Tryz.underlying26 hii hzi hsi hbi (by rfl) (by omega) _ (0 + k) _ (by rfl) hO8 ⟨lb, lo, none⟩ k D (ucells ts) (by rfl) hlts hnews8 (ucells_one ts) hk1 hmx2 hby2 hB8.size _ (by rfl) ?_; intro g9 cap9 w9 hO9 hG9 hat9 hlt9; have hB9 : Below w7.heap.size w7 w9 := hB8.grown hG9 hB8.size (fun j hj => (hO8.lt j hj).1); have hU9 : UAt w9 (some ⟨g9, 0, none⟩) cap9 (ts ++ ts) := own_twice hO9 HLN.out.2.2.2.2.2 HT7.out.small)
          | (refine step_append_lies _ (by rfl) _ _ 26 (by rfl) w7.heap.size 22 ii _ 1 8 Tryz.underlying26 hii hzi hsi hbi (by rfl) (by omega) _ 0 [] (by rfl) hO0 ⟨lb, lo, none⟩ k D (ucells ts) (by rfl) hlts hnews0 (ucells_one ts) hk1 hmx1 hby1 hBa0.size _ (by rfl) ?_; intro g8 cap8 w8 hO8 hG8 hat8 hlt8; have hB8 : Below w7.heap.size w7 w8 := hBa0.grown hG8 hBa0.size (fun j hj => (hO0.lt j hj).1); have hnews8 := (HT7.out.below hB8).news)))
      have HB10 : Hid (Below w7.heap.size w7 w10) := bb hB9 hb10
      have HT10 : Hid (UAt w10 (some ⟨lb, lo, none⟩) D ts) := HT7.out.below HB10.out
      have HF10 : Hid (FieldAt w10 fb x) := HF7.out.below HB10.out
      have HD10 : Hid (DeB w10) := HD7.out.below HB10.out
      have HCS : Hid (UAt w10 (some ⟨g10, 0, none⟩) C10 cs) := hO10.words HSM.out.2.2.1
      clear hwm hwm2 hB9 hb10 hO10 hU9 hO9 hG9 hat9 hlt9 hB8 hO8 hG8 hat8 hlt8 hnews8 hnews0 hO0 hBa0 hlts hmx1 hmx2 hby1 hby2
      go_wp2_with (go_at_call 10; with_reducible refine OwnT.useG (H4'.out w10 fb _ _ HF10.out HD10.out HT10.out) HLN.out.2.2.2.2.1 HN.out.1 (Below.refl _ _) fun g11 C11 w11 hO11 hb11 => ?_)
      have HY11 : Hid (UAt w11 (some ⟨g6, 0, none⟩) C6 ys) := (HYS.out.below HB10.out).below hb11
      have HZ11 : Hid (UAt w11 (some ⟨g7, 0, none⟩) C7 zs) := (HZS.out.below HB10.out).below hb11
      have HC11 : Hid (UAt w11 (some ⟨g10, 0, none⟩) C10 cs) := HCS.out.below hb11
      have HE11 : Hid (UAt w11 (some ⟨g11, 0, none⟩) C11 ds) := hO11.words HSM.out.2.2.2
      have HF11 : Hid (FieldAt w11 fb x) := HF10.out.below hb11
      have HB11 : Hid (Below w.heap.size w w11) := bb HB7.out (bb HB10.out hb11)
      clear hb11 hO11 HYS HZS HCS HF10 HD10 HT10 HB10 HT7 HX7 HF7 HD7 HB7 hdv
      go_loopw [161] (fun v wr => ∃ l s : Nat, v = .int .i64 (l : Int) ∧ l ≤ k ∧ wr = w11.drewN s) (fun v _ => k - (intOf v).toNat)
      case atStart => exact ⟨0, 0, rfl, by omega, rfl⟩
      case round =>
        obtain ⟨l, s, rfl, hl, rfl⟩ := hrel
        by_cases hlt : l < k
        · obtain ⟨v, d, hz, hy, hd', hc0, hc1⟩ := HV'.out l hlt
          obtain ⟨l2, hl2⟩ : ∃ l2, l * 2 = l2 := ⟨_, rfl⟩
          obtain ⟨l3, hl3⟩ : ∃ l3, l2 + 1 = l3 := ⟨_, rfl⟩
          obtain ⟨e, he⟩ : ∃ e, (d + d) % p = e := ⟨_, rfl⟩
          rw [hl2] at hy hc0 hc1
          rw [hl3] at hc1
          rw [he] at hc0
          have cz := HZ11.out.at0 hz
          have cy := HY11.out.at0 hy
          have cd := HE11.out.at0 hd'
          have c0 := HC11.out.at0 hc0
          have c1 := HC11.out.at0 hc1
          have dl := (HE11.out.at hd').2.1
          have HA1 := HAD'.out w11 fb d d HF11.out dl dl
          rw [he] at HA1
          have q1 : (l : Int) < (k : Int) := ltI hlt
          have q2n : l3 < n := by have := HN.out; omega
          have q3n : l2 < n := by omega
          have q2 : (l3 : Int) < (n : Int) := ltI q2n
          have q3 : (l2 : Int) < (n : Int) := ltI q3n
          have e1 : 2 * (l : Int) = (l2 : Int) := by omega
          have e2 : (l2 : Int) + 1 = (l3 : Int) := by omega
          have g1 := (eqB (x := v) (y := v) rfl).1
          have g2 := (eqB (x := e) (y := e) rfl).1
          rw [show ((0 : Nat) : Int) = 0 from rfl] at c1
          clear hz hy hd' hc0 hc1 dl he hl2 hl3
          go_wp2
          go_quiet ((go_at_call 19; first | (with_reducible exact AnsW.quiet HA1) | (with_reducible exact AnsW.quiet0 HA1)))
          go_wp2
          clear e1 e2
          go_roundw
          case rel => exact ⟨l + 1, s + nq, by go_num, by omega, by first | rfl | rw [World.drewN_drewN]⟩
          case measure => simp [intOf]; omega
        · obtain rfl : l = k := by omega
          go_wp2
          go_ret
          exact ⟨rfl, bb HB11.out (below_drewN _ _)⟩
theorem fit_pow : ∀ c : Fin 13, fitV ((2 ^ (c : Nat) : Nat) : Int) = true := by decide +kernel
theorem ck2_pow {p c : Nat} {xs : List Nat} (hc : c ≤ 12) (hl : xs.length = 2 ^ c) (hd : (p - 1) % xs.length = 0) (hg : ∀ y ∈ xs, y < p) : ck2 p xs = 0 := by
  have h1 := two_le hc
  have h2 := Nat.two_pow_pos c
  exact ck2_yes (ckD_yes (by omega) (by omega) hd) (by rw [hl]; exact fit_pow ⟨c, by omega⟩) (goodB_iff.2 hg)
theorem folds_any (W : World) (hD0 : DeB W) (kind z : Int) (hz : z < 9223372036854775808) (q : Nat) (hq : q < 18446744073709551616) (A : Option Addr) (C : Nat) (es : List En) (hE : EntsAt W A C es) (hfs : ∀ x ∈ es, x.fs.length * 16 ≤ 140737488355328) (B : Option Addr) (D : Nat) (xs : List Nat) (hX : UAt W B D xs) :
    AnsB W 6 #[srcV kind z (q : Int) A es.length C, .slice B xs.length D] (.bool true) := by
  have hlen := hX.len
  have HAL := alive12 hD0
  rcases made_any W kind z hz q hq A C es hE hfs with HM | ⟨x, hF, HM⟩
  · exact folds_none W kind z q A _ C HAL B _ D hlen HM
  · obtain ⟨h3, hodd, hlt⟩ := hF.num
    have pz : ((x.p : Int) == 0) = false := by simp; omega
    by_cases h2 : (xs.length : Int) < 2
    · exact folds_small W kind z q A _ C HAL B _ D hlen x.p x.g x (by omega) hlt pz HM h2 (decide_eq_true h2)
    by_cases hl : 128 < (xs.length : Int)
    · exact folds_long W kind z q A _ C HAL B _ D hlen x.p x.g x (by omega) hlt pz HM (by omega) (decide_eq_false h2) hl (decide_eq_true hl)
    have HC := dcheck_any x.p (by omega) (by omega) (xs.length : Int) 128 (by omega)
    have HF := dfits_any (xs.length : Int)
    have HG : ∀ w, Below W.heap.size W w → AnsW w 14 #[.int .u64 (x.p : Int), .slice B xs.length D] (.bool (goodB x.p xs)) := fun w hw => dgood_any w x.p B D xs (hX.below hw)
    cases hf : fitV (xs.length : Int)
    · rw [hf] at HF
      exact folds_kind W kind z q A _ C HAL B _ D hlen x.p x.g x (by omega) hlt pz HM (by omega) (decide_eq_false h2) (by omega) (decide_eq_false hl) HF
    rw [hf] at HF
    by_cases hc : ckD x.p (xs.length : Int) 128 = 0
    · rw [hc] at HC
      cases hg : goodB x.p xs
      · rw [hg] at HG
        exact folds_bad W kind z q A _ C HAL B _ D hlen x.p x.g x (by omega) hlt pz HM (by omega) (decide_eq_false h2) (by omega) (decide_eq_false hl) HF HC HG
      · rw [hg] at HG
        obtain ⟨h1, _, hd⟩ := ckD_ok hc
        have hgy := goodB_iff.1 hg
        obtain ⟨c, hc12, hpow⟩ := fit_two hf
        obtain ⟨c', rfl⟩ : ∃ c', c = c' + 1 := ⟨c - 1, by
          rcases Nat.eq_zero_or_pos c with e | e
          · subst e; omega
          · omega⟩
        obtain ⟨m, hm⟩ : ∃ m, 2 ^ c' = m := ⟨_, rfl⟩
        have hn : xs.length = 2 * m := by rw [hpow, Nat.pow_succ', hm]
        have hm1 : 1 ≤ m := by rw [← hm]; exact Nat.two_pow_pos c'
        obtain ⟨lb, lo, rfl⟩ := hX.addr h1
        have hd2 : (x.p - 1) % (2 * m) = 0 := by rw [← hn]; exact hd
        have hdm := half_div hd2
        have htl : (xs.take m).length = m := by rw [List.length_take]; omega
        have htg : ∀ y ∈ xs.take m, y < x.p := fun y hy => hgy y (List.mem_of_mem_take hy)
        have hhg : ∀ y ∈ hvS x.p m xs, y < x.p := lf_lt fun j _ => Nat.mod_lt _ (by omega)
        have hwl : (xs.take m ++ xs.take m).length = xs.length := by rw [List.length_append, htl]; omega
        have hwg : ∀ y ∈ xs.take m ++ xs.take m, y < x.p := fun y hy => (List.mem_append.1 hy).elim (htg y) (htg y)
        have k1 := ck2_pow (p := x.p) hc12 hpow hd hgy
        have k2 := ck2_pow (p := x.p) (xs := hvS x.p m xs) (c := c') (by omega) (by rw [hvS_len, hm]) (by rw [hvS_len]; exact hdm) hhg
        have k3 := ck2_pow (p := x.p) (xs := xs.take m ++ xs.take m) hc12 (by rw [hwl]; exact hpow) (by rw [hwl]; exact hd) hwg
        have k4 := ck2_pow (p := x.p) (xs := xs.take m) (c := c') (by omega) (by rw [htl, hm]) (by rw [htl]; exact hdm) htg
        have hbig : ∀ l : List Nat, ∀ y ∈ dT x false l, y < 18446744073709551616 := fun l y hy => by have := dT_lt hF false l y hy; omega
        refine folds_yes W kind z q A _ C HAL lb lo _ D x.p hlen m hD0 xs (xs.take m) (hvS x.p m xs) (dT x false xs) (dT x false (hvS x.p m xs)) (dT x false (xs.take m ++ xs.take m)) (dT x false (xs.take m)) hX hn hm1 (by omega) rfl rfl rfl x.g x (by omega) hlt pz HM (by omega) (decide_eq_false h2) (decide_eq_false hl) HF HC HG
          (dT_len _ _ _) (by rw [dT_len, hvS_len]) (by rw [dT_len, hwl]) (by rw [dT_len, htl]) (hbig _) (hbig _) (hbig _) (hbig _)
          (fun w b u v F hu hv => fAdd_any F u v hu hv) (fun w b B D F T U => up_yes F hF T U k1 false) (fun w b B D F T U => ?_) (fun w b B D F T U => ?_) (fun w b B D F T U => ?_) (fun k hk => ?_)
        · have := up_yes F hF T U k2 false
          rw [hvS_len] at this
          exact this
        · have := down_yes F hF T U k3 false
          rw [List.length_append, htl] at this
          exact this
        · have := down_yes F hF T U k4 false
          rw [htl] at this
          exact this
        · obtain ⟨f1, f2⟩ := fold_twice hF hm1 htl hd2 hk
          refine ⟨dV x false (hvS x.p m xs) k, dV x false (xs.take m) k, dT_get (by rw [hvS_len]; exact hk), ?_, dT_get (by rw [htl]; exact hk), ?_, ?_⟩
          · rw [Nat.mul_comm, ← fold_sum hF hm1 hn hd2 hk]
            exact dT_get (by omega)
          · rw [Nat.mul_comm, ← f1]
            exact dT_get (by rw [hwl]; omega)
          · rw [Nat.mul_comm, ← f2]
            exact dT_get (by rw [hwl]; omega)
    · exact folds_chk W kind z q A _ C HAL B _ D hlen x.p x.g x (by omega) hlt pz HM (by omega) (decide_eq_false h2) (by omega) (decide_eq_false hl) HF _ (by simp only [bne_iff_ne, ne_eq]; exact hc) HC
end Go.Proofs.YtmeefipdbeifeaaGreatDoor

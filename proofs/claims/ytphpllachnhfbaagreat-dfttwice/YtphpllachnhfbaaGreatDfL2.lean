/-
  The statement DftMoves: true, of all sources, lists and numbers.
-/
import Derived.Test.YtphpllachnhfbaaGreatDfA
namespace Go.Proofs.YtphpllachnhfbaaGreat
set_option linter.unusedVariables false
open Go.RowKit

/-- A list moved on by K, round and round, the first j of it. -/
def mvL (n K : Nat) (xs : List Nat) (j : Nat) : List Nat := (List.range n).map fun i => if (i + (n - K)) % n < j then atL xs ((i + (n - K)) % n) else 0
theorem mvL_len (n K : Nat) (xs : List Nat) (j : Nat) : (mvL n K xs j).length = n := by simp [mvL]
theorem mvL_get {n K : Nat} {xs : List Nat} {j i : Nat} (h : i < n) : (mvL n K xs j)[i]? = some (if (i + (n - K)) % n < j then atL xs ((i + (n - K)) % n) else 0) := by
  unfold mvL; rw [List.getElem?_map, List.getElem?_range h]; rfl
theorem mvL_zero (n K : Nat) (xs : List Nat) : mvL n K xs 0 = List.replicate n 0 := by
  apply List.ext_getElem?
  intro i
  by_cases h : i < n
  · rw [mvL_get h, List.getElem?_replicate, if_pos h, if_neg (by omega)]
  · rw [List.getElem?_eq_none (by rw [mvL_len]; omega), List.getElem?_eq_none (by simp; omega)]
theorem mv_iff {n K i j : Nat} (hK : K < n) (hi : i < n) (hj : j < n) : (i + (n - K)) % n = j ↔ i = (j + K) % n := by
  by_cases h1 : i + (n - K) < n
  · rw [Nat.mod_eq_of_lt h1]
    by_cases h2 : j + K < n
    · rw [Nat.mod_eq_of_lt h2]; omega
    · rw [Nat.mod_eq_sub_mod (by omega), Nat.mod_eq_of_lt (by omega)]; omega
  · rw [Nat.mod_eq_sub_mod (by omega), Nat.mod_eq_of_lt (by omega)]
    by_cases h2 : j + K < n
    · rw [Nat.mod_eq_of_lt h2]; omega
    · rw [Nat.mod_eq_sub_mod (by omega), Nat.mod_eq_of_lt (by omega)]; omega
theorem mvL_set {n K j : Nat} {xs : List Nat} (hK : K < n) (hj : j < n) : (mvL n K xs j).set ((j + K) % n) (atL xs j) = mvL n K xs (j + 1) := by
  apply List.ext_getElem?
  intro i
  rw [List.getElem?_set, mvL_len]
  by_cases h : i < n
  · rw [mvL_get h, mvL_get h]
    by_cases e : (j + K) % n = i
    · rw [if_pos e, if_pos (by omega)]
      have := (mv_iff hK h hj).2 e.symm
      rw [this, if_pos (by omega)]
    · rw [if_neg e]
      have : (i + (n - K)) % n ≠ j := fun h' => e ((mv_iff hK h hj).1 h').symm
      by_cases h3 : (i + (n - K)) % n < j
      · rw [if_pos h3, if_pos (by omega)]
      · rw [if_neg h3, if_neg (by omega)]
  · rw [List.getElem?_eq_none (by rw [mvL_len]; omega), List.getElem?_eq_none (by rw [mvL_len]; omega)]
    by_cases e : (j + K) % n = i
    · rw [if_pos e, if_neg (by omega)]
    · rw [if_neg e]
theorem mvL_all {n K : Nat} {xs : List Nat} (hK : K < n) {j : Nat} (hj : j < n) : atL (mvL n K xs n) ((j + K) % n) = atL xs j := by
  have hl := Nat.mod_lt (j + K) (show 0 < n by omega)
  have := (mv_iff hK hl hj).2 rfl
  exact atL_of (by rw [mvL_get hl, this, if_pos hj])
theorem mvL_lt {n K p : Nat} {xs : List Nat} (hp : 0 < p) (h : ∀ y ∈ xs, y < p) (hl : xs.length = n) (j : Nat) : ∀ y ∈ mvL n K xs j, y < p := fun y hy => by
  obtain ⟨i, hi, rfl⟩ := List.mem_map.1 hy
  have hn : 0 < n := by have := List.mem_range.1 hi; omega
  split
  · exact h _ (atL_mem (by rw [hl]; exact Nat.mod_lt _ hn))
  · exact hp
theorem mulSm {i k n : Nat} (h : i < n) (h2 : k < n) (hn : n ≤ 64) : i * k ≤ 16777216 := Nat.le_trans (Nat.mul_le_mul (Nat.le_of_lt h) (Nat.le_of_lt h2)) (Nat.le_trans (Nat.mul_le_mul hn hn) (by decide))
theorem wrU {x : Nat} (h : x ≤ 16777216) : IntKind.u64.wrap (x : Int) = (x : Int) := by rw [IntKind.wrap_u64]; omega
set_option maxRecDepth 100000 in
set_option maxHeartbeats 4000000 in
theorem moves_none (W : World) (kind z q : Int) (A : Option Addr) (L C : Nat) (B : Option Addr) (n D : Nat) (hlen : (n : Int) ≤ 9223372036854775807) (K : Int) (HM : FitN W (srcV kind z q A L C) (.slice B n D)) : AnsB W 7 #[srcV kind z q A L C, .slice B n D, .int .i64 K] (.bool true) := by
  intro w hw
  obtain ⟨t0, t1, t2, t3⟩ := four_cells w (.int .i64 kind) (.int .i64 z) (.int .u64 q) (.slice A L C) 25
  obtain ⟨V, hV⟩ : ∃ V, w.alloc (.cells #[.int .i64 kind, .int .i64 z, .int .u64 q, .slice A L C] 25) = V := ⟨_, rfl⟩
  have hBV : Below w.heap.size w V := hV ▸ below_alloc _ _
  obtain ⟨bo, hbo⟩ : ∃ bo, w.heap.size = bo := ⟨_, rfl⟩
  have hVs : bo < V.heap.size := by rw [← hV, ← hbo]; simp
  rw [hV, hbo] at t0 t1 t2 t3
  have hWV := bb hw hBV
  go_enter Tryz.func7, Tryz.ntmps7
  go_wp2_with (first
    | (go_at_call 10; with_reducible refine AnsM.use alive11 fun w1 hb1 => ?_; have s0 := keep_cell hb1 hVs t0; have s1 := keep_cell hb1 hVs t1; have s2 := keep_cell hb1 hVs t2; have s3 := keep_cell hb1 hVs t3; have hW1 := bb hWV hb1)
    | (go_at_call 21; with_reducible refine FitN.use HM hW1 fun fa fp w2 hb2 => ?_))
  go_ret
  exact ⟨rfl, bb hBV (bb hb1 hb2)⟩
set_option maxRecDepth 100000 in
set_option maxHeartbeats 4000000 in
theorem moves_less (W : World) (kind z q : Int) (A : Option Addr) (L C : Nat) (B : Option Addr) (n D : Nat) (hlen : (n : Int) ≤ 9223372036854775807) (K : Int) (h : K < 0) (p : Int) (x : En) (HM : FitY W (srcV kind z q A L C) (.slice B n D) p x) : AnsB W 7 #[srcV kind z q A L C, .slice B n D, .int .i64 K] (.bool true) := by
  intro w hw
  obtain ⟨t0, t1, t2, t3⟩ := four_cells w (.int .i64 kind) (.int .i64 z) (.int .u64 q) (.slice A L C) 25
  obtain ⟨V, hV⟩ : ∃ V, w.alloc (.cells #[.int .i64 kind, .int .i64 z, .int .u64 q, .slice A L C] 25) = V := ⟨_, rfl⟩
  have hBV : Below w.heap.size w V := hV ▸ below_alloc _ _
  obtain ⟨bo, hbo⟩ : ∃ bo, w.heap.size = bo := ⟨_, rfl⟩
  have hVs : bo < V.heap.size := by rw [← hV, ← hbo]; simp
  rw [hV, hbo] at t0 t1 t2 t3
  have hWV := bb hw hBV
  go_enter Tryz.func7, Tryz.ntmps7
  go_wp2_with (first
    | (go_at_call 10; with_reducible refine AnsM.use alive11 fun w1 hb1 => ?_; have s0 := keep_cell hb1 hVs t0; have s1 := keep_cell hb1 hVs t1; have s2 := keep_cell hb1 hVs t2; have s3 := keep_cell hb1 hVs t3; have hW1 := bb hWV hb1)
    | (go_at_call 21; with_reducible refine FitY.use HM hW1 fun fb w2 hF hb2 => ?_; have hW2 := bb hW1 hb2))
  go_ret
  exact ⟨rfl, bb hBV (bb hb1 hb2)⟩
set_option maxRecDepth 100000 in
set_option maxHeartbeats 4000000 in
theorem moves_more (W : World) (kind z q : Int) (A : Option Addr) (L C : Nat) (B : Option Addr) (n D : Nat) (hlen : (n : Int) ≤ 9223372036854775807) (K : Int) (h : 0 ≤ K) (h2 : (n : Int) ≤ K) (p : Int) (x : En) (HM : FitY W (srcV kind z q A L C) (.slice B n D) p x) : AnsB W 7 #[srcV kind z q A L C, .slice B n D, .int .i64 K] (.bool true) := by
  intro w hw
  obtain ⟨t0, t1, t2, t3⟩ := four_cells w (.int .i64 kind) (.int .i64 z) (.int .u64 q) (.slice A L C) 25
  obtain ⟨V, hV⟩ : ∃ V, w.alloc (.cells #[.int .i64 kind, .int .i64 z, .int .u64 q, .slice A L C] 25) = V := ⟨_, rfl⟩
  have hBV : Below w.heap.size w V := hV ▸ below_alloc _ _
  obtain ⟨bo, hbo⟩ : ∃ bo, w.heap.size = bo := ⟨_, rfl⟩
  have hVs : bo < V.heap.size := by rw [← hV, ← hbo]; simp
  rw [hV, hbo] at t0 t1 t2 t3
  have hWV := bb hw hBV
  go_enter Tryz.func7, Tryz.ntmps7
  go_wp2_with (first
    | (go_at_call 10; with_reducible refine AnsM.use alive11 fun w1 hb1 => ?_; have s0 := keep_cell hb1 hVs t0; have s1 := keep_cell hb1 hVs t1; have s2 := keep_cell hb1 hVs t2; have s3 := keep_cell hb1 hVs t3; have hW1 := bb hWV hb1)
    | (go_at_call 21; with_reducible refine FitY.use HM hW1 fun fb w2 hF hb2 => ?_; have hW2 := bb hW1 hb2))
  go_ret
  exact ⟨rfl, bb hBV (bb hb1 hb2)⟩
set_option maxRecDepth 100000 in
set_option maxHeartbeats 4000000 in
theorem moves_yes (W : World) (kind z q : Int) (A : Option Addr) (L C : Nat) (B : Option Addr) (n D : Nat) (K : Nat) (xs ys zs : List Nat) (hX : UAt W B D xs) (hN : 1 ≤ n ∧ n ≤ 64) (hK : K < n) (hxl : xs.length = n) (hyl : ys.length = n) (hzl : zs.length = n) (hms : ∀ y ∈ mvL n K xs n, y < 18446744073709551616) (hys : ∀ y ∈ ys, y < 18446744073709551616) (hzs : ∀ y ∈ zs, y < 18446744073709551616) (p r : Int) (pw : Nat → Nat) (x : En) (HM : FitY W (srcV kind z q A L C) (.slice B n D) p x)
    (H1 : (∀ (w : World) (b : Nat) (B : Option Addr) (D : Nat), FieldAt w b x → UAt w B D xs → OwnT w 12 #[pt b, .slice B n D, .bool false] ys))
    (H2 : (∀ (w : World) (b : Nat) (B : Option Addr) (D : Nat), FieldAt w b x → UAt w B D (mvL n K xs n) → OwnT w 12 #[pt b, .slice B n D, .bool false] zs))
    (H3 : ∀ (w : World) (b : Nat), FieldAt w b x → AnsW w 23 #[pt b, .int .i64 (n : Int)] (.tuple #[.int .u64 r, .int .i64 0]))
    (HP : ∀ i, i < n → Ans 24 #[.int .u64 r, .int .u64 ((i * K : Nat) : Int), .int .u64 p] (.int .u64 ((pw i : Nat) : Int)))
    (HQ : ∀ i y v : Nat, ys[i]? = some y → zs[i]? = some v → Ans 20 #[.int .u64 (y : Int), .int .u64 ((pw i : Nat) : Int), .int .u64 p] (.int .u64 (v : Int))) : AnsB W 7 #[srcV kind z q A L C, .slice B n D, .int .i64 (K : Int)] (.bool true) := by
  intro w hw
  obtain ⟨t0, t1, t2, t3⟩ := four_cells w (.int .i64 kind) (.int .i64 z) (.int .u64 q) (.slice A L C) 25
  obtain ⟨V, hV⟩ : ∃ V, w.alloc (.cells #[.int .i64 kind, .int .i64 z, .int .u64 q, .slice A L C] 25) = V := ⟨_, rfl⟩
  have hBV : Below w.heap.size w V := hV ▸ below_alloc _ _
  obtain ⟨bo, hbo⟩ : ∃ bo, w.heap.size = bo := ⟨_, rfl⟩
  have hVs : bo < V.heap.size := by rw [← hV, ← hbo]; simp
  rw [hV, hbo] at t0 t1 t2 t3
  have hWV := bb hw hBV
  obtain ⟨ii, hii, hzi, hsi, hbi⟩ := info_parts infoWd
  have HN : Hid (1 ≤ n ∧ n ≤ 64 ∧ K < n) := ⟨hN.1, hN.2, hK⟩
  have HXL : Hid (xs.length = n) := hxl
  have HYL : Hid (ys.length = n) := hyl
  have HZL : Hid (zs.length = n) := hzl
  have HML : Hid (∀ j, (mvL n K xs j).length = n) := mvL_len n K xs
  have HM0 : Hid (mvL n K xs 0 = List.replicate n 0) := mvL_zero n K xs
  have HMS : Hid (∀ j x : Nat, j < n → xs[j]? = some x → (mvL n K xs j).set ((j + K) % n) x = mvL n K xs (j + 1)) := fun j x hj hx => by rw [← atL_of hx]; exact mvL_set hK hj
  have HSS : Hid ((∀ y ∈ mvL n K xs n, y < 18446744073709551616) ∧ (∀ y ∈ ys, y < 18446744073709551616) ∧ (∀ y ∈ zs, y < 18446744073709551616)) := ⟨hms, hys, hzs⟩
  have HR' : Hid ((∀ (w : World) (b : Nat) (B : Option Addr) (D : Nat), FieldAt w b x → UAt w B D xs → OwnT w 12 #[pt b, .slice B n D, .bool false] ys) ∧ (∀ (w : World) (b : Nat) (B : Option Addr) (D : Nat), FieldAt w b x → UAt w B D (mvL n K xs n) → OwnT w 12 #[pt b, .slice B n D, .bool false] zs)) := ⟨H1, H2⟩
  have H3' : Hid (∀ (w : World) (b : Nat), FieldAt w b x → AnsW w 23 #[pt b, .int .i64 (n : Int)] (.tuple #[.int .u64 r, .int .i64 0])) := H3
  have HP' : Hid (∀ i, i < n → Ans 24 #[.int .u64 r, .int .u64 ((i * K : Nat) : Int), .int .u64 p] (.int .u64 ((pw i : Nat) : Int))) := HP
  have HQ' : Hid (∀ i y v : Nat, ys[i]? = some y → zs[i]? = some v → Ans 20 #[.int .u64 (y : Int), .int .u64 ((pw i : Nat) : Int), .int .u64 p] (.int .u64 (v : Int))) := HQ
  have hlen : (n : Int) ≤ 9223372036854775807 := by omega
  have g1 : decide ((K : Int) < 0) = false := decide_eq_false (by omega)
  have g3 : decide ((n : Int) ≤ (K : Int)) = false := decide_eq_false (by omega)
  have g3' : decide (n ≤ K) = false := decide_eq_false (by omega)
  have hn0 : ¬ (n : Int) = 0 := by omega
  have hn1 : ¬ n = 0 := by omega
  obtain ⟨mv, hmv⟩ : ∃ mv, mvL n K xs = mv := ⟨_, rfl⟩
  simp only [hmv] at HML HM0 HMS HSS HR'
  clear hN hK hxl hyl hzl hms hys hzs H1 H2 H3 HP HQ hmv
  go_enter Tryz.func7, Tryz.ntmps7
  go_wp2_with (first
    | (go_at_call 10; with_reducible refine AnsM.use alive11 fun w1 hb1 => ?_; have s0 := keep_cell hb1 hVs t0; have s1 := keep_cell hb1 hVs t1; have s2 := keep_cell hb1 hVs t2; have s3 := keep_cell hb1 hVs t3; have hW1 := bb hWV hb1)
    | (go_at_call 21; with_reducible refine FitY.use HM hW1 fun fb w2 hF hb2 => ?_; have hW2 := bb hW1 hb2)
    | (at_make; refine Hid.out ?_))
  unfold Hid
  have HF2 : Hid (FieldAt w2 fb x) := hF
  have HX2 : Hid (UAt w2 B D xs) := hX.below hW2
  have HB2 : Hid (Below w.heap.size w w2) := bb hBV (bb hb1 hb2)
  refine wpList_make_full _ rfl _ _ 26 rfl w2.heap.size 22 ii _ 1 Tryz.underlying26 hii hzi hsi .i64 .i64 (n : Int) (n : Int) n rfl rfl rfl rfl (by have := HN.out; rw [hbi]; omega) (by have := HN.out; unfold maxLen; omega) (Nat.le_refl _) ?_
  intro w3 hR hG1
  obtain ⟨gc, hgc⟩ : ∃ gc, w2.heap.size = gc := ⟨_, rfl⟩
  have HGC : Hid (w2.heap.size = gc) := hgc
  have hR1 : OwnU w3 w2.heap.size (some ⟨w2.heap.size, 0, none⟩) n (mv 0) := by
    have e : (madeCells (Value.int .u64 0).cells (n * 1)).toList = ucells (mv 0) := by
      rw [made_list rfl, HM0.out]; simp [ucells]
    unfold OwnU
    rw [HML.out, ← e]; exact hR
  have hB3 : Below w2.heap.size w2 w3 := (Below.refl _ _).grown hG1 (Nat.le_refl _) (fun k ek => by cases ek)
  have HR2 : Hid (OwnU w3 w2.heap.size (some ⟨gc, 0, none⟩) n (mv 0)) := by unfold Hid; rw [← hgc]; exact hR1
  rw [hgc]
  clear hR hR1 hG1 hgc hF hb2 hb1 hX hBV hW2 hW1 hWV hw t0 t1 t2 t3 s0 s1 s2 s3 HM
  go_wp2
  go_loopw [48] (fun v wr => ∃ j : Nat, v = .int .i64 (j : Int) ∧ j ≤ n ∧ Hid (OwnU wr w2.heap.size (some ⟨gc, 0, none⟩) n (mv j)) ∧ Hid (Below w2.heap.size w2 wr)) (fun v _ => n - (intOf v).toNat)
  case atStart => exact ⟨0, rfl, by omega, HR2, hB3⟩
  case round =>
    clear HR2 hB3
    obtain ⟨j, rfl, hj, HO, HB⟩ := hrel
    by_cases hlt : j < n
    · obtain ⟨h1, hn, hK⟩ := HN.out
      obtain ⟨c, hc⟩ : ∃ c, xs[j]? = some c := ⟨_, List.getElem?_eq_getElem (by rw [HXL.out]; exact hlt)⟩
      obtain ⟨b, o, rfl, hb, c0, _⟩ := (HX2.out.below HB.out).get j c hc
      obtain ⟨e, he⟩ : ∃ e, (j + K) % n = e := ⟨_, rfl⟩
      have hel : e < n := he ▸ Nat.mod_lt _ (by omega)
      obtain ⟨y, hy⟩ : ∃ y, (mv j)[e]? = some y := ⟨_, List.getElem?_eq_getElem (by rw [HML.out]; exact hel)⟩
      obtain ⟨_, eg, _, _, hck, hfk⟩ := HO.out.get hy
      cases eg
      have HS := HMS.out j c hlt hc
      rw [he] at HS
      have HO3 : Hid (OwnU (wr.setCell ⟨gc, e, none⟩ (.int .u64 (c : Int))) w2.heap.size (some ⟨gc, 0, none⟩) n (mv (j + 1))) := by
        unfold Hid; rw [← HS]; exact HO.out.set e c
      have HB3 : Hid (Below w2.heap.size w2 (wr.setCell ⟨gc, e, none⟩ (.int .u64 (c : Int)))) := HB.out.setCell (p := ⟨gc, e, none⟩) (by rw [HGC.out]; exact Nat.le_refl _) _
      have r1 : wrap64 ((j : Int) + (K : Int)) = (j : Int) + (K : Int) := by
        rw [← Int.natCast_add]; exact wrN (addSm hlt hK (Nat.le_trans hn (by decide)))
      have r1' : IntKind.i64.wrap ((j : Int) + (K : Int)) = (j : Int) + (K : Int) := by
        rw [← Int.natCast_add]; exact wrI (addSm hlt hK (Nat.le_trans hn (by decide)))
      have r2 : Int.tmod ((j : Int) + (K : Int)) (n : Int) = (e : Int) := by rw [← he]; rfl
      have r2' : ((j : Int) + (K : Int)) % (n : Int) = (e : Int) := by rw [← he]; rfl
      have r3 : wrap64 (e : Int) = (e : Int) := wrL hel (Nat.le_trans hn (by decide))
      have r3' : IntKind.i64.wrap (e : Int) = (e : Int) := wrLI hel (Nat.le_trans hn (by decide))
      have q1 : (e : Int) < (n : Int) := ltI hel
      have q2 : (j : Int) < (n : Int) := ltI hlt
      clear he hel hy hc hb HS HO HB h1 hn hK
      iterate 66 (first | go_values | go_skip | go_guarded | go_step | go_upon | go_in | go_back)
      clear r1 r1' r2 r2' r3 r3' q1
      go_wp2
      go_roundw
      case rel => exact ⟨j + 1, by go_num, by omega, HO3, HB3⟩
      case measure => simp [intOf]; omega
    · obtain rfl : j = n := by omega
      have HUM : Hid (UAt wr (some ⟨gc, 0, none⟩) j (mv j)) := HO.out.words HSS.out.1
      have HF3 : Hid (FieldAt wr fb x) := HF2.out.below HB.out
      have HX3 : Hid (UAt wr B D xs) := HX2.out.below HB.out
      have HB3 : Hid (Below w.heap.size w wr) := bb HB2.out HB.out
      have HR1 := HR'.out.1 wr fb B D HF3.out HX3.out
      clear HO HB HM0 HMS
      go_wp2_with (first
        | (go_at_call 23; with_reducible refine AnsW.use0 HRt fun n5 => ?_)
        | (go_at_call 12; with_reducible refine OwnT.useG HRb HZL.out HN.out.1 (Below.refl _ _) fun gb C5 w5 hO5 hb5 => ?_; have HRt := H3'.out w5 fb ((HF3.out.below hb4).below hb5))
        | (go_at_call 12; with_reducible refine OwnT.useG HR1 HYL.out HN.out.1 (Below.refl _ _) fun ga C4 w4 hO4 hb4 => ?_; have HRb := HR'.out.2 w4 fb _ _ (HF3.out.below hb4) (HUM.out.below hb4)))
      have HUA : Hid (UAt w5 (some ⟨ga, 0, none⟩) C4 ys) := (hO4.words HSS.out.2.1).below hb5
      have HUB : Hid (UAt w5 (some ⟨gb, 0, none⟩) C5 zs) := hO5.words HSS.out.2.2
      have HB5 : Hid (Below w.heap.size w w5) := bb HB3.out (bb hb4 hb5)
      clear hO4 hO5 hb4 hb5 HR1 HRb HRt
      go_loopw [100] (fun v wr => ∃ i k : Nat, v = .int .i64 (i : Int) ∧ i ≤ j ∧ wr = w5.drewN k) (fun v _ => j - (intOf v).toNat)
      case atStart => exact ⟨0, n5, rfl, by omega, rfl⟩
      case round =>
        obtain ⟨i, k, rfl, hi, rfl⟩ := hrel
        by_cases hlt : i < j
        · obtain ⟨h1, hn, hK⟩ := HN.out
          obtain ⟨y, hy⟩ : ∃ y, ys[i]? = some y := ⟨_, List.getElem?_eq_getElem (by rw [HYL.out]; exact hlt)⟩
          obtain ⟨v, hv⟩ : ∃ v, zs[i]? = some v := ⟨_, List.getElem?_eq_getElem (by rw [HZL.out]; exact hlt)⟩
          have c1 := HUA.out.at0 hy
          have c2 := HUB.out.at0 hv
          have HPi := HP'.out i hlt
          have HQi := HQ'.out i y v hy hv
          obtain ⟨e, he⟩ : ∃ e, i * K = e := ⟨_, rfl⟩
          have hel : e ≤ 16777216 := he ▸ mulSm hlt hK hn
          rw [he] at HPi
          have r1 : wrap64 ((i : Int) * (K : Int)) = (e : Int) := by rw [← Int.natCast_mul, he]; exact wrN hel
          have r1' : IntKind.i64.wrap ((i : Int) * (K : Int)) = (e : Int) := by rw [← Int.natCast_mul, he]; exact wrI hel
          have r2 : IntKind.u64.wrap (e : Int) = (e : Int) := wrU hel
          have q1 : (i : Int) < (j : Int) := ltI hlt
          have e1 : ((v : Int) != (v : Int)) = false := by simp
          clear hy hv he hel h1 hn hK
          go_wp2
          go_quiet ((first
            | (go_at_call 24; first | (with_reducible exact Ans.quiet HPi) | (with_reducible exact Ans.quiet0 HPi))
            | (go_at_call 20; first | (with_reducible exact Ans.quiet HQi) | (with_reducible exact Ans.quiet0 HQi))))
          go_wp2
          clear r1 r1' r2 q1
          go_roundw
          case rel => exact ⟨i + 1, k + nq, by go_num, by omega, by first | rfl | (rw [World.drewN_drewN]) | (rw [Nat.add_assoc])⟩
          case measure => simp [intOf]; omega
        · obtain rfl : i = j := by omega
          go_wp2
          go_ret
          exact ⟨rfl, bb HB5.out (below_drewN _ _)⟩
theorem moves_any (W : World) (kind z : Int) (hz : z < 9223372036854775808) (q : Nat) (hq : q < 18446744073709551616) (A : Option Addr) (C : Nat) (es : List En) (hE : EntsAt W A C es) (hfs : ∀ x ∈ es, x.fs.length * 16 ≤ 140737488355328) (B : Option Addr) (D : Nat) (xs : List Nat) (hX : UAt W B D xs) (K : Int) (hK : K < 9223372036854775808) :
    AnsB W 7 #[srcV kind z (q : Int) A es.length C, .slice B xs.length D, .int .i64 K] (.bool true) := by
  rcases fit_any W kind z hz q hq A C es hE hfs B D xs hX with HM | ⟨x, hF, h1, h64, hd, hg, HM⟩
  · exact moves_none W kind z q A _ C B _ D hX.len K HM
  · obtain ⟨h3, hodd, hlt⟩ := hF.num
    by_cases k0 : K < 0
    · exact moves_less W kind z q A _ C B _ D hX.len K k0 x.p x HM
    · by_cases k1 : (xs.length : Int) ≤ K
      · exact moves_more W kind z q A _ C B _ D hX.len K (by omega) k1 x.p x HM
      · obtain ⟨k, rfl⟩ := Int.eq_ofNat_of_zero_le (show 0 ≤ K by omega)
        have hk : k < xs.length := by omega
        have hml := mvL_len xs.length k xs xs.length
        have hms := mvL_lt (K := k) (p := x.p) (by omega) hg rfl xs.length
        have hzl : (dT x false (mvL xs.length k xs xs.length)).length = xs.length := by rw [dT_len, hml]
        have hr := twR_lt hF xs.length false
        refine moves_yes W kind z q A _ C B _ D k xs (dT x false xs) (dT x false (mvL xs.length k xs xs.length)) hX ⟨h1, h64⟩ hk rfl (dT_len _ _ _) hzl (fun y hy => by have := hms y hy; omega) (fun y hy => by have := dT_lt hF false xs y hy; omega) (fun y hy => by have := dT_lt hF false _ y hy; omega) x.p ((twR x xs.length false : Nat) : Int) (fun i => twR x xs.length false ^ (i * k) % x.p) x HM
          (fun w b B D F U => run_yes F hF U h1 (by omega) hd hg false) (fun w b B D F U => ?_) (fun w b F => ?_) (fun i hi => ?_) (fun i y v hy hv => ?_)
        · have := run_yes F hF U (by omega) (by omega) (by rw [hml]; exact hd) hms false
          rw [hml] at this
          exact this
        · have := hF.gl
          exact fRoot_any F (by omega) xs.length (by omega) h1 hd
        · have := mulSm hi hk h64
          exact rpow_any _ x.p (by omega) (by omega) (by omega) (i * k) (by omega)
        · have hi : i < xs.length := by have := (List.getElem?_eq_some_iff.1 hy).1; rwa [dT_len] at this
          rw [dT_get hi] at hy
          cases hy
          rw [dT_get (by rw [hml]; exact hi)] at hv
          cases hv
          have hy := dV_lt hF false xs i
          have hq := Nat.mod_lt (twR x xs.length false ^ (i * k)) (show 0 < x.p by omega)
          have := rmul_any (dV x false xs i) (twR x xs.length false ^ (i * k) % x.p) x.p (by omega) (by omega) (by omega) (by omega)
          rw [dV_moved hF hk hd hml (fun j hj => mvL_all hk hj) i]
          exact this
end Go.Proofs.YtphpllachnhfbaaGreat

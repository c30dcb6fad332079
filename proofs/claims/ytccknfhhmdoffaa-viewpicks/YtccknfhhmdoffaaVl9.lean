/-
  The walk of ViewPicks: it answers true, of every view, axis and index. No condition but that the rows lie there.
-/
import Derived.Test.YtccknfhhmdoffaaVl6
import Derived.Deep.DeepCutAuto
namespace Go.Proofs.Ytccknfhhmdoffaa
set_option linter.unusedVariables false
open Go.RowKit
attribute [local go_sem ↓] appS_eq

set_option maxRecDepth 20000 in
set_option maxHeartbeats 1000000 in
theorem picks_great (W : World) (o : Int) (A : Option Addr) (L C : Nat) (A' : Option Addr) (L' C' : Nat) (k i : Int) (h : gtB L L' = true) : AnsB W 8 #[vw o A L C A' L' C', .int .i64 k, .int .i64 i] (.bool true) := by
  intro w hw
  have HA := alive_any W
  have HG := great_any W o A L C A' L' C'
  rw [h] at HG
  clear h
  unfold vw at *
  have S := L1.new W w hw 24 (.int .i64 o) (.slice A L C) (.slice A' L' C')
  go_enter Try.func8, Try.ntmps8
  go_wp2_with (first
    | (go_at_call 10; (with_reducible refine L1.use HA S fun X2 S hb q0 q1 q2 => ?_))
    | (go_at_call 11; (with_reducible refine L1.use HG S fun X3 S hb q0 q1 q2 => ?_)))
  go_ret
  exact ⟨rfl, S.hB⟩
set_option maxRecDepth 20000 in
set_option maxHeartbeats 1000000 in
theorem picks_err (W : World) (o : Int) (A : Option Addr) (L C : Nat) (A' : Option Addr) (L' C' : Nat) (k i : Int) (h : gtB L L' = false) (e : Int) (he : e ≠ 0) (HP : AnsB W 26 #[vw o A L C A' L' C', .int .i64 k, .int .i64 i] (.tuple #[vw0, .int .i64 e])) (HR : AnsB W 14 #[vw o A L C A' L' C', .int .i64 4096] (.int .i64 e)) : AnsB W 8 #[vw o A L C A' L' C', .int .i64 k, .int .i64 i] (.bool true) := by
  intro w hw
  have HA := alive_any W
  have HG := great_any W o A L C A' L' C'
  have HO := of_any W o A L C A' L' C'
  have HE := empty_any W
  rw [h] at HG
  unfold vw vw0 at *
  have S := L1.new W w hw 24 (.int .i64 o) (.slice A L C) (.slice A' L' C')
  clear h
  go_enter Try.func8, Try.ntmps8
  go_wp2_with (first
    | (go_at_call 10; (with_reducible refine L1.use HA S fun X2 S hb q0 q1 q2 => ?_))
    | (go_at_call 11; (with_reducible refine L1.use HG S fun X3 S hb q0 q1 q2 => ?_))
    | (go_at_call 12; (with_reducible refine L1.use HO S fun X4 S hb q0 q1 q2 => ?_))
    | (go_at_call 26; (with_reducible refine L1.use HP S fun X5 S hb q0 q1 q2 => ?_); have T := S.two 28 (.int .i64 0) (.slice none 0 0) (.slice none 0 0); obtain ⟨q0, q1, q2, p0, p1, p2⟩ := T.cells)
    | (go_at_call 14; (with_reducible refine L2.use HR T fun X6 T hb q0 q1 q2 p0 p1 p2 => ?_))
    | (go_at_call 20; (with_reducible refine L2.use HE T fun X7 T hb q0 q1 q2 p0 p1 p2 => ?_)))
  go_ret
  exact ⟨rfl, T.hB⟩
set_option maxRecDepth 20000 in
set_option maxHeartbeats 1000000 in
theorem picks_axis1 (W : World) (o : Int) (A : Option Addr) (L C : Nat) (A' : Option Addr) (L' C' : Nat) (k i : Int) (h : gtB L L' = false) (hk : k < 0) (HP : AnsB W 26 #[vw o A L C A' L' C', .int .i64 k, .int .i64 i] (.tuple #[vw0, .int .i64 10])) (HR : AnsB W 14 #[vw o A L C A' L' C', .int .i64 4096] (.int .i64 0)) : AnsB W 8 #[vw o A L C A' L' C', .int .i64 k, .int .i64 i] (.bool true) := by
  intro w hw
  have HA := alive_any W
  have HG := great_any W o A L C A' L' C'
  have HO := of_any W o A L C A' L' C'
  have HE := empty_any W
  rw [h] at HG
  unfold vw vw0 at *
  have S := L1.new W w hw 24 (.int .i64 o) (.slice A L C) (.slice A' L' C')
  clear h
  go_enter Try.func8, Try.ntmps8
  go_wp2_with (first
    | (go_at_call 10; (with_reducible refine L1.use HA S fun X2 S hb q0 q1 q2 => ?_))
    | (go_at_call 11; (with_reducible refine L1.use HG S fun X3 S hb q0 q1 q2 => ?_))
    | (go_at_call 12; (with_reducible refine L1.use HO S fun X4 S hb q0 q1 q2 => ?_))
    | (go_at_call 26; (with_reducible refine L1.use HP S fun X5 S hb q0 q1 q2 => ?_); have T := S.two 28 (.int .i64 0) (.slice none 0 0) (.slice none 0 0); obtain ⟨q0, q1, q2, p0, p1, p2⟩ := T.cells)
    | (go_at_call 14; (with_reducible refine L2.use HR T fun X6 T hb q0 q1 q2 p0 p1 p2 => ?_))
    | (go_at_call 20; (with_reducible refine L2.use HE T fun X7 T hb q0 q1 q2 p0 p1 p2 => ?_)))
  go_ret
  exact ⟨rfl, T.hB⟩
set_option maxRecDepth 20000 in
set_option maxHeartbeats 1000000 in
theorem picks_axis2 (W : World) (o : Int) (A : Option Addr) (L C : Nat) (A' : Option Addr) (L' C' : Nat) (k i : Int) (h : gtB L L' = false) (hk0 : ¬ k < 0) (hk : (L : Int) ≤ k) (HP : AnsB W 26 #[vw o A L C A' L' C', .int .i64 k, .int .i64 i] (.tuple #[vw0, .int .i64 10])) (HR : AnsB W 14 #[vw o A L C A' L' C', .int .i64 4096] (.int .i64 0)) : AnsB W 8 #[vw o A L C A' L' C', .int .i64 k, .int .i64 i] (.bool true) := by
  intro w hw
  have HA := alive_any W
  have HG := great_any W o A L C A' L' C'
  have HO := of_any W o A L C A' L' C'
  have HE := empty_any W
  rw [h] at HG
  unfold vw vw0 at *
  have S := L1.new W w hw 24 (.int .i64 o) (.slice A L C) (.slice A' L' C')
  clear h
  go_enter Try.func8, Try.ntmps8
  go_wp2_with (first
    | (go_at_call 10; (with_reducible refine L1.use HA S fun X2 S hb q0 q1 q2 => ?_))
    | (go_at_call 11; (with_reducible refine L1.use HG S fun X3 S hb q0 q1 q2 => ?_))
    | (go_at_call 12; (with_reducible refine L1.use HO S fun X4 S hb q0 q1 q2 => ?_))
    | (go_at_call 26; (with_reducible refine L1.use HP S fun X5 S hb q0 q1 q2 => ?_); have T := S.two 28 (.int .i64 0) (.slice none 0 0) (.slice none 0 0); obtain ⟨q0, q1, q2, p0, p1, p2⟩ := T.cells)
    | (go_at_call 14; (with_reducible refine L2.use HR T fun X6 T hb q0 q1 q2 p0 p1 p2 => ?_))
    | (go_at_call 20; (with_reducible refine L2.use HE T fun X7 T hb q0 q1 q2 p0 p1 p2 => ?_)))
  go_ret
  exact ⟨rfl, T.hB⟩
set_option maxRecDepth 20000 in
set_option maxHeartbeats 4000000 in
theorem picks_bad (W : World) (o : Int) (A : Option Addr) (C : Nat) (A' : Option Addr) (C' : Nat) (ds : List Nat) (ss : List Int) (hD : ZAt W A C (ints ds)) (hZ : ZAt W A' C' ss) (hO : Ok o ds ss) (k d : Nat) (hd : ds[k]? = some d) (h : gtB ds.length ds.length = false) (i : Int) (hi : ¬ (0 ≤ i ∧ i < d)) :
    AnsB W 8 #[vw o A ds.length C A' ds.length C', .int .i64 (k : Int), .int .i64 i] (.bool true) := by
  intro w hw
  have hS := hO.shp
  have hk : k < ds.length := (List.getElem?_eq_some_iff.1 hd).1
  have HA := alive_any W
  have HG := great_any W o A ds.length C A' ds.length C'
  have HO := of_any W o A ds.length C A' ds.length C'
  have HE := empty_any W
  rw [h] at HG
  have HP := pick_range W o A C A' C' ds ss hD hZ hO k d hd i hi
  have HR := rcheck_any W o A C A' C' (ints ds) ss hD hZ 4096 0 hO.chk
  rw [ints_len, hO.len] at HR
  obtain ⟨ba, ra, rfl, hba, ca⟩ := hD.nat hd
  unfold vw vw0 at *
  generalize ds.length = N at *
  have hkN : (k : Int) < (N : Int) := by omega
  have S := L1.new W w hw 24 (.int .i64 o) (.slice (some ⟨ba, ra, none⟩) N C) (.slice A' N C')
  clear hO hS hD hZ hd h
  by_cases h0 : i < 0
  · clear hi
    go_enter Try.func8, Try.ntmps8
    go_wp2_with (first
      | (go_at_call 10; (with_reducible refine L1.use HA S fun X2 S hb q0 q1 q2 => ?_))
      | (go_at_call 11; (with_reducible refine L1.use HG S fun X3 S hb q0 q1 q2 => ?_))
      | (go_at_call 12; (with_reducible refine L1.use HO S fun X4 S hb q0 q1 q2 => ?_))
      | (go_at_call 26; (with_reducible refine L1.use HP S fun X5 S hb q0 q1 q2 => ?_); have T := S.two 28 (.int .i64 0) (.slice none 0 0) (.slice none 0 0); obtain ⟨q0, q1, q2, p0, p1, p2⟩ := T.cells)
      | (go_at_call 14; (with_reducible refine L2.use HR T fun X6 T hb q0 q1 q2 p0 p1 p2 => ?_); have c1 := ((bcell T.hW).1 ba (ra + k) hba).trans ca)
      | (go_at_call 20; (with_reducible refine L2.use HE T fun X7 T hb q0 q1 q2 p0 p1 p2 => ?_)))
    go_ret
    exact ⟨rfl, T.hB⟩
  · have h1 : (d : Int) ≤ i := by omega
    clear hi
    go_enter Try.func8, Try.ntmps8
    go_wp2_with (first
      | (go_at_call 10; (with_reducible refine L1.use HA S fun X2 S hb q0 q1 q2 => ?_))
      | (go_at_call 11; (with_reducible refine L1.use HG S fun X3 S hb q0 q1 q2 => ?_))
      | (go_at_call 12; (with_reducible refine L1.use HO S fun X4 S hb q0 q1 q2 => ?_))
      | (go_at_call 26; (with_reducible refine L1.use HP S fun X5 S hb q0 q1 q2 => ?_); have T := S.two 28 (.int .i64 0) (.slice none 0 0) (.slice none 0 0); obtain ⟨q0, q1, q2, p0, p1, p2⟩ := T.cells)
      | (go_at_call 14; (with_reducible refine L2.use HR T fun X6 T hb q0 q1 q2 p0 p1 p2 => ?_); have c1 := ((bcell T.hW).1 ba (ra + k) hba).trans ca)
      | (go_at_call 20; (with_reducible refine L2.use HE T fun X7 T hb q0 q1 q2 p0 p1 p2 => ?_)))
    go_ret
    exact ⟨rfl, T.hB⟩
theorem pick_wrap {k k1 : Nat} (h4 : k < 4) (h : k + 1 = k1) : IntKind.i64.wrap ((k : Int) + 1) = (k1 : Int) := by rw [IntKind.wrap_i64]; omega
theorem pick_bounds {k N C : Nat} (h1 : k < N) (h2 : N ≤ C) : (0 : Int) ≤ (k : Int) + 1 ∧ (k : Int) + 1 ≤ (N : Int) ∧ (N : Int) ≤ (C : Int) ∧ k + 1 ≤ N ∧ k + 1 ≤ C ∧ k ≤ C ∧ (k : Int) ≤ (C : Int) ∧ (k : Int) + 1 ≤ (C : Int) := by omega
theorem pick_few {k N M : Nat} (h : N - 1 = M) (h4 : N ≤ 4) (hk : k < N) : M < 4 ∧ k ≤ M := by omega
theorem pick_step {n M : Nat} (h : n < M) (h4 : M < 4) : (n : Int) < (M : Int) ∧ n < 4 ∧ (n : Int) < 4 ∧ n + 1 < 4 ∧ (n : Int) + 1 < 4 ∧ wrap64 ((n : Int) + 1) = (n : Int) + 1 := ⟨by omega, by omega, by omega, by omega, by omega, wrap_next (by omega)⟩
theorem pick_room {x w I : Nat} (h2 : x ≤ I ∧ w ≤ I) (h3 : w < I ∧ x < I) : x ≤ I + 1 ∧ w ≤ I + 1 ∧ w < I + 1 ∧ x < I + 1 := by omega
def pkX (k : Nat) (i : Nat → Nat) (n j : Nat) : Nat := if j < k then (if j < n then i j else 0) else if j = k then 0 else (if j - 1 < n then i (j - 1) else 0)
theorem pkX_zero (k : Nat) (i : Nat → Nat) : (cs4 fun _ => 0) = cs4 (pkX k i 0) := by
  congr 1
  funext j
  unfold pkX
  simp
theorem pkX_lo {k n : Nat} (i : Nat → Nat) (h : n < k) : pkX k i (n + 1) = fun j => if j = n then i n else pkX k i n j := by
  funext j
  unfold pkX
  by_cases e : j = n
  · subst e; rw [if_pos h, if_pos (Nat.lt_succ_self _), if_pos rfl]
  · rw [if_neg e]
    by_cases h1 : j < k
    · rw [if_pos h1, if_pos h1]
      by_cases h2 : j < n
      · rw [if_pos h2, if_pos (by omega)]
      · rw [if_neg h2, if_neg (by omega)]
    · rw [if_neg h1, if_neg h1]
      by_cases h3 : j = k
      · rw [if_pos h3, if_pos h3]
      · rw [if_neg h3, if_neg h3, if_neg (by omega), if_neg (by omega)]
theorem pkX_hi {k n : Nat} (i : Nat → Nat) (h : k ≤ n) : pkX k i (n + 1) = fun j => if j = n + 1 then i n else pkX k i n j := by
  funext j
  unfold pkX
  by_cases e : j = n + 1
  · subst e; rw [if_pos rfl, if_neg (by omega), if_neg (by omega), if_pos (by omega)]; rfl
  · rw [if_neg e]
    by_cases h1 : j < k
    · rw [if_pos h1, if_pos h1, if_pos (by omega), if_pos (by omega)]
    · rw [if_neg h1, if_neg h1]
      by_cases h3 : j = k
      · rw [if_pos h3, if_pos h3]
      · rw [if_neg h3, if_neg h3]
        by_cases h2 : j - 1 < n
        · rw [if_pos h2, if_pos (by omega)]
        · rw [if_neg h2, if_neg (by omega)]
theorem pkX_end {k M a : Nat} {i : Nat → Nat} (hk : k ≤ M) (hi : ∀ j, M ≤ j → j < 4 → i j = 0) : (cs4 fun j => if j = k then a else pkX k i M j) = cs4 (pkI k a i) := by
  have e : ∀ j, j < 4 → (if j = k then a else pkX k i M j) = pkI k a i j := fun j hj => by
    unfold pkX pkI
    by_cases h3 : j = k
    · subst h3; rw [if_pos rfl, if_neg (by omega), if_pos rfl]
    · rw [if_neg h3]
      by_cases h1 : j < k
      · rw [if_pos h1, if_pos h1, if_pos (by omega)]
      · rw [if_neg h1, if_neg h3, if_neg h1, if_neg h3]
        by_cases h2 : j - 1 < M
        · rw [if_pos h2]
        · rw [if_neg h2, hi (j - 1) (by omega) (by omega)]
  unfold cs4
  simp only [e 0 (by omega), e 1 (by omega), e 2 (by omega), e 3 (by omega)]
theorem L2.set {W w : World} {B D : Nat} {t u : TypeId} {vv uu : Array Value} {X : World} (T : L2 W w B D t u vv uu X) (I0 k : Nat) (v : Value) (h1 : w.heap.size ≤ I0) (h2 : W.heap.size ≤ I0) (h3 : B < I0) (h4 : D < I0) : L2 W w B D t u vv uu (X.setCell ⟨I0, k, none⟩ v) :=
  ⟨T.hW.setCell (p := ⟨I0, k, none⟩) h2 _, T.hB.setCell (p := ⟨I0, k, none⟩) h1 _, T.b1.other (by omega) _ _, T.b2.other (by omega) _ _⟩
theorem pick_boxes {W w : World} {B D : Nat} {t u : TypeId} {vv uu : Array Value} {Y wr : World} (T : L2 W w B D t u vv uu Y) (hb : Below wr.heap.size wr Y) {A : Option Addr} {C : Nat} {l : List Int} (z : ZAt wr A C l) (i : Nat → Nat) :
    ∃ V I1, (Y.alloc (.cells (cs4 i) 46)).alloc (.cells (cs4 fun _ => 0) 46) = V ∧ Y.heap.size = I1 ∧ Blk V I1 46 (cs4 i) ∧ Blk V (I1 + 1) 46 (cs4 fun _ => 0) ∧ L2 W w B D t u vv uu V ∧ ZAt V A C l ∧ (∀ g o, A = some ⟨g, o, none⟩ → 0 < l.length → g < I1) ∧ (W.heap.size ≤ I1 ∧ w.heap.size ≤ I1) ∧ (B < I1 ∧ D < I1) := by
  have b2 := Blk.new (Y.alloc (.cells (cs4 i) 46)) 46 (cs4 fun _ => 0)
  rw [World.size_alloc] at b2
  refine ⟨_, _, rfl, rfl, (Blk.new _ _ _).alloc _, b2, (T.next (below_alloc _ _)).next (below_alloc _ _), ((z.below hb).below (below_alloc _ _)).below (below_alloc _ _), fun g o e h => ?_, ⟨T.hW.size, T.hB.size⟩, ⟨T.b1.lt, T.b2.lt⟩⟩
  obtain ⟨x, hx⟩ : ∃ x, l[0]? = some x := ⟨_, List.getElem?_eq_getElem h⟩
  obtain ⟨b, o', e', hlt, _⟩ := z.get 0 x hx
  rw [e] at e'
  cases e'
  exact Nat.lt_of_lt_of_le hlt hb.size
/-- One struck out of a row, by two appends. -/
theorem strikes (X : World) (b r C : Nat) (zs : List Int) (hZ : ZAt X (some ⟨b, r, none⟩) C zs) (k : Nat) (hk : k < zs.length) (hl : zs.length ≤ 100) :
    ∃ V1 V2 V3 A1 c1 A2 c2, X.alloc (.cells #[] 3) = V1 ∧
      (appS #[.slice (some ⟨X.heap.size, 0, none⟩) 0 0, .slice (some ⟨b, r, none⟩) k C]).run Try.prog V1.drew = .ok (.slice A1 k c1) V2 ∧
      (appS #[.slice A1 k c1, .slice (some ⟨b, r + (k + 1), none⟩) (zs.length - (k + 1)) (C - (k + 1))]).run Try.prog V2 = .ok (.slice A2 (zs.length - 1) c2) V3 ∧
      Below X.heap.size X V1 ∧ Below X.heap.size X V2 ∧ Below X.heap.size X V3 ∧ ZAt V3 A2 c2 (zs.take k ++ zs.drop (k + 1)) := by
  obtain ⟨i1, hi1, hz1, hs1, hb1⟩ := info_parts infoZ
  have hB1 := below_alloc X (.cells #[] 3)
  have hB1' := bb hB1 (below_drewZ _)
  have hO := World.ownsRow_made (base := X.heap.size) (e := 3) (size := 1) X #[] 0 (Nat.le_refl _) (by unfold maxLen; omega) rfl
  have hO' : (X.alloc (.cells #[] 3)).drew.ownsRow X.heap.size 3 1 (.slice (some ⟨X.heap.size, 0, none⟩) 0 0) 0 [] := row_below hO (below_drewZ _)
  have hone : ∀ (ys : List Int), ∀ u ∈ zcells ys, u.oneCell' = true := by
    intro ys u hu
    obtain ⟨j, hj, rfl⟩ := List.getElem_of_mem hu
    obtain ⟨z, _, hc⟩ := zcells_at (List.getElem?_eq_getElem hj)
    rw [hc]; rfl
  have hcell : ∀ {Y : World}, Below X.heap.size X Y → ∀ j u, (zcells zs)[j]? = some u → Y.cell? ⟨b, r + j, none⟩ = some u := fun {Y} hY j u hu => by
    obtain ⟨z, hz, rfl⟩ := zcells_at hu
    obtain ⟨b', r', e, hb, c0, _⟩ := hZ.get j z hz
    cases e
    rw [(bcell hY).1 _ _ hb]; exact c0
  have hzt : zcells (zs.take k) = (zcells zs).take k := by simp [zcells, List.map_take]
  have hzd : zcells (zs.drop (k + 1)) = (zcells zs).drop (k + 1) := by simp [zcells, List.map_drop]
  obtain ⟨v1, V2, hr1, ho1, hg1, _⟩ := run_append_own (P := Try.prog) (X.alloc (.cells #[] 3)).drew X.heap.size 22 22 3 i1 (.int .i64 0) 1 8 Try.underlying22 hi1 hz1 hs1 hb1 rfl (by omega) (.slice (some ⟨X.heap.size, 0, none⟩) 0 0) 0 [] hO' ⟨b, r, none⟩ k C (zcells (zs.take k)) (by simp [zcells]; omega) (fun j u hu => by
    rw [Addr.add_lit]
    rw [hzt, List.getElem?_take] at hu
    split at hu
    · exact hcell hB1' j u hu
    · cases hu) (hone _) (by unfold maxLen; omega) (by omega) hB1'.size
  rw [Nat.zero_add, List.nil_append] at ho1
  have hB2 : Below X.heap.size X V2 := hB1'.grown hg1 hB1'.size (fun n e => (hO'.lt n e).1)
  obtain ⟨A1, c1, rfl⟩ : ∃ A1 c1, v1 = .slice A1 k c1 := by
    rcases ho1.2 with ⟨rfl, h0⟩ | ⟨g, cap, cur, rfl, _⟩
    · exact ⟨none, 0, by rw [h0]⟩
    · exact ⟨_, _, rfl⟩
  obtain ⟨v2, V3, hr2, ho2, hg2, _⟩ := run_append_own (P := Try.prog) V2 X.heap.size 22 22 3 i1 (.int .i64 0) 1 8 Try.underlying22 hi1 hz1 hs1 hb1 rfl (by omega) (.slice A1 k c1) k (zcells (zs.take k)) ho1 ⟨b, r + (k + 1), none⟩ (zs.length - (k + 1)) (C - (k + 1)) (zcells (zs.drop (k + 1))) (by simp [zcells]) (fun j u hu => by
    rw [Addr.add_lit]
    rw [hzd, List.getElem?_drop] at hu
    rw [Nat.add_assoc]
    exact hcell hB2 _ u hu) (hone _) (by unfold maxLen; omega) (by omega) hB2.size
  have hB3 : Below X.heap.size X V3 := hB2.grown hg2 hB2.size (fun n e => (ho1.lt n e).1)
  have hn : k + (zs.length - (k + 1)) = zs.length - 1 := by omega
  rw [hn, show zcells (zs.take k) ++ zcells (zs.drop (k + 1)) = zcells (zs.take k ++ zs.drop (k + 1)) by simp [zcells]] at ho2
  have hln : (zs.take k ++ zs.drop (k + 1)).length = zs.length - 1 := by simp; omega
  rw [← hln] at ho2
  obtain ⟨A2, c2, rfl, hz2⟩ := own_ints ho2 (fun z hz => by
    rcases List.mem_append.1 hz with hz | hz
    · exact zat_i64 hZ z (List.mem_of_mem_take hz)
    · exact zat_i64 hZ z (List.mem_of_mem_drop hz))
  rw [hln] at hr2
  exact ⟨_, V2, V3, A1, c1, A2, c2, rfl, hr1, hr2, hB1, hB2, hB3, hz2⟩
end Go.Proofs.Ytccknfhhmdoffaa

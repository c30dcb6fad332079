/-
  The walk of ViewTurns: it answers true, of every view and axis. No condition but that the rows lie there.
-/
import Derived.Test.YtccknfhhmdoffaaVl4
import Derived.Test.YtccknfhhmdoffaaVp2
namespace Go.Proofs.Ytccknfhhmdoffaa
set_option linter.unusedVariables false
open Go.RowKit

/-- What the document's Cell answers of the index that one of a made view stands for: the made view's cell. -/
theorem rcell_stand (W : World) (o : Int) (A : Option Addr) (C : Nat) (A' : Option Addr) (C' : Nat) {ds : List Nat} {ss : List Int} (hZ : ZAt W A' C' ss) (hO : Ok o ds ss) {o' : Int} {ds' : List Nat} {ss' : List Int} {f : (Nat → Nat) → Nat → Nat} (h : Stand o ds ss o' ds' ss' f) {n : Nat} (hn : n < pr ds') :
    AnsB W 24 #[vw o A ds.length C A' ds.length C', ixV fun j => (f (ix ds' n) j : Int)] (.int .i64 (ce o' ss' ds' n)) := by
  have hS := hO.shp
  have hi : ∀ j, j < 4 → f (ix ds' n) j < ln ds j := h.into _ fun j hj => ix_lt h.shp n hj
  have hp : ∀ j, j < 4 → 0 ≤ (f (ix ds' n) j : Int) ∧ (f (ix ds' n) j : Int) < 4096 := fun j hj => by
    have a := hi j hj
    have b : ln ds j ≤ 4096 := by
      by_cases h : j < ds.length
      · obtain ⟨d, hd⟩ : ∃ d, ds[j]? = some d := ⟨_, List.getElem?_eq_getElem h⟩
        rw [ln_in hd]; exact ln_le hS hd
      · rw [ln_out (by omega)]; omega
    omega
  have a := rcell_any W o A C A' C' ss hZ (by rw [hO.len]; exact hS.few) (fun j => (f (ix ds' n) j : Int)) hp
  rw [hO.len, cl_cut hS (Int.le_refl _) hO.am (Nat.le_refl _) (fun j hj => ⟨(hp j (by have := hS.few; omega)).1, by have := hi j (by have := hS.few; omega); omega⟩), ← h.cellOf hn] at a
  exact a
theorem set_self {ds : List Nat} {k d : Nat} (hd : ds[k]? = some d) : ds.set k d = ds := by
  apply List.ext_getElem?
  intro i
  rw [List.getElem?_set]
  by_cases h : k = i
  · subst h; rw [if_pos rfl, if_pos (List.getElem?_eq_some_iff.1 hd).1, hd]
  · rw [if_neg h]
theorem turn_off {o g : Int} {ss : List Int} {k d : Nat} (hk : k < ss.length) (hd : 1 ≤ d) (hg : sg ss k = g) : (o + ((d : Int) - 1) * g) + ((d : Int) - 1) * sg (sts ss k d (-1)) k = o := by
  rw [sg_sts hk, hg]
  by_cases h : 1 < (d : Int)
  · rw [if_pos ⟨rfl, h⟩, show g * -1 = -g by omega, Int.mul_neg]; omega
  · rw [if_neg (fun e => h e.2), show (d : Int) - 1 = 0 by omega]; simp
theorem turn_str {ss : List Int} {k d : Nat} (hk : k < ss.length) : sts (sts ss k d (-1)) k d (-1) = ss := by
  by_cases h : 1 < (d : Int)
  · have e := sg_sts hk (d : Int) (-1) k
    rw [if_pos ⟨rfl, h⟩] at e
    have e2 : sts ss k d (-1) = ss.set k (sg ss k * -1) := by unfold sts; rw [if_pos h]
    rw [e2] at e ⊢
    unfold sts
    rw [if_pos h, e, List.set_set, show sg ss k * -1 * -1 = sg ss k by omega]
    apply List.ext_getElem?
    intro i
    rw [List.getElem?_set]
    by_cases h : k = i
    · subst h; rw [if_pos rfl, if_pos hk, List.getElem?_eq_getElem hk]; unfold sg; rw [List.getElem?_eq_getElem hk]; rfl
    · rw [if_neg h]
  · unfold sts
    rw [if_neg h, if_neg h]

set_option maxHeartbeats 1000000 in
theorem turns_great (W : World) (o : Int) (A : Option Addr) (L C : Nat) (A' : Option Addr) (L' C' : Nat) (k : Int) (h : gtB L L' = true) : AnsB W 7 #[vw o A L C A' L' C', .int .i64 k] (.bool true) := by
  intro w hw
  have HA := alive_any W
  have HG := great_any W o A L C A' L' C'
  rw [h] at HG
  clear h
  unfold vw at *
  have S := L1.new W w hw 24 (.int .i64 o) (.slice A L C) (.slice A' L' C')
  go_enter Try.func7, Try.ntmps7
  go_wp2_with (first
    | (go_at_call 10; (with_reducible refine L1.use HA S fun X2 S hb q0 q1 q2 => ?_))
    | (go_at_call 11; (with_reducible refine L1.use HG S fun X3 S hb q0 q1 q2 => ?_)))
  go_ret
  exact ⟨rfl, S.hB⟩
set_option maxHeartbeats 1000000 in
theorem turns_err (W : World) (o : Int) (A : Option Addr) (L C : Nat) (A' : Option Addr) (L' C' : Nat) (k : Int) (h : gtB L L' = false) (e : Int) (he : e ≠ 0) (HP : AnsB W 25 #[vw o A L C A' L' C', .int .i64 k] (.tuple #[vw0, .int .i64 e])) (HR : AnsB W 14 #[vw o A L C A' L' C', .int .i64 4096] (.int .i64 e)) : AnsB W 7 #[vw o A L C A' L' C', .int .i64 k] (.bool true) := by
  intro w hw
  have HA := alive_any W
  have HG := great_any W o A L C A' L' C'
  have HO := of_any W o A L C A' L' C'
  have HE := empty_any W
  rw [h] at HG
  unfold vw vw0 at *
  have S := L1.new W w hw 24 (.int .i64 o) (.slice A L C) (.slice A' L' C')
  clear h
  go_enter Try.func7, Try.ntmps7
  go_wp2_with (first
    | (go_at_call 10; (with_reducible refine L1.use HA S fun X2 S hb q0 q1 q2 => ?_))
    | (go_at_call 11; (with_reducible refine L1.use HG S fun X3 S hb q0 q1 q2 => ?_))
    | (go_at_call 12; (with_reducible refine L1.use HO S fun X4 S hb q0 q1 q2 => ?_))
    | (go_at_call 25; (with_reducible refine L1.use HP S fun X5 S hb q0 q1 q2 => ?_); have T := S.two 28 (.int .i64 0) (.slice none 0 0) (.slice none 0 0); obtain ⟨q0, q1, q2, p0, p1, p2⟩ := T.cells)
    | (go_at_call 14; (with_reducible refine L2.use HR T fun X6 T hb q0 q1 q2 p0 p1 p2 => ?_))
    | (go_at_call 20; (with_reducible refine L2.use HE T fun X7 T hb q0 q1 q2 p0 p1 p2 => ?_)))
  go_ret
  exact ⟨rfl, T.hB⟩
set_option maxHeartbeats 1000000 in
theorem turns_axis1 (W : World) (o : Int) (A : Option Addr) (L C : Nat) (A' : Option Addr) (L' C' : Nat) (k : Int) (h : gtB L L' = false) (hk : k < 0) (HP : AnsB W 25 #[vw o A L C A' L' C', .int .i64 k] (.tuple #[vw0, .int .i64 10])) (HR : AnsB W 14 #[vw o A L C A' L' C', .int .i64 4096] (.int .i64 0)) : AnsB W 7 #[vw o A L C A' L' C', .int .i64 k] (.bool true) := by
  intro w hw
  have HA := alive_any W
  have HG := great_any W o A L C A' L' C'
  have HO := of_any W o A L C A' L' C'
  have HE := empty_any W
  rw [h] at HG
  unfold vw vw0 at *
  have S := L1.new W w hw 24 (.int .i64 o) (.slice A L C) (.slice A' L' C')
  clear h
  go_enter Try.func7, Try.ntmps7
  go_wp2_with (first
    | (go_at_call 10; (with_reducible refine L1.use HA S fun X2 S hb q0 q1 q2 => ?_))
    | (go_at_call 11; (with_reducible refine L1.use HG S fun X3 S hb q0 q1 q2 => ?_))
    | (go_at_call 12; (with_reducible refine L1.use HO S fun X4 S hb q0 q1 q2 => ?_))
    | (go_at_call 25; (with_reducible refine L1.use HP S fun X5 S hb q0 q1 q2 => ?_); have T := S.two 28 (.int .i64 0) (.slice none 0 0) (.slice none 0 0); obtain ⟨q0, q1, q2, p0, p1, p2⟩ := T.cells)
    | (go_at_call 14; (with_reducible refine L2.use HR T fun X6 T hb q0 q1 q2 p0 p1 p2 => ?_))
    | (go_at_call 20; (with_reducible refine L2.use HE T fun X7 T hb q0 q1 q2 p0 p1 p2 => ?_)))
  go_ret
  exact ⟨rfl, T.hB⟩
set_option maxHeartbeats 1000000 in
theorem turns_axis2 (W : World) (o : Int) (A : Option Addr) (L C : Nat) (A' : Option Addr) (L' C' : Nat) (k : Int) (h : gtB L L' = false) (hk0 : ¬ k < 0) (hk : (L : Int) ≤ k) (HP : AnsB W 25 #[vw o A L C A' L' C', .int .i64 k] (.tuple #[vw0, .int .i64 10])) (HR : AnsB W 14 #[vw o A L C A' L' C', .int .i64 4096] (.int .i64 0)) : AnsB W 7 #[vw o A L C A' L' C', .int .i64 k] (.bool true) := by
  intro w hw
  have HA := alive_any W
  have HG := great_any W o A L C A' L' C'
  have HO := of_any W o A L C A' L' C'
  have HE := empty_any W
  rw [h] at HG
  unfold vw vw0 at *
  have S := L1.new W w hw 24 (.int .i64 o) (.slice A L C) (.slice A' L' C')
  clear h
  go_enter Try.func7, Try.ntmps7
  go_wp2_with (first
    | (go_at_call 10; (with_reducible refine L1.use HA S fun X2 S hb q0 q1 q2 => ?_))
    | (go_at_call 11; (with_reducible refine L1.use HG S fun X3 S hb q0 q1 q2 => ?_))
    | (go_at_call 12; (with_reducible refine L1.use HO S fun X4 S hb q0 q1 q2 => ?_))
    | (go_at_call 25; (with_reducible refine L1.use HP S fun X5 S hb q0 q1 q2 => ?_); have T := S.two 28 (.int .i64 0) (.slice none 0 0) (.slice none 0 0); obtain ⟨q0, q1, q2, p0, p1, p2⟩ := T.cells)
    | (go_at_call 14; (with_reducible refine L2.use HR T fun X6 T hb q0 q1 q2 p0 p1 p2 => ?_))
    | (go_at_call 20; (with_reducible refine L2.use HE T fun X7 T hb q0 q1 q2 p0 p1 p2 => ?_)))
  go_ret
  exact ⟨rfl, T.hB⟩
set_option maxRecDepth 20000 in
set_option maxHeartbeats 4000000 in
theorem turns_good (W : World) (o : Int) (A : Option Addr) (C : Nat) (A' : Option Addr) (C' : Nat) (ds : List Nat) (ss : List Int) (hD : ZAt W A C (ints ds)) (hZ : ZAt W A' C' ss) (hO : Ok o ds ss) (k d : Nat) (hd : ds[k]? = some d) (h : gtB ds.length ds.length = false) :
    AnsB W 7 #[vw o A ds.length C A' ds.length C', .int .i64 (k : Int)] (.bool true) := by
  intro w hw
  have hS := hO.shp
  have h4 := hS.few
  have hk : k < ds.length := (List.getElem?_eq_some_iff.1 hd).1
  have hks : k < ss.length := by rw [hO.len]; exact hk
  have hd1 : 1 ≤ d := hS.pos d (List.mem_of_getElem? hd)
  have hdl := ln_le hS hd
  have HA := alive_any W
  have HG := great_any W o A ds.length C A' ds.length C'
  have HO := of_any W o A ds.length C A' ds.length C'
  rw [h] at HG
  have HP := reverse_ok W o A C A' C' ds ss hD hZ hO k d hd
  have hst := slice_stand hO hd (rev_fit hd1)
  rw [ints_set, set_self hd] at HP
  rw [set_self hd] at hst
  have hO' := hst.ok hO
  have hl2 : (sts ss k d (-1)).length = ds.length := by rw [sts_len, hO.len]
  have HPu : ∀ {w : World}, Below W.heap.size W w → ∀ {R : Ending → World → Prop}, (∀ A1 C1 A2 C2 w', ZAt w' A1 C1 (ints ds) → ZAt w' A2 C2 (sts ss k d (-1)) → Below w.heap.size w w' → R (.returned (.tuple #[.agg #[.int .i64 (o + ((d : Int) - 1) * sg ss k), .slice A1 ds.length C1, .slice A2 ds.length C2], .int .i64 0])) w') → Calls Try.prog 25 #[vw o A ds.length C A' ds.length C', .int .i64 (k : Int)] w R := fun {w} hw {R} K => by
    refine HP.use hw fun A1 C1 A2 C2 w' h1 h2 h3 => ?_
    rw [ints_len, hl2]
    exact K A1 C1 A2 C2 w' h1 h2 h3
  have HAll : Hid (∀ (Y : World) A1 C1 A2 C2, Below W.heap.size W Y → ZAt Y A1 C1 (ints ds) → ZAt Y A2 C2 (sts ss k d (-1)) →
      ZAt Y A C (ints ds) ∧ ZAt Y A' C' ss ∧
      AnsB Y 14 #[.agg #[.int .i64 o, .slice A ds.length C, .slice A' ds.length C'], .int .i64 4096] (.int .i64 0) ∧
      AnsB Y 15 #[.slice A1 ds.length C1, .slice A ds.length C] (.bool true) ∧
      (∀ {w X' : World} {B D : Nat} {t u : TypeId} {x y z x' y' z' : Value} (Q : L2 Y w B D t u #[x, y, z] #[x', y', z'] X') {R : Ending → World → Prop}, (∀ A5 C5 X'', ZAt X'' A5 C5 (cls (o + ((d : Int) - 1) * sg ss k) (sts ss k d (-1)) ds) → L2 Y w B D t u #[x, y, z] #[x', y', z'] X'' → Below X'.heap.size X' X'' → X''.cell? ⟨B, 0, none⟩ = some x → X''.cell? ⟨B, 1, none⟩ = some y → X''.cell? ⟨B, 2, none⟩ = some z → X''.cell? ⟨D, 0, none⟩ = some x' → X''.cell? ⟨D, 1, none⟩ = some y' → X''.cell? ⟨D, 2, none⟩ = some z' → R (.returned (.slice A5 (pr ds) C5)) X'') → Calls Try.prog 16 #[.agg #[.int .i64 (o + ((d : Int) - 1) * sg ss k), .slice A1 ds.length C1, .slice A2 ds.length C2]] X' R) ∧
      (∀ {w X' : World} {B D : Nat} {t u : TypeId} {x y z x' y' z' : Value} (Q : L2 Y w B D t u #[x, y, z] #[x', y', z'] X') {R : Ending → World → Prop}, (∀ A5 C5 X'', L2 Y w B D t u #[x, y, z] #[x', y', z'] X'' → Below X'.heap.size X' X'' → X''.cell? ⟨B, 0, none⟩ = some x → X''.cell? ⟨B, 1, none⟩ = some y → X''.cell? ⟨B, 2, none⟩ = some z → X''.cell? ⟨D, 0, none⟩ = some x' → X''.cell? ⟨D, 1, none⟩ = some y' → X''.cell? ⟨D, 2, none⟩ = some z' → R (.returned (.slice A5 (pr ds) C5)) X'') → Calls Try.prog 17 #[.agg #[.int .i64 o, .slice A ds.length C, .slice A' ds.length C']] X' R) ∧
      (∀ n, n < pr ds → AnsB Y 23 #[.slice A ds.length C, .int .i64 (n : Int)] (.agg #[.int .i64 (ix ds n 0 : Int), .int .i64 (ix ds n 1 : Int), .int .i64 (ix ds n 2 : Int), .int .i64 (ix ds n 3 : Int)])) ∧
      (∀ n, n < pr ds → AnsB Y 24 #[.agg #[.int .i64 o, .slice A ds.length C, .slice A' ds.length C'], .agg #[.int .i64 (slI k ((d : Int) - 1) (-1) d (ix ds n) 0 : Int), .int .i64 (slI k ((d : Int) - 1) (-1) d (ix ds n) 1 : Int), .int .i64 (slI k ((d : Int) - 1) (-1) d (ix ds n) 2 : Int), .int .i64 (slI k ((d : Int) - 1) (-1) d (ix ds n) 3 : Int)]] (.int .i64 (ce (o + ((d : Int) - 1) * sg ss k) (sts ss k d (-1)) ds n))) ∧
      (∀ {w : World}, Below Y.heap.size Y w → ∀ {R : Ending → World → Prop}, (∀ A3 C3 A4 C4 w', ZAt w' A3 C3 (ints ds) → ZAt w' A4 C4 ss → Below w.heap.size w w' → R (.returned (.tuple #[.agg #[.int .i64 o, .slice A3 ds.length C3, .slice A4 ds.length C4], .int .i64 0])) w') → Calls Try.prog 25 #[.agg #[.int .i64 (o + ((d : Int) - 1) * sg ss k), .slice A1 ds.length C1, .slice A2 ds.length C2], .int .i64 (k : Int)] w R)) := fun Y A1 C1 A2 C2 hb h1 h2 => by
    have hD' := hD.below hb
    have hZ' := hZ.below hb
    have a1 := rcheck_any Y o A C A' C' (ints ds) ss hD' hZ' 4096 0 hO.chk
    rw [ints_len, hO.len] at a1
    have a2 := same_any Y A1 C1 (ints ds) h1 A C (ints ds) hD'
    rw [ints_len, show smB (ints ds) (ints ds) = true by simp [smB]] at a2
    have a3 := cells_ok Y _ A1 C1 A2 C2 ds _ h1 h2 hO'
    have a4 := rcells_ok Y o A C A' C' ds ss hD' hZ' hO
    have a5 := reverse_ok Y _ A1 C1 A2 C2 ds _ h1 h2 hO' k d hd
    rw [ints_set, set_self hd, turn_str hks, turn_off hks hd1 rfl] at a5
    refine ⟨hD', hZ', a1, a2, fun {w X' B D t u x y z x' y' z'} Q {R} K => L2.row a3 Q fun A5 C5 X'' g1 g2 g3 g4 g5 g6 g7 g8 g9 => ?_, fun {w X' B D t u x y z x' y' z'} Q {R} K => L2.row a4 Q fun A5 C5 X'' g1 g2 g3 g4 g5 g6 g7 g8 g9 => ?_, fun n hn => rat_any Y A C ds hS hD' n hn, fun n hn => rcell_stand Y o A C A' C' hZ' hO hst hn, fun {w} hw {R} K => a5.use hw fun A3 C3 A4 C4 w' g1 g2 g3 => ?_⟩
    · have := K A5 C5 X'' g1 g2 g3 g4 g5 g6 g7 g8 g9
      rw [show (cls (o + ((d : Int) - 1) * sg ss k) (sts ss k d (-1)) ds).length = pr ds by unfold cls; rw [List.length_map, List.length_range]]
      exact this
    · have := K A5 C5 X'' g2 g3 g4 g5 g6 g7 g8 g9
      rw [show (cls o ss ds).length = pr ds by unfold cls; rw [List.length_map, List.length_range]]
      exact this
    · rw [ints_len, hO.len]
      exact K A3 C3 A4 C4 w' g1 g2 g3
  have HSame : Hid (∀ (Y : World) A1 C1 A2 C2 (zs : List Int), zs.length = ds.length → ZAt Y A1 C1 zs → ZAt Y A2 C2 zs → AnsB Y 15 #[.slice A1 ds.length C1, .slice A2 ds.length C2] (.bool true)) := fun Y A1 C1 A2 C2 zs hl h1 h2 => by
    have := same_any Y A1 C1 zs h1 A2 C2 zs h2
    rw [hl, show smB zs zs = true by simp [smB]] at this
    exact this
  have HD : Hid ((ints ds)[k]? = some (d : Int)) := by unfold Hid ints; rw [List.getElem?_map, hd]; rfl
  have HLen : Hid ((ints ds).length = ds.length ∧ ss.length = ds.length) := ⟨ints_len ds, hO.len⟩
  have HW : Hid (∀ n, n < pr ds → wrap64 (((d : Int) - 1) - (ix ds n k : Int)) = (slI k ((d : Int) - 1) (-1) d (ix ds n) k : Int) ∧ ∀ j, j < 4 → slI k ((d : Int) - 1) (-1) d (ix ds n) j = if j = k then slI k ((d : Int) - 1) (-1) d (ix ds n) k else ix ds n j) := fun n hn => by
    have hx := ix_lt hS n (j := k) (by omega)
    rw [ln_in hd] at hx
    refine ⟨?_, fun j hj => ?_⟩
    · unfold slI
      rw [if_pos rfl, wrap_mid (by omega) (by omega)]
      by_cases h1 : 1 < d
      · rw [if_pos h1]; omega
      · rw [if_neg h1]; omega
    · unfold slI
      by_cases e : j = k
      · subst e; simp
      · rw [if_neg e, if_neg e]
  have HS4 : Hid (pr ds ≤ 4096) := hS.max
  have hdw : wrap64 ((d : Int) - 1) = (d : Int) - 1 := wrap_mid (by omega) (by omega)
  obtain ⟨g, hg⟩ : ∃ g, ce (o + ((d : Int) - 1) * sg ss k) (sts ss k d (-1)) ds = g := ⟨_, rfl⟩
  obtain ⟨l, hl⟩ : ∃ l, cls (o + ((d : Int) - 1) * sg ss k) (sts ss k d (-1)) ds = l := ⟨_, rfl⟩
  have HLg : Hid (∀ n, n < pr ds → l[n]? = some (g n)) := fun n hn => by rw [← hl, ← hg]; unfold cls; rw [List.getElem?_map, List.getElem?_range hn]; rfl
  obtain ⟨I, hI⟩ : ∃ I, ix ds = I := ⟨_, rfl⟩
  obtain ⟨q, hq⟩ : ∃ q, (fun n => slI k ((d : Int) - 1) (-1) d (I n)) = q := ⟨_, rfl⟩
  have hq' : ∀ n, slI k ((d : Int) - 1) (-1) d (I n) = q n := fun n => by rw [← hq]
  obtain ⟨u, hu⟩ : ∃ u, o + ((d : Int) - 1) * sg ss k = u := ⟨_, rfl⟩
  obtain ⟨ps, hps⟩ : ∃ ps, sts ss k d (-1) = ps := ⟨_, rfl⟩
  obtain ⟨zs, hzs⟩ : ∃ zs, ints ds = zs := ⟨_, rfl⟩
  obtain ⟨f, hf⟩ : ∃ f, (d : Int) - 1 = f := ⟨_, rfl⟩
  obtain ⟨N, hN⟩ : ∃ N, ds.length = N := ⟨_, rfl⟩
  obtain ⟨Sz, hSz⟩ : ∃ Sz, pr ds = Sz := ⟨_, rfl⟩
  have hdv : wrap64 ((d : Int) - 1) = f := by rw [hdw, hf]
  unfold vw at *
  simp only [hg, hl] at HAll
  simp only [hI] at HAll HW
  simp only [hq', hu, hps, hzs, hN, hSz] at HPu HAll HSame HD HLen HW HS4 HG HO HLg h4 hk ⊢
  simp only [hf] at HW
  have hkN : (k : Int) < (N : Int) := by omega
  have hk4 : k < 4 := by omega
  have hk4' : (k : Int) < 4 := by omega
  have S := L1.new W w hw 24 (.int .i64 o) (.slice A N C) (.slice A' N C')
  clear hO hS hst hO' hD hZ hd h HP hl2 hks hd1 hdl hdw hg hl hI hq hq' hu hps hzs hf hN hSz h4
  go_enter Try.func7, Try.ntmps7
  go_wp2_with (first
    | (go_at_call 10; (with_reducible refine L1.use HA S fun X2 S hb q0 q1 q2 => ?_))
    | (go_at_call 11; (with_reducible refine L1.use HG S fun X3 S hb q0 q1 q2 => ?_))
    | (go_at_call 12; (with_reducible refine L1.use HO S fun X4 S hb q0 q1 q2 => ?_))
    | (go_at_call 25; refine HPu S.hW fun A1 C1 A2 C2 X5 z1 z2 hb5 => ?_; have S := S.next hb5; obtain ⟨zD, zZ, HR, HS1, HCl, HRc, HAt, HCe, HRv⟩ := HAll.out X5 A1 C1 A2 C2 S.hW z1 z2; have T0 := S.two 28 (.int .i64 u) (.slice A1 N C1) (.slice A2 N C2); have T : L2 X5 w w.heap.size X5.heap.size 24 28 #[.int .i64 o, .slice A N C, .slice A' N C'] #[.int .i64 u, .slice A1 N C1, .slice A2 N C2] _ := ⟨below_alloc _ _, T0.hB, T0.b1, T0.b2⟩; clear T0; obtain ⟨q0, q1, q2, p0, p1, p2⟩ := T.cells)
    | (go_at_call 14; (with_reducible refine L2.use HR T fun X6 T hb q0 q1 q2 p0 p1 p2 => ?_))
    | (go_at_call 15; (with_reducible refine L2.use HS1 T fun X7 T hb q0 q1 q2 p0 p1 p2 => ?_))
    | (go_at_call 16; refine HCl T fun A5 C5 X8 z5 T hb q0 q1 q2 p0 p1 p2 => ?_))
  clear S HPu HAll HR HS1 HCl
  go_loopw [65] (fun v wr => ∃ m : Nat, v = .int .i64 m ∧ m ≤ Sz ∧ ZAt wr A5 C5 l ∧ L2 X5 w w.heap.size X5.heap.size 24 28 #[.int .i64 o, .slice A N C, .slice A' N C'] #[.int .i64 u, .slice A1 N C1, .slice A2 N C2] wr) (fun v _ => Sz - (intOf v).toNat)
  case atStart => exact ⟨0, rfl, by omega, z5, T⟩
  case round =>
    clear z5 T q0 q1 q2 p0 p1 p2 hb
    obtain ⟨m, rfl, hm, z5, T⟩ := hrel
    by_cases hlt : m < Sz
    · obtain ⟨b, r, rfl, hb, c0, _⟩ := z5.get m (g m) (HLg.out m hlt)
      have hmS : (m : Int) < (Sz : Int) := by omega
      have hmw : wrap64 ((m : Int) + 1) = (m : Int) + 1 := wrap_next (by have := HS4.out; omega)
      obtain ⟨hw2, hqj⟩ := HW.out m hlt
      have HAm := HAt m hlt
      have HCm := HCe m hlt
      have Z5 : Hid (ZAt wr (some ⟨b, r, none⟩) C5 l) := z5
      obtain ⟨q0, q1, q2, p0, p1, p2⟩ := T.cells
      obtain ⟨ba, ra, rfl, hba, ca, _⟩ := zD.get k (d : Int) HD.out
      have HQ : Hid (∀ j, j < 4 → q m j = if j = k then q m k else I m j) := hqj
      clear z5 hqj
      go_wp2_with (go_at_call 23; (with_reducible refine L2.use HAm T fun Y1 T hb1 q0 q1 q2 p0 p1 p2 => ?_))
      obtain ⟨I0, hI0⟩ : ∃ I0, Y1.heap.size = I0 := ⟨_, rfl⟩
      have bI : Blk _ _ 46 (cs4 (I m)) := Blk.new Y1 46 (cs4 (I m))
      have T1 := T.next (below_alloc Y1 (.cells (cs4 (I m)) 46))
      have Z6 := (Z5.out.below hb1)
      have Z7 := Z6.below (below_alloc Y1 (.cells (cs4 (I m)) 46))
      have hbI : b ≠ I0 := by have := hb1.size; omega
      have lt1 : w.heap.size < I0 := by rw [← hI0]; exact T.b1.lt
      have lt2 : X5.heap.size < I0 := by rw [← hI0]; exact T.b2.lt
      obtain ⟨V1, hV1⟩ : ∃ V, Y1.alloc (.cells (cs4 (I m)) 46) = V := ⟨_, rfl⟩
      rw [hV1] at bI T1 Z7
      rw [hI0] at bI
      have hV1' : Y1.alloc (.cells #[.int .i64 (I m 0 : Int), .int .i64 (I m 1 : Int), .int .i64 (I m 2 : Int), .int .i64 (I m 3 : Int)] 46) = V1 := hV1
      rw [hV1', hI0]
      clear T q0 q1 q2 p0 p1 p2 hV1 hV1' hb1 Z5
      obtain ⟨q0, q1, q2, p0, p1, p2⟩ := T1.cells
      have ca' := ((bcell T1.hW).1 ba (ra + k) hba).trans ca
      have cI : V1.cell? ⟨I0, k, none⟩ = some (.int .i64 (I m k : Int)) := (bI.cell k).trans (cs4_get _ hk4)
      have fI := bI.frozen k
      obtain ⟨Y2, hY2⟩ : ∃ Y, V1.setCell ⟨I0, k, none⟩ (.int .i64 (q m k : Int)) = Y := ⟨_, rfl⟩
      have bI2 : Blk Y2 I0 46 (cs4 (q m)) := by
        rw [← hY2]
        have := bI.set k (.int .i64 (q m k : Int))
        rw [cs4_set _ hk4] at this
        have e : cs4 (q m) = cs4 (fun j => if j = k then q m k else I m j) := by
          unfold cs4
          rw [HQ.out 0 (by omega), HQ.out 1 (by omega), HQ.out 2 (by omega), HQ.out 3 (by omega)]
        rw [e]; exact this
      have T2 : Hid (L2 X5 w w.heap.size X5.heap.size 24 28 #[.int .i64 o, .slice (some ⟨ba, ra, none⟩) N C, .slice A' N C'] #[.int .i64 u, .slice A1 N C1, .slice A2 N C2] Y2) := by
        unfold Hid
        rw [← hY2]
        exact ⟨T1.hW.setCell (p := ⟨I0, k, none⟩) (Nat.le_of_lt lt2) _, T1.hB.setCell (p := ⟨I0, k, none⟩) (Nat.le_of_lt lt1) _, T1.b1.other (by omega) _ _, T1.b2.other (by omega) _ _⟩
      have Z8 : Hid (ZAt Y2 (some ⟨b, r, none⟩) C5 l) := by
        unfold Hid
        rw [← hY2]
        exact Z7.other (fun g o _ e => by cases e; exact hbI) _ _
      have y0 : Y2.cell? ⟨I0, 0, none⟩ = some (.int .i64 (q m 0 : Int)) := bI2.cell 0
      have y1 : Y2.cell? ⟨I0, 1, none⟩ = some (.int .i64 (q m 1 : Int)) := bI2.cell 1
      have y2 : Y2.cell? ⟨I0, 2, none⟩ = some (.int .i64 (q m 2 : Int)) := bI2.cell 2
      have y3 : Y2.cell? ⟨I0, 3, none⟩ = some (.int .i64 (q m 3 : Int)) := bI2.cell 3
      obtain ⟨t0, t1, t2, _⟩ := T2.out.cells
      have T3 := T2.out.next (below_drewZ Y2)
      clear bI bI2 T1 Z7 HQ Z6
      go_region
      all_goals
        go_wp2_with (go_at_call 24; (with_reducible refine L2.use HCm T3 fun Y4 T4 hb4 q0 q1 q2 p0 p1 p2 => ?_); have Z9 := Z8.out.below (bb (below_drewZ Y2) hb4))
        go_roundw
      all_goals
        first
          | exact ⟨m + 1, by first | rw [hmw, nat_next] | rw [nat_next], hlt, Z9, T4⟩
          | exact sub_next hlt
          | (rw [hmw]; exact sub_next hlt)
    · obtain rfl : m = Sz := by omega
      obtain ⟨q0, q1, q2, p0, p1, p2⟩ := T.cells
      clear z5 HAt HCe
      go_wp2_with (first
        | (go_at_call 25; refine HRv T.hW fun A3 C3 A4 C4 X9 z3 z4 hb9 => ?_; have bU := Blk.new X9 28 #[.int .i64 o, .slice A3 N C3, .slice A4 N C4]; have T := (T.next hb9).next (below_alloc X9 (.cells #[.int .i64 o, .slice A3 N C3, .slice A4 N C4] 28)); have z3 := z3.below (below_alloc X9 (.cells #[.int .i64 o, .slice A3 N C3, .slice A4 N C4] 28)); have z4 := z4.below (below_alloc X9 (.cells #[.int .i64 o, .slice A3 N C3, .slice A4 N C4] 28)); obtain ⟨q0, q1, q2, p0, p1, p2⟩ := T.cells; obtain ⟨u0, u1, u2, _⟩ := bU.three)
        | (go_at_call 17; refine HRc T fun A6 C6 X10 T hb10 q0 q1 q2 p0 p1 p2 => ?_; have bU := bU.below hb10; have z3 := z3.below hb10; have z4 := z4.below hb10; obtain ⟨u0, u1, u2, _⟩ := bU.three; have HSm1 := HSame.out X10 A3 C3 A C zs HLen.out.1 z3 (zD.below T.hW))
        | (go_at_call 15; first
          | ((with_reducible refine AnsB.use HSm2 (Below.refl _ _) fun X12 hb12 => ?_); have T := T.next hb12)
          | ((with_reducible refine AnsB.use HSm1 (Below.refl _ _) fun X11 hb11 => ?_); have T := T.next hb11; obtain ⟨q0, q1, q2, p0, p1, p2⟩ := T.cells; have bU := bU.below hb11; have z4 := z4.below hb11; obtain ⟨u0, u1, u2, _⟩ := bU.three; have HSm2 := HSame.out X11 A4 C4 A' C' ss HLen.out.2 z4 (zZ.below T.hW))))
      go_ret
      exact ⟨rfl, T.hB⟩
/-- ViewTurns. -/
theorem turns_law (W : World) (o : Int) (A : Option Addr) (C : Nat) (A' : Option Addr) (C' : Nat) (zs ss : List Int) (hD : ZAt W A C zs) (hZ : ZAt W A' C' ss) (k : Int) (_ : I64 k) : AnsB W 7 #[vw o A zs.length C A' ss.length C', .int .i64 k] (.bool true) := by
  cases hg : gtB zs.length ss.length with
  | true => exact turns_great W o A _ C A' _ C' k hg
  | false =>
    obtain ⟨e, he⟩ := chk_any o zs ss 4096
    have HR := rcheck_any W o A C A' C' zs ss hD hZ 4096 e he
    by_cases h0 : e = 0
    · subst h0
      obtain ⟨ds, rfl, hO⟩ := he.ok rfl
      by_cases hk : 0 ≤ k ∧ k < ((ints ds).length : Int)
      · obtain ⟨j, rfl⟩ := Int.eq_ofNat_of_zero_le hk.1
        have hj : j < ds.length := by have := hk.2; rw [ints_len] at this; omega
        rw [ints_len] at hg ⊢
        rw [hO.len] at hg ⊢
        exact turns_good W o A C A' C' ds ss hD hZ hO j _ (List.getElem?_eq_getElem hj) hg
      · have hc : caE 0 (ints ds).length k = 10 := by
          unfold caE
          rw [if_pos rfl, if_neg (by simp [axB]; omega)]
        have HP := reverse_err W o A C A' C' (ints ds) ss hD hZ 0 he k (by rw [hc]; omega)
        rw [hc] at HP
        by_cases hk0 : k < 0
        · exact turns_axis1 W o A _ C A' _ C' k hg hk0 HP HR
        · exact turns_axis2 W o A _ C A' _ C' k hg hk0 (by omega) HP HR
    · have hc : caE e zs.length k = e := by unfold caE; rw [if_neg h0]
      have HP := reverse_err W o A C A' C' zs ss hD hZ e he k (by rw [hc]; exact h0)
      rw [hc] at HP
      exact turns_err W o A _ C A' _ C' k hg e h0 HP HR
end Go.Proofs.Ytccknfhhmdoffaa

/-
  The walk of ViewSlices: it answers true, of every view and slice. No condition but that the rows lie there.
-/
import Derived.Test.YtccknfhhmdoffaaVl6
namespace Go.Proofs.Ytccknfhhmdoffaa
set_option linter.unusedVariables false
open Go.RowKit

set_option maxRecDepth 20000 in
set_option maxHeartbeats 1000000 in
theorem slices_great (W : World) (o : Int) (A : Option Addr) (L C : Nat) (A' : Option Addr) (L' C' : Nat) (k f s c : Int) (h : gtB L L' = true) : AnsB W 6 #[vw o A L C A' L' C', .int .i64 k, .int .i64 f, .int .i64 s, .int .i64 c] (.bool true) := by
  intro w hw
  have HA := alive_any W
  have HG := great_any W o A L C A' L' C'
  rw [h] at HG
  clear h
  unfold vw at *
  have S := L1.new W w hw 24 (.int .i64 o) (.slice A L C) (.slice A' L' C')
  go_enter Try.func6, Try.ntmps6
  go_wp2_with (first
    | (go_at_call 10; (with_reducible refine L1.use HA S fun X2 S hb q0 q1 q2 => ?_))
    | (go_at_call 11; (with_reducible refine L1.use HG S fun X3 S hb q0 q1 q2 => ?_)))
  go_ret
  exact ⟨rfl, S.hB⟩
set_option maxRecDepth 20000 in
set_option maxHeartbeats 1000000 in
theorem slices_err (W : World) (o : Int) (A : Option Addr) (L C : Nat) (A' : Option Addr) (L' C' : Nat) (k f s c : Int) (h : gtB L L' = false) (e : Int) (he : e ≠ 0) (HP : AnsB W 22 #[vw o A L C A' L' C', .int .i64 k, .int .i64 f, .int .i64 s, .int .i64 c] (.tuple #[vw0, .int .i64 e])) (HR : AnsB W 14 #[vw o A L C A' L' C', .int .i64 4096] (.int .i64 e)) : AnsB W 6 #[vw o A L C A' L' C', .int .i64 k, .int .i64 f, .int .i64 s, .int .i64 c] (.bool true) := by
  intro w hw
  have HA := alive_any W
  have HG := great_any W o A L C A' L' C'
  have HO := of_any W o A L C A' L' C'
  have HE := empty_any W
  rw [h] at HG
  unfold vw vw0 at *
  have S := L1.new W w hw 24 (.int .i64 o) (.slice A L C) (.slice A' L' C')
  clear h
  go_enter Try.func6, Try.ntmps6
  go_wp2_with (first
    | (go_at_call 10; (with_reducible refine L1.use HA S fun X2 S hb q0 q1 q2 => ?_))
    | (go_at_call 11; (with_reducible refine L1.use HG S fun X3 S hb q0 q1 q2 => ?_))
    | (go_at_call 12; (with_reducible refine L1.use HO S fun X4 S hb q0 q1 q2 => ?_))
    | (go_at_call 22; (with_reducible refine L1.use HP S fun X5 S hb q0 q1 q2 => ?_); have T := S.two 28 (.int .i64 0) (.slice none 0 0) (.slice none 0 0); obtain ⟨q0, q1, q2, p0, p1, p2⟩ := T.cells)
    | (go_at_call 14; (with_reducible refine L2.use HR T fun X6 T hb q0 q1 q2 p0 p1 p2 => ?_))
    | (go_at_call 20; (with_reducible refine L2.use HE T fun X7 T hb q0 q1 q2 p0 p1 p2 => ?_)))
  go_ret
  exact ⟨rfl, T.hB⟩
set_option maxRecDepth 20000 in
set_option maxHeartbeats 1000000 in
theorem slices_axis1 (W : World) (o : Int) (A : Option Addr) (L C : Nat) (A' : Option Addr) (L' C' : Nat) (k f s c : Int) (h : gtB L L' = false) (hk : k < 0) (HP : AnsB W 22 #[vw o A L C A' L' C', .int .i64 k, .int .i64 f, .int .i64 s, .int .i64 c] (.tuple #[vw0, .int .i64 10])) (HR : AnsB W 14 #[vw o A L C A' L' C', .int .i64 4096] (.int .i64 0)) : AnsB W 6 #[vw o A L C A' L' C', .int .i64 k, .int .i64 f, .int .i64 s, .int .i64 c] (.bool true) := by
  intro w hw
  have HA := alive_any W
  have HG := great_any W o A L C A' L' C'
  have HO := of_any W o A L C A' L' C'
  have HE := empty_any W
  rw [h] at HG
  unfold vw vw0 at *
  have S := L1.new W w hw 24 (.int .i64 o) (.slice A L C) (.slice A' L' C')
  clear h
  go_enter Try.func6, Try.ntmps6
  go_wp2_with (first
    | (go_at_call 10; (with_reducible refine L1.use HA S fun X2 S hb q0 q1 q2 => ?_))
    | (go_at_call 11; (with_reducible refine L1.use HG S fun X3 S hb q0 q1 q2 => ?_))
    | (go_at_call 12; (with_reducible refine L1.use HO S fun X4 S hb q0 q1 q2 => ?_))
    | (go_at_call 22; (with_reducible refine L1.use HP S fun X5 S hb q0 q1 q2 => ?_); have T := S.two 28 (.int .i64 0) (.slice none 0 0) (.slice none 0 0); obtain ⟨q0, q1, q2, p0, p1, p2⟩ := T.cells)
    | (go_at_call 14; (with_reducible refine L2.use HR T fun X6 T hb q0 q1 q2 p0 p1 p2 => ?_))
    | (go_at_call 20; (with_reducible refine L2.use HE T fun X7 T hb q0 q1 q2 p0 p1 p2 => ?_)))
  go_ret
  exact ⟨rfl, T.hB⟩
set_option maxRecDepth 20000 in
set_option maxHeartbeats 1000000 in
theorem slices_axis2 (W : World) (o : Int) (A : Option Addr) (L C : Nat) (A' : Option Addr) (L' C' : Nat) (k f s c : Int) (h : gtB L L' = false) (hk0 : ¬ k < 0) (hk : (L : Int) ≤ k) (HP : AnsB W 22 #[vw o A L C A' L' C', .int .i64 k, .int .i64 f, .int .i64 s, .int .i64 c] (.tuple #[vw0, .int .i64 10])) (HR : AnsB W 14 #[vw o A L C A' L' C', .int .i64 4096] (.int .i64 0)) : AnsB W 6 #[vw o A L C A' L' C', .int .i64 k, .int .i64 f, .int .i64 s, .int .i64 c] (.bool true) := by
  intro w hw
  have HA := alive_any W
  have HG := great_any W o A L C A' L' C'
  have HO := of_any W o A L C A' L' C'
  have HE := empty_any W
  rw [h] at HG
  unfold vw vw0 at *
  have S := L1.new W w hw 24 (.int .i64 o) (.slice A L C) (.slice A' L' C')
  clear h
  go_enter Try.func6, Try.ntmps6
  go_wp2_with (first
    | (go_at_call 10; (with_reducible refine L1.use HA S fun X2 S hb q0 q1 q2 => ?_))
    | (go_at_call 11; (with_reducible refine L1.use HG S fun X3 S hb q0 q1 q2 => ?_))
    | (go_at_call 12; (with_reducible refine L1.use HO S fun X4 S hb q0 q1 q2 => ?_))
    | (go_at_call 22; (with_reducible refine L1.use HP S fun X5 S hb q0 q1 q2 => ?_); have T := S.two 28 (.int .i64 0) (.slice none 0 0) (.slice none 0 0); obtain ⟨q0, q1, q2, p0, p1, p2⟩ := T.cells)
    | (go_at_call 14; (with_reducible refine L2.use HR T fun X6 T hb q0 q1 q2 p0 p1 p2 => ?_))
    | (go_at_call 20; (with_reducible refine L2.use HE T fun X7 T hb q0 q1 q2 p0 p1 p2 => ?_)))
  go_ret
  exact ⟨rfl, T.hB⟩
set_option maxRecDepth 20000 in
set_option maxHeartbeats 4000000 in
theorem slices_bad (W : World) (o : Int) (A : Option Addr) (C : Nat) (A' : Option Addr) (C' : Nat) (ds : List Nat) (ss : List Int) (hD : ZAt W A C (ints ds)) (hZ : ZAt W A' C' ss) (hO : Ok o ds ss) (k d : Nat) (hd : ds[k]? = some d) (h : gtB ds.length ds.length = false) (f s c : Int) (hn : ¬ Fit d f s c) :
    AnsB W 6 #[vw o A ds.length C A' ds.length C', .int .i64 (k : Int), .int .i64 f, .int .i64 s, .int .i64 c] (.bool true) := by
  intro w hw
  have hS := hO.shp
  have hk : k < ds.length := (List.getElem?_eq_some_iff.1 hd).1
  have hd1 : 1 ≤ d := hS.pos d (List.mem_of_getElem? hd)
  have hdl := ln_le hS hd
  have HA := alive_any W
  have HG := great_any W o A ds.length C A' ds.length C'
  have HO := of_any W o A ds.length C A' ds.length C'
  have HE := empty_any W
  rw [h] at HG
  have HP := slice_range W o A C A' C' ds ss hD hZ hO k d hd f s c hn
  have HR := rcheck_any W o A C A' C' (ints ds) ss hD hZ 4096 0 hO.chk
  rw [ints_len, hO.len] at HR
  obtain ⟨ba, ra, rfl, hba, ca⟩ := hD.nat hd
  unfold vw vw0 at *
  generalize ds.length = N at *
  have hkN : (k : Int) < (N : Int) := by omega
  have S := L1.new W w hw 24 (.int .i64 o) (.slice (some ⟨ba, ra, none⟩) N C) (.slice A' N C')
  have hneg : wrap64 (-(d : Int)) = -(d : Int) := wrap_mid (by omega) (by omega)
  clear hO hS hD hZ hd h
  by_cases h3 : 1 ≤ c
  case neg =>
    clear hn hdl hd1
    go_enter Try.func6, Try.ntmps6
    go_wp2_with (first
      | (go_at_call 10; (with_reducible refine L1.use HA S fun X2 S hb q0 q1 q2 => ?_))
      | (go_at_call 11; (with_reducible refine L1.use HG S fun X3 S hb q0 q1 q2 => ?_))
      | (go_at_call 12; (with_reducible refine L1.use HO S fun X4 S hb q0 q1 q2 => ?_))
      | (go_at_call 22; (with_reducible refine L1.use HP S fun X5 S hb q0 q1 q2 => ?_); have T := S.two 28 (.int .i64 0) (.slice none 0 0) (.slice none 0 0); obtain ⟨q0, q1, q2, p0, p1, p2⟩ := T.cells)
      | (go_at_call 14; (with_reducible refine L2.use HR T fun X6 T hb q0 q1 q2 p0 p1 p2 => ?_); have c1 := ((bcell T.hW).1 ba (ra + k) hba).trans ca)
      | (go_at_call 20; (with_reducible refine L2.use HE T fun X7 T hb q0 q1 q2 p0 p1 p2 => ?_)))
    go_ret
    exact ⟨rfl, T.hB⟩
  by_cases h4 : c ≤ (d : Int)
  case neg =>
    clear hn hdl hd1
    go_enter Try.func6, Try.ntmps6
    go_wp2_with (first
      | (go_at_call 10; (with_reducible refine L1.use HA S fun X2 S hb q0 q1 q2 => ?_))
      | (go_at_call 11; (with_reducible refine L1.use HG S fun X3 S hb q0 q1 q2 => ?_))
      | (go_at_call 12; (with_reducible refine L1.use HO S fun X4 S hb q0 q1 q2 => ?_))
      | (go_at_call 22; (with_reducible refine L1.use HP S fun X5 S hb q0 q1 q2 => ?_); have T := S.two 28 (.int .i64 0) (.slice none 0 0) (.slice none 0 0); obtain ⟨q0, q1, q2, p0, p1, p2⟩ := T.cells)
      | (go_at_call 14; (with_reducible refine L2.use HR T fun X6 T hb q0 q1 q2 p0 p1 p2 => ?_); have c1 := ((bcell T.hW).1 ba (ra + k) hba).trans ca)
      | (go_at_call 20; (with_reducible refine L2.use HE T fun X7 T hb q0 q1 q2 p0 p1 p2 => ?_)))
    go_ret
    exact ⟨rfl, T.hB⟩
  by_cases h1 : 0 ≤ f
  case neg =>
    clear hn hdl hd1
    go_enter Try.func6, Try.ntmps6
    go_wp2_with (first
      | (go_at_call 10; (with_reducible refine L1.use HA S fun X2 S hb q0 q1 q2 => ?_))
      | (go_at_call 11; (with_reducible refine L1.use HG S fun X3 S hb q0 q1 q2 => ?_))
      | (go_at_call 12; (with_reducible refine L1.use HO S fun X4 S hb q0 q1 q2 => ?_))
      | (go_at_call 22; (with_reducible refine L1.use HP S fun X5 S hb q0 q1 q2 => ?_); have T := S.two 28 (.int .i64 0) (.slice none 0 0) (.slice none 0 0); obtain ⟨q0, q1, q2, p0, p1, p2⟩ := T.cells)
      | (go_at_call 14; (with_reducible refine L2.use HR T fun X6 T hb q0 q1 q2 p0 p1 p2 => ?_); have c1 := ((bcell T.hW).1 ba (ra + k) hba).trans ca)
      | (go_at_call 20; (with_reducible refine L2.use HE T fun X7 T hb q0 q1 q2 p0 p1 p2 => ?_)))
    go_ret
    exact ⟨rfl, T.hB⟩
  by_cases h2 : f < (d : Int)
  case neg =>
    have h2' : decide (f < (d : Int)) = false := decide_eq_false h2
    clear hn hdl hd1
    go_enter Try.func6, Try.ntmps6
    go_wp2_with (first
      | (go_at_call 10; (with_reducible refine L1.use HA S fun X2 S hb q0 q1 q2 => ?_))
      | (go_at_call 11; (with_reducible refine L1.use HG S fun X3 S hb q0 q1 q2 => ?_))
      | (go_at_call 12; (with_reducible refine L1.use HO S fun X4 S hb q0 q1 q2 => ?_))
      | (go_at_call 22; (with_reducible refine L1.use HP S fun X5 S hb q0 q1 q2 => ?_); have T := S.two 28 (.int .i64 0) (.slice none 0 0) (.slice none 0 0); obtain ⟨q0, q1, q2, p0, p1, p2⟩ := T.cells)
      | (go_at_call 14; (with_reducible refine L2.use HR T fun X6 T hb q0 q1 q2 p0 p1 p2 => ?_); have c1 := ((bcell T.hW).1 ba (ra + k) hba).trans ca)
      | (go_at_call 20; (with_reducible refine L2.use HE T fun X7 T hb q0 q1 q2 p0 p1 p2 => ?_)))
    go_ret
    exact ⟨rfl, T.hB⟩
  by_cases hc : 1 < c
  case neg => exact absurd ⟨h1, h2, h3, h4, fun e => absurd e (by omega)⟩ hn
  by_cases h5 : s = 0
  · subst h5
    clear hn hdl hd1
    go_enter Try.func6, Try.ntmps6
    go_wp2_with (first
      | (go_at_call 10; (with_reducible refine L1.use HA S fun X2 S hb q0 q1 q2 => ?_))
      | (go_at_call 11; (with_reducible refine L1.use HG S fun X3 S hb q0 q1 q2 => ?_))
      | (go_at_call 12; (with_reducible refine L1.use HO S fun X4 S hb q0 q1 q2 => ?_))
      | (go_at_call 22; (with_reducible refine L1.use HP S fun X5 S hb q0 q1 q2 => ?_); have T := S.two 28 (.int .i64 0) (.slice none 0 0) (.slice none 0 0); obtain ⟨q0, q1, q2, p0, p1, p2⟩ := T.cells)
      | (go_at_call 14; (with_reducible refine L2.use HR T fun X6 T hb q0 q1 q2 p0 p1 p2 => ?_); have c1 := ((bcell T.hW).1 ba (ra + k) hba).trans ca)
      | (go_at_call 20; (with_reducible refine L2.use HE T fun X7 T hb q0 q1 q2 p0 p1 p2 => ?_)))
    go_ret
    exact ⟨rfl, T.hB⟩
  have h5' : (s != 0) = true := by simp [h5]
  by_cases h6 : -(d : Int) < s
  case neg =>
    clear hn hdl hd1
    go_enter Try.func6, Try.ntmps6
    go_wp2_with (first
      | (go_at_call 10; (with_reducible refine L1.use HA S fun X2 S hb q0 q1 q2 => ?_))
      | (go_at_call 11; (with_reducible refine L1.use HG S fun X3 S hb q0 q1 q2 => ?_))
      | (go_at_call 12; (with_reducible refine L1.use HO S fun X4 S hb q0 q1 q2 => ?_))
      | (go_at_call 22; (with_reducible refine L1.use HP S fun X5 S hb q0 q1 q2 => ?_); have T := S.two 28 (.int .i64 0) (.slice none 0 0) (.slice none 0 0); obtain ⟨q0, q1, q2, p0, p1, p2⟩ := T.cells)
      | (go_at_call 14; (with_reducible refine L2.use HR T fun X6 T hb q0 q1 q2 p0 p1 p2 => ?_); have c1 := ((bcell T.hW).1 ba (ra + k) hba).trans ca)
      | (go_at_call 20; (with_reducible refine L2.use HE T fun X7 T hb q0 q1 q2 p0 p1 p2 => ?_)))
    go_ret
    exact ⟨rfl, T.hB⟩
  by_cases h7 : s < (d : Int)
  case neg =>
    have h7' : decide (s < (d : Int)) = false := decide_eq_false h7
    clear hn hdl hd1
    go_enter Try.func6, Try.ntmps6
    go_wp2_with (first
      | (go_at_call 10; (with_reducible refine L1.use HA S fun X2 S hb q0 q1 q2 => ?_))
      | (go_at_call 11; (with_reducible refine L1.use HG S fun X3 S hb q0 q1 q2 => ?_))
      | (go_at_call 12; (with_reducible refine L1.use HO S fun X4 S hb q0 q1 q2 => ?_))
      | (go_at_call 22; (with_reducible refine L1.use HP S fun X5 S hb q0 q1 q2 => ?_); have T := S.two 28 (.int .i64 0) (.slice none 0 0) (.slice none 0 0); obtain ⟨q0, q1, q2, p0, p1, p2⟩ := T.cells)
      | (go_at_call 14; (with_reducible refine L2.use HR T fun X6 T hb q0 q1 q2 p0 p1 p2 => ?_); have c1 := ((bcell T.hW).1 ba (ra + k) hba).trans ca)
      | (go_at_call 20; (with_reducible refine L2.use HE T fun X7 T hb q0 q1 q2 p0 p1 p2 => ?_)))
    go_ret
    exact ⟨rfl, T.hB⟩
  have hm := mul_small (n := 4096) (a := c - 1) (b := s) (by omega) (by omega) (by omega)
  have hq0 : ¬ (0 ≤ f + (c - 1) * s ∧ f + (c - 1) * s < d) := fun e => hn ⟨h1, h2, h3, h4, fun _ => ⟨h5, h6, h7, e.1, e.2⟩⟩
  obtain ⟨a, ha⟩ : ∃ a, c - 1 = a := ⟨_, rfl⟩
  have e1 : wrap64 (c - 1) = a := by rw [← ha]; exact wrap_mid (by omega) (by omega)
  rw [ha] at hm hq0
  obtain ⟨p, hp⟩ : ∃ p, a * s = p := ⟨_, rfl⟩
  rw [hp] at hm hq0
  have e2 : wrap64 (a * s) = p := by rw [hp]; exact wrap_mid (by omega) (by omega)
  obtain ⟨q, hq⟩ : ∃ q, f + p = q := ⟨_, rfl⟩
  have e3 : wrap64 (f + p) = q := by rw [← hq]; exact wrap_mid (by omega) (by omega)
  rw [hq] at hq0
  by_cases l0 : 0 ≤ q
  · have l1 : ¬ q < (d : Int) := fun e => hq0 ⟨l0, e⟩
    have l1' : decide (q < (d : Int)) = false := decide_eq_false l1
    clear hm hq0 hn hdl hd1 ha hp hq
    go_enter Try.func6, Try.ntmps6
    go_wp2_with (first
      | (go_at_call 10; (with_reducible refine L1.use HA S fun X2 S hb q0 q1 q2 => ?_))
      | (go_at_call 11; (with_reducible refine L1.use HG S fun X3 S hb q0 q1 q2 => ?_))
      | (go_at_call 12; (with_reducible refine L1.use HO S fun X4 S hb q0 q1 q2 => ?_))
      | (go_at_call 22; (with_reducible refine L1.use HP S fun X5 S hb q0 q1 q2 => ?_); have T := S.two 28 (.int .i64 0) (.slice none 0 0) (.slice none 0 0); obtain ⟨q0, q1, q2, p0, p1, p2⟩ := T.cells)
      | (go_at_call 14; (with_reducible refine L2.use HR T fun X6 T hb q0 q1 q2 p0 p1 p2 => ?_); have c1 := ((bcell T.hW).1 ba (ra + k) hba).trans ca)
      | (go_at_call 20; (with_reducible refine L2.use HE T fun X7 T hb q0 q1 q2 p0 p1 p2 => ?_)))
    go_ret
    exact ⟨rfl, T.hB⟩
  · clear hm hq0 hn hdl hd1 ha hp hq
    go_enter Try.func6, Try.ntmps6
    go_wp2_with (first
      | (go_at_call 10; (with_reducible refine L1.use HA S fun X2 S hb q0 q1 q2 => ?_))
      | (go_at_call 11; (with_reducible refine L1.use HG S fun X3 S hb q0 q1 q2 => ?_))
      | (go_at_call 12; (with_reducible refine L1.use HO S fun X4 S hb q0 q1 q2 => ?_))
      | (go_at_call 22; (with_reducible refine L1.use HP S fun X5 S hb q0 q1 q2 => ?_); have T := S.two 28 (.int .i64 0) (.slice none 0 0) (.slice none 0 0); obtain ⟨q0, q1, q2, p0, p1, p2⟩ := T.cells)
      | (go_at_call 14; (with_reducible refine L2.use HR T fun X6 T hb q0 q1 q2 p0 p1 p2 => ?_); have c1 := ((bcell T.hW).1 ba (ra + k) hba).trans ca)
      | (go_at_call 20; (with_reducible refine L2.use HE T fun X7 T hb q0 q1 q2 p0 p1 p2 => ?_)))
    go_ret
    exact ⟨rfl, T.hB⟩
end Go.Proofs.Ytccknfhhmdoffaa

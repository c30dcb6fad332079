/-
  What shape.At answers. No condition but that the row lies there.
-/
import Derived.Test.YtfiblemandpfeaaSh8
namespace Go.Proofs.Ytfiblemandpfeaa
set_option linter.unusedVariables false
open Go.RowKit Go.Shelf

theorem indexOf_any (W : World) (A : Option Addr) (C : Nat) (ds : List Nat) (hS : Shp ds) (hZ : ZAt W A C (ints ds)) (n : Nat) (hn : n < pr ds) : AnsB W 20 #[.slice A ds.length C, .int .i64 (n : Int)] (ixV fun j => (ix ds n j : Int)) :=
  fun w hw => callsIn_wide.1 (indexOf_in 3 (by omega) W A C ds hS hZ n hn w hw)

set_option maxHeartbeats 2000000 in
theorem at_yes (W : World) (A : Option Addr) (C : Nat) (ds : List Nat) (hS : Shp ds) (hZ : ZAt W A C (ints ds)) (n : Nat) (hn : n < pr ds) :
    AnsB W 13 #[.slice A ds.length C, .int .i64 (n : Int)] (.tuple #[ixV fun j => (ix ds n j : Int), .bool true]) := by
  intro w hw
  have HS := size_any W A C (ints ds) hZ
  have HI := indexOf_any W A C ds hS hZ n hn
  rw [ints_len, errV_shape hS, sizeV_shape hS] at HS
  have hb0 := Blk.new w 33 #[.int .i64 0, .int .i64 0, .int .i64 0, .int .i64 0]
  have hBV := below_alloc w (.cells #[.int .i64 0, .int .i64 0, .int .i64 0, .int .i64 0] 33)
  have hWV := hw.trans (hBV.mono hw.size)
  have hn1 : ¬ (n : Int) < 0 := by omega
  have hn2 : ¬ (pr ds : Int) ≤ (n : Int) := by omega
  generalize ds.length = L at *
  generalize pr ds = P at *
  clear hZ hS hn
  unfold ixV at *
  go_enter Try.func13, Try.ntmps13
  go_wp2_with (first
    | (go_at_call 8; with_reducible refine AnsQ.use HS hWV ?_)
    | (go_at_call 20; with_reducible refine AnsB.use HI hWV fun w2 hb2 => ?_; have d := hb0.below hb2; have e0 := d.cell 0; have e1 := d.cell 1; have e2 := d.cell 2; have e3 := d.cell 3; have f0 := d.frozen 0; have f1 := d.frozen 1; have f2 := d.frozen 2; have f3 := d.frozen 3; simp at e0 e1 e2 e3))
  exact bodyPost_ret (v := .tuple #[.agg #[.int .i64 (ix ds n 0 : Int), .int .i64 (ix ds n 1 : Int), .int .i64 (ix ds n 2 : Int), .int .i64 (ix ds n 3 : Int)], .bool true]) (by simp [results, Try.results13, go_sem, e0, e1, e2, e3]) rfl ⟨rfl, (by repeat' (first | with_reducible exact bb hBV hb2 | with_reducible refine Below.setCell ?_ ?_ _ | exact Nat.le_refl _))⟩

theorem at_no (W : World) (A : Option Addr) (C : Nat) (zs : List Int) (hZ : ZAt W A C zs) (z : Int) (h : ¬ (0 ≤ z ∧ z < sizeV zs)) :
    AnsB W 13 #[.slice A zs.length C, .int .i64 z] (.tuple #[ixV fun _ => 0, .bool false]) := by
  intro w hw
  have HS := size_any W A C zs hZ
  have hBV := below_alloc w (.cells #[.int .i64 0, .int .i64 0, .int .i64 0, .int .i64 0] 33)
  have hWV := hw.trans (hBV.mono hw.size)
  generalize zs.length = L at *
  generalize sizeV zs = P at *
  generalize errV zs = E at *
  clear hZ
  unfold ixV
  by_cases hz : z < 0
  · go_enter Try.func13, Try.ntmps13
    go_wp2_with (go_at_call 8; with_reducible refine AnsQ.use HS hWV ?_)
    exact bodyPost_ret (v := .tuple #[.agg #[.int .i64 0, .int .i64 0, .int .i64 0, .int .i64 0], .bool false]) (by simp [results, Try.results13, go_sem]) rfl ⟨rfl, hBV⟩
  · have hz2 : P ≤ z := by omega
    go_enter Try.func13, Try.ntmps13
    go_wp2_with (go_at_call 8; with_reducible refine AnsQ.use HS hWV ?_)
    exact bodyPost_ret (v := .tuple #[.agg #[.int .i64 0, .int .i64 0, .int .i64 0, .int .i64 0], .bool false]) (by simp [results, Try.results13, go_sem]) rfl ⟨rfl, hBV⟩
end Go.Proofs.Ytfiblemandpfeaa

/-
  The contract of the document's Right.
-/
import Derived.Test.YtpjfapibjihbbaaGreatDoorF22
namespace Go.Proofs.YtpjfapibjihbbaaGreatDoor
set_option linter.unusedVariables false
open Go.RowKit


set_option maxRecDepth 20000 in
set_option maxHeartbeats 4000000 in
theorem rr_few (W : World) (b o i L C : Nat) (p g q r : Int) (A' : Option Addr) (fl C' : Nat) (j : Nat) (c4 c5 : Bool) (Hd : Head W b o i p q r false false false c4 c5)
    (hi : (i : Int) < L) (hL : (L : Int) ≤ 9223372036854775807) (hb : b < W.heap.size) (hj : c4 = true → (i : Int) - 1 = j ∧ (j : Int) < L ∧ W.cell? ⟨b, o + j * 3, none⟩ = some (.int .u64 q))
    (d0 : W.cell? ⟨b, o + i * 3, none⟩ = some (.int .u64 p)) (d1 : W.cell? ⟨b, o + i * 3 + 1, none⟩ = some (.int .u64 g)) (d2 : W.cell? ⟨b, o + i * 3 + 2, none⟩ = some (.slice A' fl C'))
    (h : c4 = false ∨ (c4 = true ∧ c5 = false))
    (hf : (fl : Int) < 1) :
    AnsB W 52 #[.slice (some ⟨b, o, none⟩) L C, .int .i64 (i : Int)] (.bool false) := by
  intro w hw
  obtain ⟨p0, p1, r1, r2, r3, e1, e2, e3, e4, e5⟩ := Hd
  have d0' := keep_cell hw hb d0
  have d1' := keep_cell hw hb d1
  have d2' := keep_cell hw hb d2
  obtain ⟨t0, t1, t2⟩ := three_cells w (.int .u64 p) (.int .u64 g) (.slice A' fl C') 71
  obtain ⟨V, hV⟩ : ∃ V, w.alloc (.cells #[.int .u64 p, .int .u64 g, .slice A' fl C'] 71) = V := ⟨_, rfl⟩
  have hVs : w.heap.size < V.heap.size := by rw [← hV]; simp
  have hBV : Below w.heap.size w V := hV ▸ below_alloc _ _
  rw [hV] at t0 t1 t2
  have hqc : c4 = true → V.cell? ⟨b, o + j * 3, none⟩ = some (.int .u64 q) := fun h4 => keep_cell (bb hw hBV) hb (hj h4).2.2
  clear d0 d1 d2
  rcases h with rfl | ⟨rfl, rfl⟩
  · clear hj hqc e5
    go_enter Tryz.func52, Tryz.ntmps52
    go_wp2
    go_quiet ((fail))
    go_wp2
    go_ret
    exact ⟨rfl, bb hBV (below_drewN _ _)⟩
  · obtain ⟨j1, j2, _⟩ := hj rfl
    have hq' := hqc rfl
    clear hj hqc
    go_enter Tryz.func52, Tryz.ntmps52
    go_wp2
    go_quiet ((fail))
    go_wp2
    go_ret
    exact ⟨rfl, bb hBV (below_drewN _ _)⟩

set_option maxRecDepth 20000 in
set_option maxHeartbeats 4000000 in
theorem rr_many (W : World) (b o i L C : Nat) (p g q r : Int) (A' : Option Addr) (fl C' : Nat) (j : Nat) (c4 c5 : Bool) (Hd : Head W b o i p q r false false false c4 c5)
    (hi : (i : Int) < L) (hL : (L : Int) ≤ 9223372036854775807) (hb : b < W.heap.size) (hj : c4 = true → (i : Int) - 1 = j ∧ (j : Int) < L ∧ W.cell? ⟨b, o + j * 3, none⟩ = some (.int .u64 q))
    (d0 : W.cell? ⟨b, o + i * 3, none⟩ = some (.int .u64 p)) (d1 : W.cell? ⟨b, o + i * 3 + 1, none⟩ = some (.int .u64 g)) (d2 : W.cell? ⟨b, o + i * 3 + 2, none⟩ = some (.slice A' fl C'))
    (h : c4 = false ∨ (c4 = true ∧ c5 = false))
    (hf1 : 1 ≤ (fl : Int)) (hf : 16 < (fl : Int)) :
    AnsB W 52 #[.slice (some ⟨b, o, none⟩) L C, .int .i64 (i : Int)] (.bool false) := by
  intro w hw
  obtain ⟨p0, p1, r1, r2, r3, e1, e2, e3, e4, e5⟩ := Hd
  have d0' := keep_cell hw hb d0
  have d1' := keep_cell hw hb d1
  have d2' := keep_cell hw hb d2
  obtain ⟨t0, t1, t2⟩ := three_cells w (.int .u64 p) (.int .u64 g) (.slice A' fl C') 71
  obtain ⟨V, hV⟩ : ∃ V, w.alloc (.cells #[.int .u64 p, .int .u64 g, .slice A' fl C'] 71) = V := ⟨_, rfl⟩
  have hVs : w.heap.size < V.heap.size := by rw [← hV]; simp
  have hBV : Below w.heap.size w V := hV ▸ below_alloc _ _
  rw [hV] at t0 t1 t2
  have hqc : c4 = true → V.cell? ⟨b, o + j * 3, none⟩ = some (.int .u64 q) := fun h4 => keep_cell (bb hw hBV) hb (hj h4).2.2
  clear d0 d1 d2
  rcases h with rfl | ⟨rfl, rfl⟩
  · clear hj hqc e5
    go_enter Tryz.func52, Tryz.ntmps52
    go_wp2
    go_quiet ((fail))
    go_wp2
    go_ret
    exact ⟨rfl, bb hBV (below_drewN _ _)⟩
  · obtain ⟨j1, j2, _⟩ := hj rfl
    have hq' := hqc rfl
    clear hj hqc
    go_enter Tryz.func52, Tryz.ntmps52
    go_wp2
    go_quiet ((fail))
    go_wp2
    go_ret
    exact ⟨rfl, bb hBV (below_drewN _ _)⟩

set_option maxRecDepth 20000 in
set_option maxHeartbeats 4000000 in
theorem rr_first (W : World) (b o i L C : Nat) (p g q r : Int) (fb fo fl C' : Nat) (j : Nat) (c4 c5 : Bool) (Hd : Head W b o i p q r false false false c4 c5)
    (hi : (i : Int) < L) (hL : (L : Int) ≤ 9223372036854775807) (hb : b < W.heap.size) (hj : c4 = true → (i : Int) - 1 = j ∧ (j : Int) < L ∧ W.cell? ⟨b, o + j * 3, none⟩ = some (.int .u64 q))
    (d0 : W.cell? ⟨b, o + i * 3, none⟩ = some (.int .u64 p)) (d1 : W.cell? ⟨b, o + i * 3 + 1, none⟩ = some (.int .u64 g)) (d2 : W.cell? ⟨b, o + i * 3 + 2, none⟩ = some (.slice (some ⟨fb, fo, none⟩) fl C'))
    (h : c4 = false ∨ (c4 = true ∧ c5 = false))
    (hf1 : 1 ≤ (fl : Int)) (hf : (fl : Int) ≤ 16) (hfb : fb < W.heap.size) (y : Int) (hy : W.cell? ⟨fb, fo, none⟩ = some (.int .u64 y)) (hy2 : (y != 2) = true) :
    AnsB W 52 #[.slice (some ⟨b, o, none⟩) L C, .int .i64 (i : Int)] (.bool false) := by
  intro w hw
  obtain ⟨p0, p1, r1, r2, r3, e1, e2, e3, e4, e5⟩ := Hd
  have d0' := keep_cell hw hb d0
  have d1' := keep_cell hw hb d1
  have d2' := keep_cell hw hb d2
  obtain ⟨t0, t1, t2⟩ := three_cells w (.int .u64 p) (.int .u64 g) (.slice (some ⟨fb, fo, none⟩) fl C') 71
  obtain ⟨V, hV⟩ : ∃ V, w.alloc (.cells #[.int .u64 p, .int .u64 g, .slice (some ⟨fb, fo, none⟩) fl C'] 71) = V := ⟨_, rfl⟩
  have hVs : w.heap.size < V.heap.size := by rw [← hV]; simp
  have hBV : Below w.heap.size w V := hV ▸ below_alloc _ _
  rw [hV] at t0 t1 t2
  have hqc : c4 = true → V.cell? ⟨b, o + j * 3, none⟩ = some (.int .u64 q) := fun h4 => keep_cell (bb hw hBV) hb (hj h4).2.2
  have hy' := keep_cell (bb hw hBV) hfb hy
  clear hy
  clear d0 d1 d2
  rcases h with rfl | ⟨rfl, rfl⟩
  · clear hj hqc e5
    go_enter Tryz.func52, Tryz.ntmps52
    go_wp2
    go_quiet ((fail))
    go_wp2
    go_ret
    exact ⟨rfl, bb hBV (below_drewN _ _)⟩
  · obtain ⟨j1, j2, _⟩ := hj rfl
    have hq' := hqc rfl
    clear hj hqc
    go_enter Tryz.func52, Tryz.ntmps52
    go_wp2
    go_quiet ((fail))
    go_wp2
    go_ret
    exact ⟨rfl, bb hBV (below_drewN _ _)⟩
end Go.Proofs.YtpjfapibjihbbaaGreatDoor

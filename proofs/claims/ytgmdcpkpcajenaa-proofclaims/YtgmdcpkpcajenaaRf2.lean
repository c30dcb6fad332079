/-
  The contract of the document's Right.
-/
import Derived.Test.YtgmdcpkpcajenaaRf1
import Derived.Test.YtgmdcpkpcajenaaDocP
namespace Go.Proofs.Ytgmdcpkpcajenaa
set_option linter.unusedVariables false
open Go.RowKit

/-- What the first test asks of an entry, and of the one ahead: as the walk reads it. -/
structure Head (W : World) (b o i : Nat) (p q r : Int) (c1 c2 c3 c4 c5 : Bool) : Prop where
  p0 : 0 ≤ p
  p1 : p < 18446744073709551616
  r1 : p % 2 = r
  r2 : Int.tmod p 2 = r
  r3 : IntKind.u64.wrap r = r
  e1 : (r == 0) = c1
  e2 : decide (p < 3) = c2
  e3 : decide (9223372036854775807 < p) = c3
  e4 : decide (0 < i) = c4
  e5 : decide (p ≤ q) = c5

set_option maxHeartbeats 1000000 in
set_option maxRecDepth 20000 in
theorem rr_head_bad (W : World) (b o i L C : Nat) (p g q r : Int) (A' : Option Addr) (fl C' : Nat) (j : Nat) (c1 c2 c3 c4 c5 : Bool) (Hd : Head W b o i p q r c1 c2 c3 c4 c5)
    (hi : (i : Int) < L) (hL : (L : Int) ≤ 9223372036854775807) (hb : b < W.heap.size) (hj : c4 = true → (i : Int) - 1 = j ∧ (j : Int) < L ∧ W.cell? ⟨b, o + j * 3, none⟩ = some (.int .u64 q))
    (d0 : W.cell? ⟨b, o + i * 3, none⟩ = some (.int .u64 p)) (d1 : W.cell? ⟨b, o + i * 3 + 1, none⟩ = some (.int .u64 g)) (d2 : W.cell? ⟨b, o + i * 3 + 2, none⟩ = some (.slice A' fl C'))
    (h : c1 = true ∨ (c1 = false ∧ c2 = true) ∨ (c1 = false ∧ c2 = false ∧ c3 = true) ∨ (c1 = false ∧ c2 = false ∧ c3 = false ∧ c4 = true ∧ c5 = true)) :
    AnsB W 20 #[.slice (some ⟨b, o, none⟩) L C, .int .i64 (i : Int)] (.bool false) := by
  intro w hw
  obtain ⟨p0, p1, r1, r2, r3, e1, e2, e3, e4, e5⟩ := Hd
  have d0' := keep_cell hw hb d0
  have d1' := keep_cell hw hb d1
  have d2' := keep_cell hw hb d2
  obtain ⟨t0, t1, t2⟩ := three_cells w (.int .u64 p) (.int .u64 g) (.slice A' fl C') 35
  obtain ⟨V, hV⟩ : ∃ V, w.alloc (.cells #[.int .u64 p, .int .u64 g, .slice A' fl C'] 35) = V := ⟨_, rfl⟩
  have hBV : Below w.heap.size w V := hV ▸ below_alloc _ _
  rw [hV] at t0 t1 t2
  have hqc : c4 = true → V.cell? ⟨b, o + j * 3, none⟩ = some (.int .u64 q) := fun h4 => keep_cell (bb hw hBV) hb (hj h4).2.2
  clear d0 d1 d2
  rcases h with rfl | ⟨rfl, rfl⟩ | ⟨rfl, rfl, rfl⟩ | ⟨rfl, rfl, rfl, rfl, rfl⟩
  · clear hj hqc e4 e5 e2 e3
    go_enter Try.func20, Try.ntmps20
    go_wp2
    go_quiet ((fail))
    go_wp2
    go_ret
    exact ⟨rfl, bb hBV (below_drewN _ _)⟩
  · clear hj hqc e4 e5 e3
    go_enter Try.func20, Try.ntmps20
    go_wp2
    go_quiet ((fail))
    go_wp2
    go_ret
    exact ⟨rfl, bb hBV (below_drewN _ _)⟩
  · clear hj hqc e4 e5
    go_enter Try.func20, Try.ntmps20
    go_wp2
    go_quiet ((fail))
    go_wp2
    go_ret
    exact ⟨rfl, bb hBV (below_drewN _ _)⟩
  · obtain ⟨j1, j2, _⟩ := hj rfl
    have hq' := hqc rfl
    clear hj hqc
    go_enter Try.func20, Try.ntmps20
    go_wp2
    go_quiet ((fail))
    go_wp2
    go_ret
    exact ⟨rfl, bb hBV (below_drewN _ _)⟩
end Go.Proofs.Ytgmdcpkpcajenaa

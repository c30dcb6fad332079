/-
  The contract of held: the k-th entry of a row that is right, by the program.
-/
import Derived.Test.YtgmdcpkpcajenaaPf8
import Derived.Test.YtgmdcpkpcajenaaPfL
namespace Go.Proofs.Ytgmdcpkpcajenaa
set_option linter.unusedVariables false
open Go.RowKit

theorem frozen_new (w : World) (c : Array Value) (t : TypeId) (o : Nat) : (w.alloc (.cells c t)).frozen? ⟨w.heap.size, o, none⟩ = false := by
  rw [frozen?_alloc_cells]; simp [World.frozen?]
theorem keep_frozen {w w' : World} (hb : Below w.heap.size w w') {b o : Nat} (hl : b < w.heap.size) (h : w.frozen? ⟨b, o, none⟩ = false) : w'.frozen? ⟨b, o, none⟩ = false := by
  rw [(bcell hb).2 b o hl]; exact h
def noEntry : Value := .agg #[.int .u64 0, .int .u64 0, .slice none 0 0]
theorem held_out (W : World) (A : Option Addr) (L C : Nat) (k : Int) (hL : (L : Int) ≤ 9223372036854775807) (h : 32 < (L : Int) ∨ ((L : Int) ≤ 32 ∧ k < 0) ∨ ((L : Int) ≤ 32 ∧ 0 ≤ k ∧ (L : Int) ≤ k)) : AnsB W 14 #[.slice A L C, .int .i64 k] (.tuple #[noEntry, .bool false]) := by
  intro w hw
  rcases h with h | ⟨h, h'⟩ | ⟨h, h', h''⟩
  all_goals
    go_enter Try.func14, Try.ntmps14
    go_wp2
    exact bodyPost_ret (v := .tuple #[.agg #[.int .u64 0, .int .u64 0, .slice none 0 0], .bool false]) (by simp [results, Try.results14, go_sem]) rfl ⟨rfl, below_alloc _ _⟩
set_option maxHeartbeats 1000000 in
theorem held_walk (W : World) (b o L C : Nat) (k : Nat) (p g : Int) (s : Value) (es : List En) (i r : Int) (hs : ∃ A n C, s = .slice A n C) (hL : (L : Int) ≤ 32) (hk : (k : Int) < L) (hb : b < W.heap.size)
    (c0 : W.cell? ⟨b, o + k * 3, none⟩ = some (.int .u64 p)) (c1 : W.cell? ⟨b, o + k * 3 + 1, none⟩ = some (.int .u64 g)) (c2 : W.cell? ⟨b, o + k * 3 + 2, none⟩ = some s)
    (HR : RowsAns W (.slice (some ⟨b, o, none⟩) L C) es)
    (HC : ∀ w A' C', EntsAt w A' C' es → AnsB w 11 #[.slice A' es.length C'] (.tuple #[.int .i64 i, .int .i64 r])) :
    AnsB W 14 #[.slice (some ⟨b, o, none⟩) L C, .int .i64 (k : Int)] (.tuple #[.agg #[.int .u64 p, .int .u64 g, s], .bool (r == 0)]) := by
  obtain ⟨A2, n2, C2, rfl⟩ := hs
  intro w hw
  obtain ⟨t0, t1, t2⟩ := three_cells w (.int .u64 0) (.int .u64 0) (.slice none 0 0) 35
  have z0 := frozen_new w #[.int .u64 0, .int .u64 0, .slice none 0 0] 35 0
  have z1 := frozen_new w #[.int .u64 0, .int .u64 0, .slice none 0 0] 35 1
  have z2 := frozen_new w #[.int .u64 0, .int .u64 0, .slice none 0 0] 35 2
  obtain ⟨V, hV⟩ : ∃ V, w.alloc (.cells #[.int .u64 0, .int .u64 0, .slice none 0 0] 35) = V := ⟨_, rfl⟩
  have hVs : w.heap.size < V.heap.size := by rw [← hV]; simp
  have hBV : Below w.heap.size w V := hV ▸ below_alloc _ _
  rw [hV] at t0 t1 t2 z0 z1 z2
  have hWV := bb hw hBV
  have d0 := keep_cell hWV hb c0
  have d1 := keep_cell hWV hb c1
  have d2 := keep_cell hWV hb c2
  have hbV : b < V.heap.size := Nat.lt_of_lt_of_le hb hWV.size
  clear c0 c1 c2
  go_enter Try.func14, Try.ntmps14
  go_wp2_with (first | (go_at_call 12; with_reducible refine RowsAns.use HR hWV fun A' C' w1 hE1 hb1 => ?_; have HC1 := HC w1 A' C' hE1) | (go_at_call 11; with_reducible refine AnsB.use HC1 (Below.refl _ _) fun w2 hb2 => ?_; have hB2 := bb hb1 hb2; have e0 := keep_cell hB2 hbV d0; have e1 := keep_cell hB2 hbV d1; have e2 := keep_cell hB2 hbV d2; have y0 := keep_cell hB2 hVs t0; have y1 := keep_cell hB2 hVs t1; have y2 := keep_cell hB2 hVs t2; have x0 := keep_frozen hB2 hVs z0; have x1 := keep_frozen hB2 hVs z1; have x2 := keep_frozen hB2 hVs z2))
  exact bodyPost_ret (v := .tuple #[.agg #[.int .u64 p, .int .u64 g, .slice A2 n2 C2], .bool (r == 0)]) (by simp [results, Try.results14, go_sem, y0, y1, y2]) rfl ⟨rfl, (((bb hBV hB2).setCell (Nat.le_refl _) _).setCell (Nat.le_refl _) _).setCell (Nat.le_refl _) _⟩
end Go.Proofs.Ytgmdcpkpcajenaa

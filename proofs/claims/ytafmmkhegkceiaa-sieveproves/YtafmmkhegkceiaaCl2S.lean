/-
  The contract of Claim.
-/
import Derived.Test.YtafmmkhegkceiaaCl1S
namespace Go.Proofs.Ytafmmkhegkceiaa
set_option linter.unusedVariables false
open Go.RowKit

theorem frozen_new (w : World) (c : Array Value) (t : TypeId) (o : Nat) : (w.alloc (.cells c t)).frozen? ⟨w.heap.size, o, none⟩ = false := by
  rw [frozen?_alloc_cells]; simp [World.frozen?]
theorem keep_frozen {w w' : World} (hb : Below w.heap.size w w') {b o : Nat} (hl : b < w.heap.size) (h : w.frozen? ⟨b, o, none⟩ = false) : w'.frozen? ⟨b, o, none⟩ = false := by
  rw [(bcell hb).2 b o hl]; exact h
def noEntry : Value := .agg #[.int .u64 0, .int .u64 0, .slice none 0 0]
theorem PowsAt.set {w : World} {A : Option Addr} {C : Nat} {fs : List Pw} (h : PowsAt w A C fs) (p : Addr) (v : Value) (hn : ∀ b o, A = some ⟨b, o, none⟩ → b ≠ p.block) : PowsAt (w.setCell p v) A C fs := by
  refine ⟨h.cap, h.max, fun i f hf => ?_⟩
  obtain ⟨b, o, hA, hl, c0, c1, k⟩ := h.get i f hf
  have hb := hn b o hA
  refine ⟨b, o, hA, by simpa [World.setCell] using hl, ?_, ?_, k⟩
  · rw [World.cell?_of_block (w := w) (a := ⟨b, o + i * 2, none⟩) (Below.heap_setCell w p v b hb)]; exact c0
  · rw [World.cell?_of_block (w := w) (a := ⟨b, o + i * 2 + 1, none⟩) (Below.heap_setCell w p v b hb)]; exact c1
theorem claim_world (w : World) (q a b c : Value) : ∃ V, ((w.alloc (.cells #[q] 26)).alloc (.cells #[a, b, c] 45)) = V ∧ Below w.heap.size w V ∧ w.heap.size + 1 < V.heap.size ∧
    V.cell? ⟨w.heap.size, 0, none⟩ = some q ∧ V.cell? ⟨w.heap.size + 1, 0, none⟩ = some a ∧ V.cell? ⟨w.heap.size + 1, 1, none⟩ = some b ∧ V.cell? ⟨w.heap.size + 1, 2, none⟩ = some c ∧ V.frozen? ⟨w.heap.size + 1, 0, none⟩ = false ∧ V.frozen? ⟨w.heap.size + 1, 1, none⟩ = false ∧ V.frozen? ⟨w.heap.size + 1, 2, none⟩ = false := by
  have hs : (w.alloc (.cells #[q] 26)).heap.size = w.heap.size + 1 := by simp
  obtain ⟨a0, a1, a2⟩ := three_cells (w.alloc (.cells #[q] 26)) a b c 45
  have z := frozen_new (w.alloc (.cells #[q] 26)) #[a, b, c] 45
  rw [hs] at a0 a1 a2 z
  refine ⟨_, rfl, bb (below_alloc _ _) (below_alloc _ _), by simp, ?_, a0, a1, a2, z 0, z 1, z 2⟩
  rw [World.cell?_alloc_past _ _ _ (by simp)]; exact cell_new _ _ _

set_option maxHeartbeats 1000000 in
/-- There is none: the row isn't right, or no entry has that P. -/
theorem claim_no (W : World) (s : Value) (q i e : Int) (HC : AnsB W 20 #[s] (.tuple #[.int .i64 i, .int .i64 e]))
    (h : (e != 0) = true ∨ (e = 0 ∧ ∀ w b, Below W.heap.size W w → b < w.heap.size → w.cell? ⟨b, 0, none⟩ = some (.int .u64 q) → AnsB w 32 #[s, .func (.func 33) #[] #[.pointer (some ⟨b, 0, none⟩)]] (.int .i64 (-1)))) :
    AnsB W 21 #[s, .int .u64 q] (.tuple #[noEntry, .bool false]) := by
  intro w hw
  obtain ⟨V, hV, hBV, hs, v0, v1, v2, v3, f1, f2, f3⟩ := claim_world w (.int .u64 q) (.int .u64 0) (.int .u64 0) (.slice none 0 0)
  have hWV := bb hw hBV
  rcases h with h | ⟨rfl, h⟩
  · go_enter Try.func21, Try.ntmps21
    go_wp2_with (go_at_call 20; with_reducible refine AnsB.use HC hWV fun w1 hb1 => ?_; have y1 := keep_cell hb1 hs v1; have y2 := keep_cell hb1 hs v2; have y3 := keep_cell hb1 hs v3; have x1 := keep_frozen hb1 hs f1; have x2 := keep_frozen hb1 hs f2; have x3 := keep_frozen hb1 hs f3)
    exact bodyPost_ret (v := .tuple #[.agg #[.int .u64 0, .int .u64 0, .slice none 0 0], .bool false]) (by simp [results, Try.results21, go_sem, y1, y2, y3]) rfl ⟨rfl, (((bb hBV hb1).setCell (by simp) _).setCell (by simp) _).setCell (by simp) _⟩
  · go_enter Try.func21, Try.ntmps21
    go_wp2_with (first | (go_at_call 20; with_reducible refine AnsB.use HC hWV fun w1 hb1 => ?_; have HI := h w1 _ (bb hWV hb1) (by have := hb1.size; omega) (keep_cell hb1 (by omega) v0)) | (go_at_call 32; with_reducible refine AnsB.use HI (Below.refl _ _) fun w2 hb2 => ?_; have hB2 := bb hb1 hb2; have y1 := keep_cell hB2 hs v1; have y2 := keep_cell hB2 hs v2; have y3 := keep_cell hB2 hs v3; have x1 := keep_frozen hB2 hs f1; have x2 := keep_frozen hB2 hs f2; have x3 := keep_frozen hB2 hs f3))
    exact bodyPost_ret (v := .tuple #[.agg #[.int .u64 0, .int .u64 0, .slice none 0 0], .bool false]) (by simp [results, Try.results21, go_sem, y1, y2, y3]) rfl ⟨rfl, (((bb hBV hB2).setCell (by simp) _).setCell (by simp) _).setCell (by simp) _⟩
set_option maxHeartbeats 1000000 in
theorem claim_yes (W : World) (b o L C k : Nat) (q p g : Int) (A' : Option Addr) (fs : List Pw) (C' : Nat) (hk : (k : Int) < L) (hL : (L : Int) ≤ 9223372036854775807) (hb : b < W.heap.size)
    (c0 : W.cell? ⟨b, o + k * 3, none⟩ = some (.int .u64 p)) (c1 : W.cell? ⟨b, o + k * 3 + 1, none⟩ = some (.int .u64 g)) (c2 : W.cell? ⟨b, o + k * 3 + 2, none⟩ = some (.slice A' fs.length C'))
    (HC : AnsB W 20 #[.slice (some ⟨b, o, none⟩) L C] (.tuple #[.int .i64 0, .int .i64 0]))
    (h : ∀ w b2, Below W.heap.size W w → b2 < w.heap.size → w.cell? ⟨b2, 0, none⟩ = some (.int .u64 q) → AnsB w 32 #[.slice (some ⟨b, o, none⟩) L C, .func (.func 33) #[] #[.pointer (some ⟨b2, 0, none⟩)]] (.int .i64 (k : Int)))
    (HK : CloneAns W (.slice A' fs.length C') fs) (w : World) (hw : Below W.heap.size W w) :
    Calls Try.prog 21 #[.slice (some ⟨b, o, none⟩) L C, .int .u64 q] w fun e w' => ∃ A2 C2, e = .returned (.tuple #[.agg #[.int .u64 p, .int .u64 g, .slice A2 fs.length C2], .bool true]) ∧ PowsAt w' A2 C2 fs ∧ Below w.heap.size w w' := by
  obtain ⟨V, hV, hBV, hs, v0, v1, v2, v3, f1, f2, f3⟩ := claim_world w (.int .u64 q) (.int .u64 0) (.int .u64 0) (.slice none 0 0)
  have hWV := bb hw hBV
  obtain ⟨fl, hfl⟩ : ∃ fl, fs.length = fl := ⟨_, rfl⟩
  have HF : Hid (fs.length = fl) := hfl
  have HK' : ∀ w, Below W.heap.size W w → ∀ {R : Ending → World → Prop}, (∀ A2 C2 w', PowsAt w' A2 C2 fs → (∀ b o, A2 = some ⟨b, o, none⟩ → w.heap.size ≤ b) → Below w.heap.size w w' → R (.returned (.slice A2 fl C2)) w') → Calls Try.prog 34 #[.slice A' fl C'] w R := by
    intro w1 hw1 R kk
    have := CloneAns.use HK hw1 (R := R) (fun A2 C2 w' hP h0 hb => by rw [hfl]; exact kk A2 C2 w' hP h0 hb)
    rw [hfl] at this; exact this
  rw [hfl] at c2 ⊢
  clear hfl HK
  go_enter Try.func21, Try.ntmps21
  go_wp2_with (first | (go_at_call 20; with_reducible refine AnsB.use HC hWV fun w1 hb1 => ?_; have HI := h w1 _ (bb hWV hb1) (by have := hb1.size; omega) (keep_cell hb1 (by omega) v0)) | (go_at_call 32; with_reducible refine AnsB.use HI (Below.refl _ _) fun w2 hb2 => ?_; have hB2 := bb hb1 hb2; have y1 := keep_cell hB2 hs v1; have y2 := keep_cell hB2 hs v2; have y3 := keep_cell hB2 hs v3; have x1 := keep_frozen hB2 hs f1; have x2 := keep_frozen hB2 hs f2; have x3 := keep_frozen hB2 hs f3; have e0 := keep_cell (bb hWV hB2) hb c0; have e1 := keep_cell (bb hWV hB2) hb c1; have e2 := keep_cell (bb hWV hB2) hb c2; obtain ⟨g0, g1, g2⟩ := three_cells w2 (.int .u64 p) (.int .u64 g) (.slice A' fl C') 45; have n0 := frozen_new w2 #[.int .u64 p, .int .u64 g, .slice A' fl C'] 45 2; have hsz := (bb hBV hB2).size; have hw2s : w.heap.size + 1 < w2.heap.size := Nat.lt_of_lt_of_le hs hB2.size) | (go_at_call 34; with_reducible refine HK' _ (bb (bb hWV hB2) (below_alloc _ _)) fun A2 C2 w3 hP3 hA2 hb3 => ?_; have m0 := keep_cell hb3 (by simp) g0; have m1 := keep_cell hb3 (by simp) g1; have m2 := keep_cell hb3 (by simp) g2; have o2 := keep_frozen hb3 (by simp) n0; have hb3' := bb (below_alloc w2 (.cells #[.int .u64 p, .int .u64 g, .slice A' fl C'] 45)) hb3; have y1' := keep_cell hb3' hw2s y1; have y2' := keep_cell hb3' hw2s y2; have y3' := keep_cell hb3' hw2s y3; have x1' := keep_frozen hb3' hw2s x1; have x2' := keep_frozen hb3' hw2s x2; have x3' := keep_frozen hb3' hw2s x3; have hne : w2.heap.size ≠ w.heap.size + 1 := by omega))
  have hA3 : ∀ b o, A2 = some ⟨b, o, none⟩ → w2.heap.size + 1 ≤ b := fun b o h => by have := hA2 b o h; simpa using this
  exact bodyPost_ret (v := .tuple #[.agg #[.int .u64 p, .int .u64 g, .slice A2 fl C2], .bool true]) (by simp [results, Try.results21, go_sem, y1', y2', y3']) rfl ⟨A2, C2, rfl,
    (((hP3.set _ _ fun b o h => by have := hA3 b o h; show b ≠ w2.heap.size; omega).set _ _ fun b o h => by have := hA3 b o h; show b ≠ w.heap.size + 1; omega).set _ _ fun b o h => by have := hA3 b o h; show b ≠ w.heap.size + 1; omega).set _ _ fun b o h => by have := hA3 b o h; show b ≠ w.heap.size + 1; omega,
    ((((bb (bb hBV hB2) hb3').setCell (by simp; omega) _).setCell (by simp) _).setCell (by simp) _).setCell (by simp) _⟩
end Go.Proofs.Ytafmmkhegkceiaa

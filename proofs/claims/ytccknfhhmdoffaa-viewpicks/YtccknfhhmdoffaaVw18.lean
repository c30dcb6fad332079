/-
  What the statements' alive answers: true. No condition.
-/
import Derived.Test.YtccknfhhmdoffaaVw17
import Derived.Test.YtccknfhhmdoffaaVw12
namespace Go.Proofs.Ytccknfhhmdoffaa
set_option linter.unusedVariables false
open Go.RowKit

/-- A literal row. -/
theorem zat_new (w : World) (zs : List Int) (hI : ∀ z ∈ zs, I64 z) (hl : zs.length ≤ 100) : ZAt (w.alloc (.cells (zcells zs).toArray 3)) (some ⟨w.heap.size, 0, none⟩) zs.length zs := by
  refine ⟨Nat.le_refl _, by unfold maxLen; omega, fun i z hz => ?_⟩
  have b := Blk.new w 3 (zcells zs).toArray
  refine ⟨w.heap.size, 0, rfl, b.lt, ?_, hI z (List.mem_of_getElem? hz)⟩
  rw [Nat.zero_add, b.cell]
  simp [zcells, hz]
theorem shp23 : Shp [2, 3] := ⟨by decide, by simp, by decide⟩
theorem shp32 : Shp [3, 2] := ⟨by decide, by simp, by decide⟩
theorem strs23 : strs [2, 3] = [3, 1] := by decide
theorem ok23 : Ok 0 [2, 3] [3, 1] := by
  refine ⟨rfl, shp23, fun n hn => ?_, ?_⟩
  · have : ∀ n, n < 6 → 0 ≤ ce 0 [3, 1] [2, 3] n ∧ ce 0 [3, 1] [2, 3] n < 4096 := by decide
    exact this n hn
  · rintro ⟨m, n, h1, h2, h3⟩
    have : ∀ n, n < 6 → ∀ m, m < n → ¬ ce 0 [3, 1] [2, 3] m = ce 0 [3, 1] [2, 3] n := by decide
    exact this n h2 m h1 h3
theorem ok32 : Ok 0 [3, 2] [1, 3] := by
  refine ⟨rfl, shp32, fun n hn => ?_, ?_⟩
  · have : ∀ n, n < 6 → 0 ≤ ce 0 [1, 3] [3, 2] n ∧ ce 0 [1, 3] [3, 2] n < 4096 := by decide
    exact this n hn
  · rintro ⟨m, n, h1, h2, h3⟩
    have : ∀ n, n < 6 → ∀ m, m < n → ¬ ce 0 [1, 3] [3, 2] m = ce 0 [1, 3] [3, 2] n := by decide
    exact this n h2 m h1 h3
theorem cls32 : cls 0 [1, 3] [3, 2] = [0, 3, 1, 4, 2, 5] := by decide
theorem small_i64 {zs : List Int} (h : ∀ z ∈ zs, 0 ≤ z ∧ z < 4096) : ∀ z ∈ zs, I64 z := fun z hz => by have := h z hz; unfold I64; omega
theorem alive_dense (w : World) {R : Ending → World → Prop} (K : ∀ A1 C1 A2 C2 w', ZAt w' A1 C1 (ints [2, 3]) → ZAt w' A2 C2 [3, 1] → Below (w.heap.size + 1) (w.alloc (.cells #[.int .i64 2, .int .i64 3] 3)) w' → R (.returned (.tuple #[.agg #[.int .i64 0, .slice A1 2 C1, .slice A2 2 C2], .int .i64 0])) w') :
    Calls Try.prog 18 #[.slice (some ⟨w.heap.size, 0, none⟩) 2 2] (w.alloc (.cells #[.int .i64 2, .int .i64 3] 3)) R := by
  refine (dense_ok (w.alloc (.cells #[.int .i64 2, .int .i64 3] 3)) (some ⟨w.heap.size, 0, none⟩) 2 [2, 3] shp23 (zat_new w (ints [2, 3]) (small_i64 (by decide)) (by decide))).use (Below.refl _ _) fun A1 C1 A2 C2 w' h1 h2 h3 => ?_
  rw [strs23] at h2
  rw [World.size_alloc] at h3
  exact K A1 C1 A2 C2 w' h1 h2 h3
theorem alive_perm (X w : World) (n : Nat) (hn : w.heap.size = n) (A1 A2 : Option Addr) (C1 C2 : Nat) (h1 : ZAt X A1 C1 (ints [2, 3])) (h2 : ZAt X A2 C2 [3, 1]) (hb : Below X.heap.size X w) {R : Ending → World → Prop} (K : ∀ A3 C3 A4 C4 w', ZAt w' A3 C3 (ints [3, 2]) → ZAt w' A4 C4 [1, 3] → Below (n + 1) (w.alloc (.cells #[.int .i64 1, .int .i64 0] 3)) w' → R (.returned (.tuple #[.agg #[.int .i64 0, .slice A3 2 C3, .slice A4 2 C4], .int .i64 0])) w') :
    Calls Try.prog 21 #[.agg #[.int .i64 0, .slice A1 2 C1, .slice A2 2 C2], .slice (some ⟨n, 0, none⟩) 2 2] (w.alloc (.cells #[.int .i64 1, .int .i64 0] 3)) R := by
  subst hn
  have hB := bthen hb (Nat.le_refl _) (below_alloc w (.cells #[.int .i64 1, .int .i64 0] 3))
  refine (permute_ok (w.alloc (.cells #[.int .i64 1, .int .i64 0] 3)) 0 A1 C1 A2 C2 [2, 3] [3, 1] (h1.below hB) (h2.below hB) ok23 (some ⟨w.heap.size, 0, none⟩) 2 [1, 0] (zat_new w [1, 0] (small_i64 (by decide)) (by decide)) (by decide)).use (Below.refl _ _) fun A3 C3 A4 C4 w' h3 h4 h5 => ?_
  rw [show pmZ [2, 3] [1, 0] = [3, 2] by decide] at h3
  rw [show pmS [3, 1] [1, 0] = [1, 3] by decide] at h4
  rw [World.size_alloc] at h5
  exact K A3 C3 A4 C4 w' h3 h4 h5
theorem alive_cells (X w : World) (A3 A4 : Option Addr) (C3 C4 : Nat) (h3 : ZAt X A3 C3 (ints [3, 2])) (h4 : ZAt X A4 C4 [1, 3]) (hb : Below X.heap.size X w) {R : Ending → World → Prop} (K : ∀ A5 C5 w', ZAt w' A5 C5 [0, 3, 1, 4, 2, 5] → Below w.heap.size w w' → R (.returned (.slice A5 6 C5)) w') :
    Calls Try.prog 16 #[.agg #[.int .i64 0, .slice A3 2 C3, .slice A4 2 C4]] w R := by
  refine (cells_ok X 0 A3 C3 A4 C4 [3, 2] [1, 3] h3 h4 ok32).use hb fun A5 C5 w' h5 h6 => ?_
  rw [cls32] at h5
  exact K A5 C5 w' h5 h6
theorem alive_same (w : World) (A5 : Option Addr) (C5 : Nat) (h5 : ZAt w A5 C5 [0, 3, 1, 4, 2, 5]) : AnsB (w.alloc (.cells #[.int .i64 0, .int .i64 3, .int .i64 1, .int .i64 4, .int .i64 2, .int .i64 5] 3)) 15 #[.slice A5 6 C5, .slice (some ⟨w.heap.size, 0, none⟩) 6 6] (.bool true) :=
  same_any _ A5 C5 [0, 3, 1, 4, 2, 5] (h5.below (below_alloc _ _)) (some ⟨w.heap.size, 0, none⟩) 6 [0, 3, 1, 4, 2, 5] (zat_new w [0, 3, 1, 4, 2, 5] (small_i64 (by decide)) (by decide))

set_option maxHeartbeats 1000000 in
theorem alive_any (W : World) : AnsB W 10 #[] (.bool true) := by
  intro w hw
  go_enter Try.func10, Try.ntmps10
  go_wp2_with (first
    | (go_at_call 18; refine alive_dense w fun A1 C1 A2 C2 w2 h1 h2 hb2 => ?_)
    | (go_at_call 21; refine alive_perm w2 (w2.alloc (.cells #[.int .i64 0, .slice A1 2 C1, .slice A2 2 C2] 28)) (w2.heap.size + 1) (by simp) A1 A2 C1 C2 h1 h2 (below_alloc _ _) fun A3 C3 A4 C4 w3 h3 h4 hb3 => ?_)
    | (go_at_call 16; refine alive_cells w3 _ A3 A4 C3 C4 h3 h4 (below_alloc _ _) fun A5 C5 w4 h5 hb4 => ?_; have HS := alive_same w4 A5 C5 h5)
    | (go_at_call 15; (with_reducible refine AnsB.use HS (Below.refl _ _) fun w5 hb5 => ?_)))
  go_ret
  have g1 : Below w.heap.size w w2 := bthen (below_alloc w (.cells #[.int .i64 2, .int .i64 3] 3)) (Nat.le_refl _) (by rw [World.size_alloc]; exact hb2)
  have g2 : Below w2.heap.size w2 w3 := bthen (bb (below_alloc w2 (.cells #[.int .i64 0, .slice A1 2 C1, .slice A2 2 C2] 28)) (below_alloc _ (.cells #[.int .i64 1, .int .i64 0] 3))) (Nat.le_refl _) (by rw [World.size_alloc, World.size_alloc]; exact hb3)
  exact ⟨rfl, bb (bb (bb g1 g2) (bb (below_alloc _ _) hb4)) (bb (below_alloc _ _) hb5)⟩
end Go.Proofs.Ytccknfhhmdoffaa

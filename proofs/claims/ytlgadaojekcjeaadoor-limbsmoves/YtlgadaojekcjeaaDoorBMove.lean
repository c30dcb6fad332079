/-
  The document's Moved: bits at other places.
-/
import Derived.Test.YtlgadaojekcjeaaDoorBSumV
namespace Go.Proofs.YtlgadaojekcjeaaDoor
open Go.RowKit

/-- Where bits come to. -/
def movedF (f : Nat → Bool) (n most : Int) (i : Nat) : Bool := if (i : Int) < most ∧ 0 ≤ (i : Int) - n ∧ (i : Int) - n < most then f ((i : Int) - n).toNat else false

set_option maxHeartbeats 1000000 in
set_option maxRecDepth 100000 in
theorem moved_any (f : Nat → Bool) (n : Int) (m : Nat) (hm : m ≤ 256) (hn : -256 ≤ n) (hn2 : n ≤ 256) (w : World) : Calls Tryd.prog 28 #[.agg (bv f), .int .i64 n, .int .i64 m] w fun e w' => e = .returned (.agg (bv (movedF f n m))) ∧ Below w.heap.size w w' := by
  go_enter Tryd.func28, Tryd.ntmps28
  go_wp2_with fail
  rw [zero_bv]
  go_loopg [8] m (fun g i wr => ∃ k : Nat, k ≤ m ∧ g = m - k ∧ i = .int .i64 k ∧ Blk wr w.heap.size f ∧ Blk wr (w.heap.size + 1) (fun _ => false) ∧ Blk wr (w.heap.size + 1 + 1) (fun j => if j < k then movedF f n m j else false) ∧ Below w.heap.size w wr)
  case atStart =>
    refine ⟨0, by omega, rfl, rfl, ((Blk.new w _).old _).old _, ?_, ?_, ?_⟩
    · have := (Blk.new (w.alloc (.cells (bv f) 27)) (fun _ => false)).old (.cells (bv fun _ => false) 27)
      simpa using this
    · have := Blk.new ((w.alloc (.cells (bv f) 27)).alloc (.cells (bv fun _ => false) 27)) (fun _ => false)
      simpa using this
    · exact (((Below.refl _ _).alloc (Nat.le_refl _) _).alloc (by simp) _).alloc (by simp; omega) _
  case round =>
    obtain ⟨k, hk, rfl, rfl, hA, hR, hO, hW⟩ := hrel
    by_cases hlt : k < m
    · have hlti : (k : Int) < m := by omega
      have hk1 : (k : Int) < 256 := by omega
      by_cases h1 : 0 ≤ (k : Int) - n
      · by_cases h2 : (k : Int) - n < m
        · obtain ⟨j, hj⟩ : ∃ j : Nat, (k : Int) - n = j := ⟨((k : Int) - n).toNat, by omega⟩
          have hj2 : (j : Int) < m := by omega
          have hj3 : (j : Int) < 256 := by omega
          have a1 := hA.cell j (by omega)
          have o1 := hO.cell k (by omega)
          have f1 := hO.frozen k
          simp only [Nat.lt_irrefl, if_false] at o1
          have hj0 : (0 : Int) ≤ j := by omega
          have hv : movedF f n m k = f j := by
            unfold movedF
            rw [if_pos ⟨hlti, h1, h2⟩, hj]
            rfl
          go_wp2
          go_roundg (m - (k + 1))
          case measure => omega
          case rel =>
            refine ⟨k + 1, by omega, rfl, by go_num, hA.other _ _ (by show _ ≠ _ + 1 + 1; omega), hR.other _ _ (by show _ ≠ _ + 1 + 1; omega), (hO.set k _).congr (fun i _ => ?_), hW.setCell (by show _ ≤ _ + 1 + 1; omega) _⟩
            by_cases h3 : i = k
            · subst h3; simp [hv]
            · have h4 : (i < k + 1) = (i < k) := by simp; omega
              simp [h3, h4]
        · have hv : movedF f n m k = false := by unfold movedF; rw [if_neg (fun h => h2 h.2.2)]
          have hO' : Blk wr (w.heap.size + 1 + 1) (fun j => if j < k + 1 then movedF f n m j else false) := hO.congr (fun i _ => by
            by_cases h3 : i = k
            · subst h3; simp [hv]
            · have h4 : (i < k + 1) = (i < k) := by simp; omega
              simp [h4])
          clear hO
          go_wp2
          go_roundg (m - (k + 1))
          case measure => omega
          case rel => exact ⟨k + 1, by omega, rfl, by go_num, hA, hR, hO', hW⟩
      · have hv : movedF f n m k = false := by unfold movedF; rw [if_neg (fun h => h1 h.2.1)]
        have hO' : Blk wr (w.heap.size + 1 + 1) (fun j => if j < k + 1 then movedF f n m j else false) := hO.congr (fun i _ => by
          by_cases h3 : i = k
          · subst h3; simp [hv]
          · have h4 : (i < k + 1) = (i < k) := by simp; omega
            simp [h4])
        clear hO
        go_wp2
        go_roundg (m - (k + 1))
        case measure => omega
        case rel => exact ⟨k + 1, by omega, rfl, by go_num, hA, hR, hO', hW⟩
    · obtain rfl : k = m := by omega
      have hO' : Blk wr (w.heap.size + 1 + 1) (movedF f n k) := hO.congr (fun i _ => by
        by_cases h : i < k
        · simp [h]
        · simp only [h, if_false]; unfold movedF; rw [if_neg (fun h' => h (by omega))])
      go_wp2_with (first
        | (refine wpList_load_row rfl 27 _ rfl _ rfl 27 _ (0, 0) _ hO' Tryd.underlying27 rfl (info27 _) ?_)
        | (refine wpList_plain rfl fun _ hK => wp_store_row 27 _ _ rfl _ _ rfl rfl 27 _ hR (info27 _) (by rw [bv_size, bv_size]) (bv_one _) (hK _ _ ?_)))
      refine bodyPost_ret (v := .agg (bv (movedF f n k))) (results_cell_row rfl _ _ (w.heap.size + 1) 27 _ (0, 0) _ rfl hR.row Tryd.underlying27 rfl (info27 _)) rfl ⟨rfl, below_setRow hW (by omega) _⟩
end Go.Proofs.YtlgadaojekcjeaaDoor

/-
  The contract of the sum of two rows of 256 bits.
-/
import Derived.Test.YtlgadaojekcjeaaDoorBv
import Derived.Deep.LoopGhost
import Derived.RegionTactic
namespace Go.Proofs.YtlgadaojekcjeaaDoor
open Go.RowKit

/-- The carry into a place, and the sum's bit there. -/
def cry (a b : Nat → Bool) : Nat → Bool
  | 0 => false
  | i + 1 => a i && b i || cry a b i && (a i || b i)
def sumB (a b : Nat → Bool) (i : Nat) : Bool := (a i != b i) != cry a b i

set_option maxHeartbeats 2000000 in
set_option maxRecDepth 100000 in
theorem bsum_any (a b : Nat → Bool) (w : World) : Calls Tryd.prog 12 #[.agg (bv a), .agg (bv b)] w fun e w' => e = .returned (.agg (bv (sumB a b))) ∧ Below w.heap.size w w' := by
  go_enter Tryd.func12, Tryd.ntmps12
  go_wp2_with fail
  rw [zero_bv]
  go_loopg [6, 8] 256 (fun g c i wr => ∃ k : Nat, k ≤ 256 ∧ g = 256 - k ∧ c = .bool (cry a b k) ∧ i = .int .i64 k ∧ Blk wr w.heap.size a ∧ Blk wr (w.heap.size + 1) b ∧ Blk wr (w.heap.size + 1 + 1) (fun _ => false)
    ∧ Blk wr (w.heap.size + 1 + 1 + 1) (fun j => if j < k then sumB a b j else false) ∧ Below w.heap.size w wr)
  case atStart =>
    refine ⟨0, by omega, rfl, rfl, rfl, (((Blk.new w a).old _).old _).old _, ?_, ?_, ?_, ?_⟩
    · have := (((Blk.new (w.alloc (.cells (bv a) 27)) b).old (.cells (bv fun _ => false) 27)).old (.cells (bv fun _ => false) 27))
      simpa using this
    · have := ((Blk.new ((w.alloc (.cells (bv a) 27)).alloc (.cells (bv b) 27)) (fun _ => false)).old (.cells (bv fun _ => false) 27))
      simpa using this
    · have := (Blk.new (((w.alloc (.cells (bv a) 27)).alloc (.cells (bv b) 27)).alloc (.cells (bv fun _ => false) 27)) (fun _ => false))
      simpa using this
    · exact ((((Below.refl _ _).alloc (Nat.le_refl _) _).alloc (by simp) _).alloc (by simp; omega) _).alloc (by simp; omega) _
  case round =>
    obtain ⟨k, hk, rfl, rfl, rfl, hA, hB, hR, hO, hW⟩ := hrel
    by_cases hlt : k < 256
    · have a1 := hA.cell k hlt
      have b1 := hB.cell k hlt
      have o1 := hO.cell k hlt
      have f1 := hO.frozen k
      simp only [Nat.lt_irrefl, if_false] at o1
      have hlti : (k : Int) < 256 := by omega
      obtain ⟨x, hx⟩ : ∃ x, a k = x := ⟨_, rfl⟩
      obtain ⟨y, hy⟩ : ∃ y, b k = y := ⟨_, rfl⟩
      obtain ⟨c, hc⟩ : ∃ c, cry a b k = c := ⟨_, rfl⟩
      rw [hx] at a1
      rw [hy] at b1
      rw [hc]
      have hc' : cry a b (k + 1) = (x && y || c && (x || y)) := by rw [cry, hx, hy, hc]
      have hs' : sumB a b k = ((x != y) != c) := by unfold sumB; rw [hx, hy, hc]
      have HC : Hid (cry a b (k + 1) = (x && y || c && (x || y))) := hc'
      have HS : Hid (sumB a b k = ((x != y) != c)) := hs'
      clear hx hy hc hc' hs'
      go_wp2_with fail
      cases x <;> cases y <;> cases c
      all_goals go_region
      all_goals go_wp2
      all_goals go_roundg (256 - (k + 1))
      case measure => omega
      all_goals try (case measure => omega)
      all_goals
        refine ⟨k + 1, by omega, rfl, by rw [HC.out]; rfl, by go_num, hA.other _ _ (by show _ ≠ _ + 1 + 1 + 1; omega), hB.other _ _ (by show _ ≠ _ + 1 + 1 + 1; omega), hR.other _ _ (by show _ ≠ _ + 1 + 1 + 1; omega), (hO.set k _).congr (fun i _ => ?_), (hW.setCell (by show _ ≤ _ + 1 + 1 + 1; omega) _).drew⟩
        by_cases h1 : i = k
        · subst h1; simp [HS.out]
        · have h2 : (i < k + 1) = (i < k) := by simp; omega
          simp [h1, h2]
    · obtain rfl : k = 256 := by omega
      have hO' : Blk wr (w.heap.size + 1 + 1 + 1) (sumB a b) := hO.congr (fun i hi => by simp [hi])
      clear hO
      go_wp2_with (first
        | (refine wpList_load_row rfl 27 _ rfl _ rfl 27 _ (0, 0) _ hO' Tryd.underlying27 rfl (info27 _) ?_)
        | (refine wpList_plain rfl fun _ hK => wp_store_row 27 _ _ rfl _ _ rfl rfl 27 _ hR (info27 _) (by rw [bv_size, bv_size]) (bv_one _) (hK _ _ ?_)))
      refine bodyPost_ret (v := .agg (bv (sumB a b))) (results_cell_row rfl _ _ (w.heap.size + 1 + 1) 27 _ (0, 0) _ rfl hR.row Tryd.underlying27 rfl (info27 _)) rfl ⟨rfl, below_setRow hW (by omega) _⟩
end Go.Proofs.YtlgadaojekcjeaaDoor

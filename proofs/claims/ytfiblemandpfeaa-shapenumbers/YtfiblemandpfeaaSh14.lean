/-
  The walk of ShapeSizes: it answers true, of every row. No condition.
-/
import Derived.Test.YtfiblemandpfeaaSh13
namespace Go.Proofs.Ytfiblemandpfeaa
set_option linter.unusedVariables false
open Go.RowKit Go.Shelf

theorem errV_zero {zs : List Int} (h : errV zs = 0) : ∃ ds, zs = ints ds ∧ Shp ds := by
  unfold errV at h
  split at h
  · cases h
  · cases hs : sz zs with
    | none => rw [hs] at h; cases h
    | some s => obtain ⟨ds, h1, h2, _⟩ := sz_some hs; exact ⟨ds, h1, h2⟩
theorem sizes_many (W : World) (A : Option Addr) (C L : Nat) (h : 100 < L) : AnsB W 3 #[.slice A L C] (.bool true) := by
  intro w hw
  have HA := alive_any W
  have h' : (100 : Int) < (L : Int) := by omega
  go_enter Try.func3, Try.ntmps3
  go_wp2_with (go_at_call 7; with_reducible refine AnsB.use HA hw fun w2 hb2 => ?_)
  go_ret
  exact ⟨rfl, hb2⟩
set_option maxHeartbeats 1000000 in
theorem sizes_none (W : World) (A : Option Addr) (C : Nat) (zs : List Int) (hZ : ZAt W A C zs) (hl : ¬ 100 < zs.length) (he : errV zs ≠ 0) : AnsB W 3 #[.slice A zs.length C] (.bool true) := by
  intro w hw
  have HA := alive_any W
  have HS := size_any W A C zs hZ
  have HR := rsize_any W A C zs hZ
  have HT := strides_none W A C zs hZ he
  have h' : ¬ (100 : Int) < (zs.length : Int) := by omega
  generalize sizeV zs = sv at *
  generalize errV zs = ev at *
  generalize zs.length = L at *
  clear hZ
  go_enter Try.func3, Try.ntmps3
  go_wp2_with (first
    | (go_at_call 7; with_reducible refine AnsB.use HA hw fun w2 hb2 => ?_; have hw2 := hw.trans (hb2.mono hw.size))
    | (go_at_call 8; with_reducible refine AnsQ.use HS hw2 ?_)
    | (go_at_call 9; with_reducible refine AnsQ.use HR hw2 ?_)
    | (go_at_call 10; with_reducible refine AnsB.use HT hw2 fun w3 hb3 => ?_))
  go_ret
  exact ⟨rfl, bb hb2 hb3⟩
set_option maxHeartbeats 2000000 in
theorem sizes_shape (W : World) (A : Option Addr) (C : Nat) (ds : List Nat) (hS : Shp ds) (hZ : ZAt W A C (ints ds)) : AnsB W 3 #[.slice A ds.length C] (.bool true) := by
  intro w hw
  have HA := alive_any W
  have HS := size_any W A C (ints ds) hZ
  have HR := rsize_any W A C (ints ds) hZ
  have HT := strides_any W A C ds hS hZ
  have HSt := fun k hk => stride_any W A C ds hS hZ k hk
  have h4 := hS.few
  have h' : ¬ (100 : Int) < (ds.length : Int) := by omega
  rw [ints_len, errV_shape hS] at HS HR
  generalize sizeV (ints ds) = sv at *
  obtain ⟨L, hL⟩ : ∃ L, ds.length = L := ⟨_, rfl⟩
  have HL : Hid (ds.length = L) := hL
  have HTu : ∀ {w : World}, Below W.heap.size W w → ∀ {R : Ending → World → Prop}, (∀ b w', ZAt w' (some ⟨b, 0, none⟩) L (strs ds) → Below w.heap.size w w' → R (.returned (.slice (some ⟨b, 0, none⟩) L L)) w') → Calls Try.prog 10 #[.slice A L C] w R := fun {w} hw {R} k => by
    rw [hL] at HT
    refine (HT w hw).mono ?_
    rintro e w' ⟨b, rfl, hz, hb⟩
    rw [hL] at hz ⊢
    exact k b w' hz hb
  rw [hL] at HS HR HSt h4 h' ⊢
  clear hZ hL HT hS
  go_enter Try.func3, Try.ntmps3
  go_wp2_with (first
    | (go_at_call 7; with_reducible refine AnsB.use HA hw fun w2 hb2 => ?_; have hw2 := hw.trans (hb2.mono hw.size))
    | (go_at_call 8; with_reducible refine AnsQ.use HS hw2 ?_)
    | (go_at_call 9; with_reducible refine AnsQ.use HR hw2 ?_)
    | (go_at_call 10; refine HTu hw2 fun b w3 hz3 hb3 => ?_))
  have hw3 : Below W.heap.size W w3 := hw2.trans (hb3.mono hw2.size)
  go_loopw [41] (fun v wr => ∃ k n : Nat, v = .int .i64 (k : Int) ∧ k ≤ L ∧ wr = w3.drewN n) (fun v _ => L - (intOf v).toNat)
  case atStart => exact ⟨0, 0, rfl, by omega, rfl⟩
  case round =>
    obtain ⟨k, n, rfl, hk, rfl⟩ := hrel
    by_cases hlt : k < L
    · have hlt' : (k : Int) < (L : Int) := by omega
      have HK := (HSt k hlt).toW hw3
      have c0 : w3.cell? ⟨b, k, none⟩ = some (.int .i64 (strd ds k : Int)) := by
        obtain ⟨b', o', e, _, c, _⟩ := hz3.get k (strd ds k : Int) (by unfold strs; rw [List.getElem?_map, List.getElem?_range (by rw [HL.out]; exact hlt)]; rfl)
        cases e
        rw [Nat.zero_add] at c
        exact c
      generalize strd ds k = s at HK c0
      clear HSt
      go_wp2
      go_quiet (with_reducible exact HK.quiet)
      go_wp2
      go_roundw
      case rel => exact ⟨k + 1, _, by go_num, by omega, rfl⟩
      case measure => simp [intOf]; omega
    · have hlt' : ¬ (k : Int) < (L : Int) := by omega
      go_wp2
      go_ret
      exact ⟨rfl, bb (bb hb2 hb3) (below_drewN _ _)⟩
/-- ShapeSizes. -/
theorem sizes_any (W : World) (A : Option Addr) (C : Nat) (zs : List Int) (hZ : ZAt W A C zs) : AnsB W 3 #[.slice A zs.length C] (.bool true) := by
  by_cases hl : 100 < zs.length
  · exact sizes_many W A C _ hl
  · by_cases he : errV zs = 0
    · obtain ⟨ds, rfl, hS⟩ := errV_zero he
      rw [ints_len]
      exact sizes_shape W A C ds hS hZ
    · exact sizes_none W A C zs hZ hl he
theorem sizes_law (W : World) (A : Option Addr) (C : Nat) (zs : List Int) (hZ : ZAt W A C zs) (_ : zs.length * 8 ≤ 140737488355328) : AnsB W 3 #[.slice A zs.length C] (.bool true) := sizes_any W A C zs hZ
end Go.Proofs.Ytfiblemandpfeaa

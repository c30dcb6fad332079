/-
  What the document's Is and Number answer. No condition but that a shape lies there (and, of Number, that it is an index).
-/
import Derived.Test.YtfiblemandpfeaaSh4
namespace Go.Proofs.Ytfiblemandpfeaa
set_option linter.unusedVariables false
open Go.RowKit

theorem rindex_four (a b c d : Int) : (∀ w, (Instr.index 32 (.agg #[.int .i64 a, .int .i64 b, .int .i64 c, .int .i64 d]) (.int .i64 0)).run Try.prog w = .ok (.int .i64 a) w) ∧ (∀ w, (Instr.index 32 (.agg #[.int .i64 a, .int .i64 b, .int .i64 c, .int .i64 d]) (.int .i64 1)).run Try.prog w = .ok (.int .i64 b) w) ∧ (∀ w, (Instr.index 32 (.agg #[.int .i64 a, .int .i64 b, .int .i64 c, .int .i64 d]) (.int .i64 2)).run Try.prog w = .ok (.int .i64 c) w) ∧ (∀ w, (Instr.index 32 (.agg #[.int .i64 a, .int .i64 b, .int .i64 c, .int .i64 d]) (.int .i64 3)).run Try.prog w = .ok (.int .i64 d) w) :=
  ⟨fun _ => by kernel_rfl, fun _ => by kernel_rfl, fun _ => by kernel_rfl, fun _ => by kernel_rfl⟩
theorem rindex_at (p : Nat → Int) {k : Nat} (hk : k < 4) (w : World) : (Instr.index 32 (.agg #[.int .i64 (p 0), .int .i64 (p 1), .int .i64 (p 2), .int .i64 (p 3)]) (.int .i64 (k : Int))).run Try.prog w = .ok (.int .i64 (p k)) w := by
  obtain ⟨i0, i1, i2, i3⟩ := rindex_four (p 0) (p 1) (p 2) (p 3)
  match k, hk with
  | 0, _ => exact i0 w
  | 1, _ => exact i1 w
  | 2, _ => exact i2 w
  | 3, _ => exact i3 w
theorem ret_b {a b : Bool} (h : a = b) : Ending.returned (.bool a) = .returned (.bool b) := by rw [h]

set_option maxHeartbeats 4000000 in
/-- The document's Is. -/
theorem is_any (W : World) (A : Option Addr) (C : Nat) (ds : List Nat) (hZ : ZAt W A C (ints ds)) (p : Nat → Int)
    (c : Bool) (hyes : (∀ j, j < 4 → In ds p j) → c = true) (hno : ∀ j, j < 4 → ¬ In ds p j → c = false) :
    AnsB W 14 #[.slice A ds.length C, ixV p] (.bool c) := by
  intro w hw
  have hlen := hZ.len
  rw [ints_len] at hlen
  have HY : Hid ((∀ j, j < 4 → In ds p j) → c = true) := hyes
  have HN : Hid (∀ j, j < 4 → ¬ In ds p j → c = false) := hno
  obtain ⟨L, hL⟩ : ∃ L, ds.length = L := ⟨_, rfl⟩
  have HL : Hid (ds.length = L) := hL
  rw [hL] at hlen ⊢
  clear hyes hno hL
  unfold ixV
  go_enter Try.func14, Try.ntmps14
  go_wp2
  go_loopw [8] (fun v wr => ∃ k : Nat, v = .int .i64 k ∧ k ≤ 4 ∧ Hid (∀ j, j < k → In ds p j) ∧ Below w.heap.size w wr) (fun v _ => 4 - (intOf v).toNat)
  case atStart => exact ⟨0, rfl, by omega, fun j hj => absurd hj (by omega), below_alloc _ _⟩
  case round =>
    obtain ⟨k, rfl, hk, HI, hB⟩ := hrel
    have hBW : Below W.heap.size W wr := hw.trans (hB.mono hw.size)
    by_cases hlt : k < 4
    · have hix := rindex_at p hlt
      have hlt' : (k : Int) < 4 := by omega
      have HI' : In ds p k → Hid (∀ j, j < k + 1 → In ds p j) := fun hin j hj => by
        by_cases h : j < k
        · exact HI.out j h
        · obtain rfl : j = k := by omega
          exact hin
      by_cases hkl : k < L
      · obtain ⟨d, hd⟩ : ∃ d, ds[k]? = some d := ⟨_, List.getElem?_eq_getElem (by rw [HL.out]; exact hkl)⟩
        obtain ⟨b, o, rfl, hb, c0⟩ := hZ.nat hd
        have c0' := ((bcell hBW).1 b (o + k) hb).trans c0
        have hkl1 : (k : Int) < (L : Int) := by omega
        have hkl2 : ¬ (L : Int) ≤ (k : Int) := by omega
        have hln := ln_in hd
        clear c0 hd
        by_cases hneg : p k < 0
        · have HE : Hid (c = false) := HN.out k hlt fun h => by unfold In at h; omega
          clear HI HI' hln
          go_wp2
          go_ret
          exact ⟨ret_b HE.out.symm, hB⟩
        · by_cases hbig : (d : Int) ≤ p k
          · have HE : Hid (c = false) := HN.out k hlt fun h => by unfold In at h; omega
            clear HI HI' hln
            go_wp2
            go_ret
            exact ⟨ret_b HE.out.symm, hB⟩
          · have HI2 := HI' ⟨by omega, by omega⟩
            clear HI HI' hln
            go_wp2
            go_roundw
            case rel => exact ⟨k + 1, by go_num, by omega, HI2.out, hB⟩
            case measure => simp [intOf]; omega
      · have hkl1 : ¬ (k : Int) < (L : Int) := by omega
        have hkl2 : (L : Int) ≤ (k : Int) := by omega
        have hln := ln_out (ds := ds) (k := k) (by rw [HL.out]; omega)
        by_cases hz : p k = 0
        · have HI2 := HI' ⟨by omega, by omega⟩
          clear HI HI' hln
          go_wp2
          go_roundw
          case rel => exact ⟨k + 1, by go_num, by omega, HI2.out, hB⟩
          case measure => simp [intOf]; omega
        · have HE : Hid (c = false) := HN.out k hlt fun h => by unfold In at h; omega
          clear HI HI' hln
          go_wp2
          go_ret
          exact ⟨ret_b HE.out.symm, hB⟩
    · obtain rfl : k = 4 := by omega
      have HE : Hid (c = true) := HY.out HI.out
      clear HI
      go_wp2
      go_ret
      exact ⟨ret_b HE.out.symm, hB⟩

theorem four_cells (w : World) (t : TypeId) (p : Nat → Int) {k : Nat} (hk : k < 4) : (w.alloc (.cells #[.int .i64 (p 0), .int .i64 (p 1), .int .i64 (p 2), .int .i64 (p 3)] t)).cell? ⟨w.heap.size, k, none⟩ = some (.int .i64 (p k)) := by
  rw [World.cell?_alloc_at _ _ _ _ rfl]
  match k, hk with
  | 0, _ => rfl
  | 1, _ => rfl
  | 2, _ => rfl
  | 3, _ => rfl

set_option maxHeartbeats 4000000 in
/-- The document's Number of an index. -/
theorem rnumber_any (W : World) (A : Option Addr) (C : Nat) (ds : List Nat) (hS : Shp ds) (hZ : ZAt W A C (ints ds)) (i : Nat → Nat) (hi : ∀ j, j < 4 → i j < ln ds j) :
    AnsB W 15 #[.slice A ds.length C, ixV fun j => (i j : Int)] (.int .i64 (hor ds i 4 : Int)) := by
  intro w hw
  have hlen := hZ.len
  rw [ints_len] at hlen
  have HSt := fun k hk => stride_any W A C ds hS hZ k hk
  have h4 := hS.few
  have HM : Hid (sm ds i ds.length = hor ds i 4) := sm_hor hS hi
  have HLe : Hid (∀ k, k ≤ ds.length → sm ds i k < 4096) := fun k hk => sm_le hS hi hk
  have hcell := fun k (hk : k < 4) => four_cells w 32 (fun j => (i j : Int)) hk
  obtain ⟨V, hV⟩ : ∃ V, w.alloc (.cells #[.int .i64 (i 0 : Int), .int .i64 (i 1 : Int), .int .i64 (i 2 : Int), .int .i64 (i 3 : Int)] 32) = V := ⟨_, rfl⟩
  have hBV : Below w.heap.size w V := hV ▸ below_alloc _ _
  have hsz : w.heap.size < V.heap.size := by rw [← hV]; simp
  simp only [hV] at hcell
  have hWV := hw.trans (hBV.mono hw.size)
  generalize ds.length = L at *
  clear hZ hS hi
  unfold ixV
  go_enter Try.func15, Try.ntmps15
  go_wp2
  go_loopw [5, 9] (fun x v wr => ∃ k n : Nat, x = .int .i64 (sm ds i k : Int) ∧ v = .int .i64 k ∧ k ≤ L ∧ wr = V.drewN n) (fun _ v _ => L - (intOf v).toNat)
  case atStart => exact ⟨0, 0, rfl, rfl, by omega, by first | rfl | exact hV⟩
  case round =>
    obtain ⟨k, n, rfl, rfl, hk, rfl⟩ := hrel
    by_cases hlt : k < L
    · have hlt' : (k : Int) < (L : Int) := by omega
      have HK := (HSt k hlt).toW hWV
      have hc := hcell k (by omega)
      have hb := HLe.out (k + 1) (by omega)
      obtain ⟨e, he⟩ : ∃ e, i k * strd ds k = e := ⟨_, rfl⟩
      have hstep : sm ds i (k + 1) = sm ds i k + e := by simp only [sm]; rw [he]
      rw [hstep] at hb
      have HX : Hid ((sm ds i (k + 1) : Int) = (sm ds i k : Int) + (e : Int)) := by unfold Hid; rw [hstep]; simp
      have hmi : (i k : Int) * (strd ds k : Int) = (e : Int) := by rw [← Int.natCast_mul, he]
      have hmw : wrap64 (e : Int) = (e : Int) := by unfold wrap64; omega
      have haw : wrap64 ((sm ds i k : Int) + (e : Int)) = (sm ds i k : Int) + (e : Int) := by unfold wrap64; omega
      have hk4 : (k : Int) < 4 := by omega
      clear hb he hstep hcell
      generalize sm ds i k = m at haw HX ⊢
      generalize strd ds k = d at HK hmi
      generalize i k = q at hc hmi
      go_wp2
      go_quiet (with_reducible exact HK.quiet)
      go_wp2
      go_roundw
      case rel => exact ⟨k + 1, _, by rw [HX.out]; first | rfl | (rw [haw]; try rw [haw]), by go_num, by omega, rfl⟩
      case measure => simp [intOf]; omega
    · obtain rfl : k = L := by omega
      have HE : Hid ((sm ds i k : Int) = (hor ds i 4 : Int)) := by unfold Hid; rw [HM.out]
      go_wp2
      go_ret
      exact ⟨ret_i64 HE.out, bb hBV (below_drewN _ _)⟩
end Go.Proofs.Ytfiblemandpfeaa

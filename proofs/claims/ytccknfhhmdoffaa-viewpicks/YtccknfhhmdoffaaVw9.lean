/-
  What hasEachOnce of a view answers. No condition but that the rows lie there.
-/
import Derived.Test.YtccknfhhmdoffaaVw7
namespace Go.Proofs.Ytccknfhhmdoffaa
set_option linter.unusedVariables false
open Go.RowKit

theorem ZAt.take {w : World} {A : Option Addr} {C : Nat} {zs : List Int} (h : ZAt w A C zs) (k : Nat) : ZAt w A C (zs.take k) := by
  refine ⟨by have := h.cap; have := List.length_take_le' k zs; omega, h.max, fun i z hz => ?_⟩
  refine h.get i z ?_
  rw [List.getElem?_take] at hz
  split at hz
  · exact hz
  · cases hz
/-- Each axis once. -/
def Eo (L : Nat) (xs : List Int) : Prop := (∀ x ∈ xs, axB L x = true) ∧ xs.Nodup
def eoB (L : Nat) (xs : List Int) : Bool := decide (xs.length = L ∧ (∀ x ∈ xs, axB L x = true) ∧ xs.Nodup)
theorem eo_next {L : Nat} {xs : List Int} {k : Nat} {x : Int} (h : Eo L (xs.take k)) (hx : xs[k]? = some x) (h1 : axB L x = true) (h2 : inB (xs.take k) x = false) : Eo L (xs.take (k + 1)) := by
  rw [take_snoc hx]
  refine ⟨fun y hy => ?_, ?_⟩
  · rcases List.mem_append.1 hy with hy | hy
    · exact h.1 y hy
    · simp at hy; subst hy; exact h1
  · refine List.nodup_append.2 ⟨h.2, by simp, fun a ha b hb => ?_⟩
    simp at hb; subst hb
    intro e; subst e
    simp [inB] at h2
    exact h2 ha
theorem eo_no1 {L : Nat} {xs : List Int} {k : Nat} {x : Int} (hx : xs[k]? = some x) (h1 : axB L x = false) : eoB L xs = false := by
  simp only [eoB, decide_eq_false_iff_not]
  rintro ⟨_, h, _⟩
  rw [h x (List.mem_of_getElem? hx)] at h1
  cases h1
theorem eo_no2 {L : Nat} {xs : List Int} {k : Nat} {x : Int} (hx : xs[k]? = some x) (h2 : inB (xs.take k) x = true) : eoB L xs = false := by
  simp only [eoB, decide_eq_false_iff_not]
  rintro ⟨_, _, h⟩
  have hm : x ∈ xs.take k := by simpa [inB] using h2
  have e : xs.take (k + 1) = xs.take k ++ [x] := take_snoc hx
  have h' : (xs.take (k + 1)).Nodup := h.sublist (List.take_sublist _ _)
  rw [e] at h'
  exact (List.nodup_append.1 h').2.2 x hm x (by simp) rfl
theorem eo_yes {L : Nat} {xs : List Int} (hl : xs.length = L) (h : Eo L (xs.take L)) : eoB L xs = true := by
  rw [← hl, List.take_length, hl] at h
  simp only [eoB, decide_eq_true_eq]
  exact ⟨hl, h⟩

set_option maxHeartbeats 1000000 in
theorem eachOnce_any (W : World) (o : Int) (A : Option Addr) (L C : Nat) (A' : Option Addr) (L' C' : Nat) (X : Option Addr) (CX : Nat) (xs : List Int) (hX : ZAt W X CX xs) :
    AnsB W 36 #[vw o A L C A' L' C', .slice X xs.length CX] (.bool (eoB L xs)) := by
  intro w hw
  have hlen := hX.len
  have hcap := hX.cap
  have hmax : CX ≤ 9223372036854775807 := by have := hX.max; unfold maxLen at this; omega
  have HXs := fun x => hasAxis_any W o A L C A' L' C' x
  have HCs := fun k x => contains_any W X CX (xs.take k) (hX.take k) x
  unfold vw at HXs ⊢
  obtain ⟨N, hN⟩ : ∃ N, xs.length = N := ⟨_, rfl⟩
  have HN : Hid (xs.length = N) := hN
  rw [hN] at hlen hcap ⊢
  clear hN
  have hB0 := below_alloc w (.cells #[.int .i64 o, .slice A L C, .slice A' L' C'] 28)
  have b0 := Blk.new w 28 #[.int .i64 o, .slice A L C, .slice A' L' C']
  by_cases hNL : (N : Int) = (L : Int)
  · obtain rfl : N = L := by omega
    go_enter Try.func36, Try.ntmps36
    go_wp2
    go_loopw [15] (fun v wr => ∃ k : Nat, v = .int .i64 k ∧ k ≤ N ∧ Hid (Eo N (xs.take k)) ∧ Blk wr w.heap.size 28 #[.int .i64 o, .slice A N C, .slice A' L' C'] ∧ Below w.heap.size w wr) (fun v _ => N - (intOf v).toNat)
    case atStart => exact ⟨0, rfl, by omega, ⟨by simp, by simp⟩, b0, hB0⟩
    case round =>
      obtain ⟨k, rfl, hk, HI, d0, hB⟩ := hrel
      clear b0 hB0
      by_cases hlt : k < N
      · obtain ⟨x, hx⟩ : ∃ x, xs[k]? = some x := ⟨_, List.getElem?_eq_getElem (by rw [HN.out]; exact hlt)⟩
        obtain ⟨b, q, rfl, hb, c0, _⟩ := hX.get k x hx
        have hBW := hw.trans (hB.mono hw.size)
        have c0' := ((bcell hBW).1 b (q + k) hb).trans c0
        have hkN : (k : Int) < (N : Int) := by omega
        have hkC : k ≤ CX := by omega
        have HX := HXs x
        have HC := HCs k x
        have hkl : (xs.take k).length = k := by rw [List.length_take, HN.out]; omega
        rw [hkl] at HC
        have D0 : Hid (Blk wr w.heap.size 28 #[.int .i64 o, .slice A N C, .slice A' L' C']) := d0
        have e0 : wr.cell? ⟨w.heap.size, 0, none⟩ = some (.int .i64 o) := d0.cell 0
        have e1 : wr.cell? ⟨w.heap.size, 1, none⟩ = some (.slice A N C) := d0.cell 1
        have e2 : wr.cell? ⟨w.heap.size, 2, none⟩ = some (.slice A' L' C') := d0.cell 2
        have HE : Hid (axB N x = true → inB (xs.take k) x = false → Eo N (xs.take (k + 1))) := fun h1 h2 => eo_next HI.out hx h1 h2
        have HF1 : Hid (axB N x = false → eoB N xs = false) := fun h1 => eo_no1 hx h1
        have HF2 : Hid (inB (xs.take k) x = true → eoB N xs = false) := fun h1 => eo_no2 hx h1
        clear d0 hx HI HXs HCs c0 hkl
        cases ha : axB N x with
        | false =>
          have HR : Hid (eoB N xs = false) := HF1.out ha
          rw [ha] at HX
          clear HF1 HF2 HE HC ha
          go_wp2_with (go_at_call 47; with_reducible refine AnsB.use HX hBW fun w2 hb2 => ?_)
          go_ret
          exact ⟨ret_b HR.out.symm, bthen hB (Nat.le_refl _) hb2⟩
        | true =>
          rw [ha] at HX
          cases hi : inB (xs.take k) x with
          | true =>
            have HR : Hid (eoB N xs = false) := HF2.out hi
            rw [hi] at HC
            clear HF1 HF2 HE ha hi
            go_wp2_with (first
              | (go_at_call 47; with_reducible refine AnsB.use HX hBW fun w2 hb2 => ?_; have hw2 := hBW.trans (hb2.mono hBW.size))
              | (go_at_call 48; with_reducible refine AnsQ.use HC hw2 ?_))
            go_ret
            exact ⟨ret_b HR.out.symm, bthen hB (Nat.le_refl _) hb2⟩
          | false =>
            have HR : Hid (Eo N (xs.take (k + 1))) := HE.out ha hi
            rw [hi] at HC
            clear HF1 HF2 HE ha hi
            go_wp2_with (first
              | (go_at_call 47; with_reducible refine AnsB.use HX hBW fun w2 hb2 => ?_; have hw2 := hBW.trans (hb2.mono hBW.size))
              | (go_at_call 48; with_reducible refine AnsQ.use HC hw2 ?_))
            go_roundw
            case rel => exact ⟨k + 1, by go_num, by omega, HR, D0.out.below hb2, bthen hB (Nat.le_refl _) hb2⟩
            case measure => simp [intOf]; omega
      · obtain rfl : k = N := by omega
        have HR : Hid (eoB k xs = true) := eo_yes HN.out HI.out
        clear HI HXs HCs
        go_wp2
        go_ret
        exact ⟨ret_b HR.out.symm, hB⟩
  · have HR : Hid (eoB L xs = false) := by
      unfold Hid; simp only [eoB, decide_eq_false_iff_not]; rintro ⟨h, _⟩; rw [HN.out] at h; omega
    clear HXs HCs
    go_enter Try.func36, Try.ntmps36
    go_wp2
    go_ret
    exact ⟨ret_b HR.out.symm, hB0⟩
end Go.Proofs.Ytccknfhhmdoffaa

/-
  What the document tells (alive) of layer 15, and what ints answers of two rows that are the same. No condition.
-/
import Derived.Test.YtpjfapibjihbbaaGreatDoorF44
namespace Go.Proofs.YtpjfapibjihbbaaGreatDoor
set_option linter.unusedVariables false
open Go.RowKit

theorem zsame_get {xs : List Int} {k : Nat} {x y : Int} (hx : xs[k]? = some x) (hy : xs[k]? = some y) : x = y := by rw [hx] at hy; exact Option.some.inj hy
set_option maxHeartbeats 1000000 in
theorem zsame_yes (W : World) (A : Option Addr) (C : Nat) (zs : List Int) (B : Option Addr) (D L : Nat) (hX : ZAt W A C zs) (hY : ZAt W B D zs) (hL : zs.length = L) : AnsB W 11 #[.slice A L C, .slice B L D] (.bool true) := by
  intro w hw
  have hlx := hX.len
  rw [hL] at hlx
  have HL : Hid (zs.length = L) := hL
  clear hL
  go_enter Tryz.func11, Tryz.ntmps11
  go_wp2
  go_loopw [13] (fun v wr => ∃ k : Nat, v = .int .i64 k ∧ k ≤ L ∧ Below w.heap.size w wr) (fun v _ => L - (intOf v).toNat)
  case atStart => exact ⟨0, rfl, by omega, Below.refl _ _⟩
  case round =>
    obtain ⟨k, rfl, hk, hB⟩ := hrel
    by_cases hlt : k < L
    · obtain ⟨x, hx⟩ : ∃ x, zs[k]? = some x := ⟨_, List.getElem?_eq_getElem (by rw [HL.out]; exact hlt)⟩
      obtain ⟨b, o, rfl, hb, c0, _⟩ := hX.get k x hx
      obtain ⟨b2, o2, rfl, hb2, d0, _⟩ := hY.get k x hx
      have hBW := hw.trans (hB.mono hw.size)
      have c0' := ((bcell hBW).1 b (o + k) hb).trans c0
      have d0' := ((bcell hBW).1 b2 (o2 + k) hb2).trans d0
      have HB : Hid (Below w.heap.size w wr) := hB
      have t1 : (x != x) = false := by simp
      clear c0 d0 hx hBW hB
      go_wp2
      go_region
      all_goals go_wp2
      all_goals go_roundw
      case rel => exact ⟨k + 1, by go_num, by omega, below_dN HB.out _⟩
      case measure => simp [intOf]; omega
    · obtain rfl : k = L := by omega
      go_wp2
      go_ret
      exact ⟨rfl, hB⟩
theorem lit_six (w : World) (a b c d e f : Nat) (ha : a ≤ 9) (hb : b ≤ 9) (hc : c ≤ 9) (hd : d ≤ 9) (he : e ≤ 9) (hf : f ≤ 9) :
    ZAt (w.alloc (.cells #[.int .i64 (a : Int), .int .i64 (b : Int), .int .i64 (c : Int), .int .i64 (d : Int), .int .i64 (e : Int), .int .i64 (f : Int)] 3)) (some ⟨w.heap.size, 0, none⟩) 6 (ints [a, b, c, d, e, f]) := by
  have h : ∀ k, (w.alloc (.cells #[.int .i64 (a : Int), .int .i64 (b : Int), .int .i64 (c : Int), .int .i64 (d : Int), .int .i64 (e : Int), .int .i64 (f : Int)] 3)).cell? ⟨w.heap.size, k, none⟩ = (#[Value.int .i64 (a : Int), .int .i64 (b : Int), .int .i64 (c : Int), .int .i64 (d : Int), .int .i64 (e : Int), .int .i64 (f : Int)] : Array Value)[k]? := fun k => by rw [World.cell?_alloc_at _ _ _ _ rfl]
  refine ⟨Nat.le_refl _, by unfold maxLen; omega, fun i x hx => ⟨w.heap.size, 0, rfl, by simp, ?_, ?_⟩⟩
  · rw [Nat.zero_add, h]
    match i, hx with
    | 0, hx => cases hx; rfl
    | 1, hx => cases hx; rfl
    | 2, hx => cases hx; rfl
    | 3, hx => cases hx; rfl
    | 4, hx => cases hx; rfl
    | 5, hx => cases hx; rfl
    | i + 6, hx => simp [ints] at hx
  · match i, hx with
    | 0, hx => cases hx; exact i64_small (by omega)
    | 1, hx => cases hx; exact i64_small (by omega)
    | 2, hx => cases hx; exact i64_small (by omega)
    | 3, hx => cases hx; exact i64_small (by omega)
    | 4, hx => cases hx; exact i64_small (by omega)
    | 5, hx => cases hx; exact i64_small (by omega)
    | i + 6, hx => simp [ints] at hx
theorem NewRow.useL {W : World} {f : FuncId} {args : Array Value} {l : List Int} {n : Nat} (h : NewRow W f args l) (hl : l.length = n) {w : World} (hw : Below W.heap.size W w) {R : Ending → World → Prop} (k : ∀ A1 C1 w', ZAt w' A1 C1 l → Below w.heap.size w w' → R (.returned (.slice A1 n C1)) w') : Calls Tryz.prog f args w R := by
  subst hl
  exact h.use hw k
set_option maxHeartbeats 1000000 in
theorem alive15_walk (W : World)
    (HI : ∀ (w : World) {R : Ending → World → Prop}, Below W.heap.size W w → (∀ A C w', ZAt w' A C (ints [0, 2, 4, 3, 5, 1]) → Below w.heap.size w w' → R (.returned (.slice A 6 C)) w') → Calls Tryz.prog 12 #[.int .i64 2, .int .i64 3] w R)
    (HO : ∀ (w : World) {R : Ending → World → Prop}, Below W.heap.size W w → (∀ A C w', ZAt w' A C (ints [0, 4, 2, 3, 1, 5]) → Below w.heap.size w w' → R (.returned (.slice A 6 C)) w') → Calls Tryz.prog 13 #[.int .i64 2, .int .i64 3] w R)
    (HV : ∀ (W : World) (A : Option Addr) (C : Nat) {R : Ending → World → Prop}, ZAt W A C (ints [0, 2, 4, 3, 5, 1]) → (∀ w', Below W.heap.size W w' → R (.returned (.bool true)) w') →
      Calls Tryz.prog 11 #[.slice A 6 C, .slice (some ⟨W.heap.size, 0, none⟩) 6 6] (W.alloc (.cells #[.int .i64 0, .int .i64 2, .int .i64 4, .int .i64 3, .int .i64 5, .int .i64 1] 3)) R)
    (HV2 : ∀ (W : World) (A : Option Addr) (C : Nat) {R : Ending → World → Prop}, ZAt W A C (ints [0, 4, 2, 3, 1, 5]) → (∀ w', Below W.heap.size W w' → R (.returned (.bool true)) w') →
      Calls Tryz.prog 11 #[.slice A 6 C, .slice (some ⟨W.heap.size, 0, none⟩) 6 6] (W.alloc (.cells #[.int .i64 0, .int .i64 4, .int .i64 2, .int .i64 3, .int .i64 1, .int .i64 5] 3)) R)
    (HF : Ans 14 #[.int .i64 6, .int .i64 2] (.bool true)) : AnsB W 5 #[] (.bool true) := by
  intro w hw
  go_enter Tryz.func5, Tryz.ntmps5
  go_wp2_with (first
    | (go_at_call 12; with_reducible refine HI _ hw fun A1 C1 w1 hZ1 hb1 => ?_; have hw1 := bb hw hb1)
    | (go_at_call 11; with_reducible refine HV _ _ _ hZ1 fun w2 hb2 => ?_; have hw2 := bb hw1 hb2)
    | (go_at_call 13; with_reducible refine HO _ hw2 fun A3 C3 w3 hZ3 hb3 => ?_; have hw3 := bb hw2 hb3)
    | (go_at_call 11; with_reducible refine HV2 _ _ _ hZ3 fun w4 hb4 => ?_; have hw4 := bb hw3 hb4)
    | (go_at_call 14; with_reducible refine Ans.use HF _ fun n5 => ?_))
  go_ret
  exact ⟨rfl, bb hb1 (bb hb2 (bb hb3 (bb hb4 (below_drewN _ _))))⟩
theorem tab23 : Tab 2 3 := ⟨by omega, by omega, by omega, by decide⟩
theorem alive15 (W : World) : AnsB W 5 #[] (.bool true) := by
  have e1 : inL 2 3 = [0, 2, 4, 3, 5, 1] := by decide
  have e2 : ouL 2 3 = [0, 4, 2, 3, 1, 5] := by decide
  refine alive15_walk W (fun w R hw k => ?_) (fun w R hw k => ?_) (fun W A C R hU k => ?_) (fun W A C R hU k => ?_) ?_
  · have h := in_yes W tab23
    rw [e1] at h
    exact NewRow.useL h rfl hw k
  · have h := out_yes W tab23
    rw [e2] at h
    exact NewRow.useL h rfl hw k
  · have hB := below_alloc W (.cells #[.int .i64 0, .int .i64 2, .int .i64 4, .int .i64 3, .int .i64 5, .int .i64 1] 3)
    exact AnsB.use (zsame_yes _ A C _ _ 6 6 (hU.below hB) (lit_six W 0 2 4 3 5 1 (by omega) (by omega) (by omega) (by omega) (by omega) (by omega)) rfl) (Below.refl _ _) fun w' hb => k w' (bb hB hb)
  · have hB := below_alloc W (.cells #[.int .i64 0, .int .i64 4, .int .i64 2, .int .i64 3, .int .i64 1, .int .i64 5] 3)
    exact AnsB.use (zsame_yes _ A C _ _ 6 6 (hU.below hB) (lit_six W 0 4 2 3 1 5 (by omega) (by omega) (by omega) (by omega) (by omega) (by omega)) rfl) (Below.refl _ _) fun w' hb => k w' (bb hB hb)
  · exact (cfit_any 6 2 (by omega)).to (by rw [show fitQ 6 2 = true by decide])
end Go.Proofs.YtpjfapibjihbbaaGreatDoor

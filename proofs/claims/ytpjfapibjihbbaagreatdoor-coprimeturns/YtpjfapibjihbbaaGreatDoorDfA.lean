/-
  What the document tells (alive) of layer 11, and what same and fit answer, for its statements. No condition.
-/
import Derived.Test.YtpjfapibjihbbaaGreatDoorF33
import Derived.Test.YtpjfapibjihbbaaGreatDoorF26
import Derived.Test.YtpjfapibjihbbaaGreatDoorF18
namespace Go.Proofs.YtpjfapibjihbbaaGreatDoor
set_option linter.unusedVariables false
open Go.RowKit

/-! ### same -/
theorem same_get {xs ys : List Nat} {k : Nat} (hl : xs.length = ys.length) (h : xs.take k = ys.take k) {x y : Nat} (hx : xs[k]? = some x) (hy : ys[k]? = some y) (e : x = y) : xs.take (k + 1) = ys.take (k + 1) := by
  rw [List.take_add_one, List.take_add_one, hx, hy, h, e]
set_option maxHeartbeats 1000000 in
theorem same_any (W : World) (A : Option Addr) (C : Nat) (xs : List Nat) (B : Option Addr) (D : Nat) (ys : List Nat) (hX : UAt W A C xs) (hY : UAt W B D ys) : AnsB W 8 #[.slice A xs.length C, .slice B ys.length D] (.bool (decide (xs = ys))) := by
  intro w hw
  have hlx := hX.len
  obtain ⟨L, hL⟩ : ∃ L, xs.length = L := ⟨_, rfl⟩
  obtain ⟨M, hM⟩ : ∃ M, ys.length = M := ⟨_, rfl⟩
  have HL : Hid (xs.length = L) := hL
  have HM : Hid (ys.length = M) := hM
  rw [hL] at hlx
  rw [hL, hM]
  clear hL hM
  by_cases hLM : L = M
  · subst hLM
    go_enter Tryz.func8, Tryz.ntmps8
    go_wp2
    go_loopw [13] (fun v wr => ∃ k : Nat, v = .int .i64 k ∧ k ≤ L ∧ Hid (xs.take k = ys.take k) ∧ Below w.heap.size w wr) (fun v _ => L - (intOf v).toNat)
    case atStart => exact ⟨0, rfl, by omega, rfl, Below.refl _ _⟩
    case round =>
      obtain ⟨k, rfl, hk, HI, hB⟩ := hrel
      by_cases hlt : k < L
      · obtain ⟨x, hx⟩ : ∃ x, xs[k]? = some x := ⟨_, List.getElem?_eq_getElem (by rw [HL.out]; exact hlt)⟩
        obtain ⟨y, hy⟩ : ∃ y, ys[k]? = some y := ⟨_, List.getElem?_eq_getElem (by rw [HM.out]; exact hlt)⟩
        obtain ⟨b, o, rfl, hb, c0, _⟩ := hX.get k x hx
        obtain ⟨b2, o2, rfl, hb2, d0, _⟩ := hY.get k y hy
        have hBW := hw.trans (hB.mono hw.size)
        have c0' := ((bcell hBW).1 b (o + k) hb).trans c0
        have d0' := ((bcell hBW).1 b2 (o2 + k) hb2).trans d0
        have HB : Hid (Below w.heap.size w wr) := hB
        by_cases he : x = y
        · have HS : Hid (xs.take (k + 1) = ys.take (k + 1)) := same_get (by rw [HL.out, HM.out]) HI.out hx hy he
          have t1 : ((x : Int) != (y : Int)) = false := by simp [he]
          have t2 : ¬ (x : Int) ≠ (y : Int) := by simp [he]
          subst he
          clear c0 d0 hx hy HI hBW hB
          go_wp2
          go_region
          all_goals go_wp2
          all_goals go_roundw
          case rel => exact ⟨k + 1, by go_num, by omega, HS, below_dN HB.out _⟩
          case measure => simp [intOf]; omega
        · have HR : Hid (decide (xs = ys) = false) := by
            unfold Hid; rw [decide_eq_false_iff_not]; intro e; rw [e, hy] at hx; cases hx; exact he rfl
          have t1 : ((x : Int) != (y : Int)) = true := by simp; omega
          have t2 : ¬ (x : Int) = (y : Int) := by omega
          clear c0 d0 hx hy HI hBW hB he
          go_wp2
          go_region
          all_goals go_wp2
          all_goals go_ret
          all_goals exact ⟨ret_b HR.out.symm, below_dN HB.out _⟩
      · obtain rfl : k = L := by omega
        have HR : Hid (decide (xs = ys) = true) := by
          unfold Hid; rw [decide_eq_true_iff]; have := HI.out
          rw [← HL.out, List.take_length, HL.out, ← HM.out, List.take_length] at this
          exact this
        clear HI
        go_wp2
        go_ret
        exact ⟨ret_b HR.out.symm, hB⟩
  · have HR : Hid (decide (xs = ys) = false) := by
      unfold Hid; rw [decide_eq_false_iff_not]; intro e; apply hLM; rw [← HL.out, ← HM.out, e]
    have t1 : ¬ (L : Int) = (M : Int) := by omega
    go_enter Tryz.func8, Tryz.ntmps8
    go_wp2
    go_ret
    exact ⟨ret_b HR.out.symm, Below.refl _ _⟩
/-- .. of two that are the same, their lengths letters. -/
theorem same_yes {W : World} {A : Option Addr} {C : Nat} {B : Option Addr} {D : Nat} {xs : List Nat} {n : Nat} (hX : UAt W A C xs) (hY : UAt W B D xs) (hl : xs.length = n) : AnsB W 8 #[.slice A n C, .slice B n D] (.bool true) := by
  have := same_any W A C xs B D xs hX hY
  rw [decide_eq_true rfl, hl] at this
  exact this

/-! ### alive -/
theorem lit_words (w : World) (a b c d : Nat) (ha : a < 18446744073709551616) (hb : b < 18446744073709551616) (hc : c < 18446744073709551616) (hd : d < 18446744073709551616) : UAt (w.alloc (.cells #[.int .u64 (a : Int), .int .u64 (b : Int), .int .u64 (c : Int), .int .u64 (d : Int)] 22)) (some ⟨w.heap.size, 0, none⟩) 4 [a, b, c, d] := by
  obtain ⟨t0, t1, t2, t3⟩ := four_cells w (.int .u64 (a : Int)) (.int .u64 (b : Int)) (.int .u64 (c : Int)) (.int .u64 (d : Int)) 22
  refine ⟨fun h => (by cases h), Nat.le_refl _, by unfold maxLen; omega, fun i x hx => ⟨w.heap.size, 0, rfl, by simp, ?_, ?_⟩⟩
  · rw [Nat.zero_add]
    match i, hx with
    | 0, hx => cases hx; exact t0
    | 1, hx => cases hx; exact t1
    | 2, hx => cases hx; exact t2
    | 3, hx => cases hx; exact t3
    | i + 4, hx => simp at hx
  · match i, hx with
    | 0, hx => cases hx; exact ha
    | 1, hx => cases hx; exact hb
    | 2, hx => cases hx; exact hc
    | 3, hx => cases hx; exact hd
    | i + 4, hx => simp at hx
theorem gen5 : genOf 5 = 2 := by
  obtain ⟨h1, h2, h3, h4⟩ := genOf_spec odd5
  have g2 : GenP 2 5 := by
    intro q hq
    obtain ⟨pq, dq⟩ := (mem_pf (by omega)).1 hq
    have h5 := pq.1
    have h6 := Nat.le_of_dvd (by omega) dq
    have key : ∀ q, q < 5 → 2 ≤ q → 2 ^ ((5 - 1) / q) % 5 ≠ 1 := by
      have hp := pq
      intro q hq h2
      have : q = 2 ∨ q = 3 ∨ q = 4 := by omega
      rcases this with rfl | rfl | rfl <;> decide
    exact key q (by omega) h5
  by_cases e3 : 2 < genOf 5
  · exact absurd g2 (h4 2 (by omega) e3)
  · omega
theorem fld5 : Fld (enOf 5) := small_fld odd5
theorem root5 : twR (enOf 5) 4 false = 2 := by
  show rootN 5 (genOf 5) 4 = 2
  rw [gen5]; rfl
theorem p5 : (enOf 5).p = 5 := rfl
theorem dT5 : dT (enOf 5) false [1, 2, 3, 4] = [0, 4, 3, 2] := by
  have e : ∀ k, dV (enOf 5) false [1, 2, 3, 4] k = tS 2 4 (atL [1, 2, 3, 4]) k % 5 := fun k => by
    unfold dV
    rw [if_neg (by decide)]
    show tS (twR (enOf 5) 4 false) 4 _ k % 5 = _
    rw [root5]
  show (List.range 4).map (dV (enOf 5) false [1, 2, 3, 4]) = _
  rw [show (List.range 4).map (dV (enOf 5) false [1, 2, 3, 4]) = (List.range 4).map (fun k => tS 2 4 (atL [1, 2, 3, 4]) k % 5) from List.map_congr_left fun k _ => e k]
  decide
/-! ### fit -/
/-! ### fit: walks -/
end Go.Proofs.YtpjfapibjihbbaaGreatDoor

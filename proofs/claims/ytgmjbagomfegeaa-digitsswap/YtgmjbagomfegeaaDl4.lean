/-
  DigitsSwap walked: Swap changes the list itself as the document says, by all tables that have each number once; by others it leaves it as it is. No condition but that the rows lie there.
-/
import Derived.Test.YtgmjbagomfegeaaDl3
namespace Go.Proofs.Ytgmjbagomfegeaa
set_option linter.unusedVariables false
open Go.RowKit

theorem swap_many (W : World) (A : Option Addr) (C M : Nat) (B : Option Addr) (D L : Nat) (h : 300 < M ∨ 300 < L) : AnsB W 6 #[.slice A M C, .slice B L D] (.bool true) := by
  intro w hw
  have HA := alive_any W
  by_cases h1 : 300 < M
  · have h2 : (300 : Int) < (M : Int) := by omega
    have h3 : decide ((300 : Int) < (M : Int)) = true := by simpa using h2
    clear h
    go_enter Try.func6, Try.ntmps6
    go_wp2_with (go_at_call 8; with_reducible refine AnsB.use HA hw fun w1 hb1 => ?_)
    go_ret
    exact ⟨rfl, hb1⟩
  · have h2 : ¬ (300 : Int) < (M : Int) := by omega
    have h3 : decide ((300 : Int) < (M : Int)) = false := by simpa using h2
    have h4 : (300 : Int) < (L : Int) := by omega
    have h5 : decide ((300 : Int) < (L : Int)) = true := by simpa using h4
    clear h
    go_enter Try.func6, Try.ntmps6
    go_wp2_with (go_at_call 8; with_reducible refine AnsB.use HA hw fun w1 hb1 => ?_)
    go_ret
    exact ⟨rfl, hb1⟩
set_option maxHeartbeats 1000000 in
/-- By no table. -/
theorem swap_not (W : World) (A : Option Addr) (C : Nat) (xs : List Nat) (hX : UAt W A C xs) (B : Option Addr) (D : Nat) (zs : List Int) (hZ : ZAt W B D zs) (h1 : ¬ 300 < xs.length) (h2 : ¬ 300 < zs.length) (he : evB xs.length zs = false) : AnsB W 6 #[.slice A xs.length C, .slice B zs.length D] (.bool true) := by
  intro w hw
  have HA := alive_any W
  have HOn := once_any W B D zs hZ
  have HX : Hid (UAt W A C xs ∧ xs.length * 8 ≤ 140737488355328) := ⟨hX, by omega⟩
  have HSm : Hid (∀ w2 A' C', Below W.heap.size W w2 → UAt w2 A' C' xs → AnsB w2 16 #[.slice A' xs.length C', .slice A xs.length C] (.bool true)) := fun w2 A' C' hw hx => same_self hX w2 A' C' hw hx
  have HSmall : Hid (∀ x ∈ xs, x < 18446744073709551616) := hX.small
  have HSw : Hid (∀ w2 A' C', Below W.heap.size W w2 → AnsB w2 17 #[.slice A' xs.length C', .slice B zs.length D] (.bool false)) := fun w2 A' C' hw => swap_no w2 A' C' xs.length B D zs (hZ.below hw) (by omega) he
  obtain ⟨M, hM⟩ : ∃ M, xs.length = M := ⟨_, rfl⟩
  have HM : Hid (xs.length = M) := hM
  obtain ⟨L, hL⟩ : ∃ L, zs.length = L := ⟨_, rfl⟩
  rw [hM] at he h1 HSm HSw ⊢
  rw [hL] at h2 HOn HSw ⊢
  have g1 : ¬ (300 : Int) < (M : Int) := by omega
  have d1 : decide ((300 : Int) < (M : Int)) = false := by simpa using g1
  have g2 : ¬ (300 : Int) < (L : Int) := by omega
  have d2 : decide ((300 : Int) < (L : Int)) = false := by simpa using g2
  by_cases hML : L = M
  · subst hML
    rw [he] at HOn
    have g3 : ((L : Int) != (L : Int)) = false := by simp
    clear he hX hZ h1 h2 hM hL
    go_enter Try.func6, Try.ntmps6
    go_wp2_with (first
      | (go_at_call 8; (with_reducible refine AnsB.use HA hw fun w1 hb1 => ?_); have hw1 := hw.trans (hb1.mono hw.size))
      | (at_builtin; refine Hid.out ?_))
    unfold Hid
    refine wp_copy HX.out.1 hw1 HX.out.2 rfl _ _ rfl rfl (by rw [HM.out]; rfl) ?_
    intro A' C' w2 hO2 hB2
    have hw2 := hw1.trans (hB2.mono hw1.size)
    have hU2 := hO2.words HSmall.out
    have HS2 := HSm.out w2 A' C' hw2 hU2
    have HW2 := HSw.out w2 A' C' hw2
    rw [HM.out]
    clear HSw HSm hO2 hU2 HA
    go_wp2_with (first
      | (go_at_call 17; (with_reducible refine AnsB.use HW2 (Below.refl _ _) fun w3 hb3 => ?_); have hw3 := hw2.trans (hb3.mono hw2.size))
      | (go_at_call 16; (with_reducible refine AnsB.use HS2 hb3 fun w4 hb4 => ?_))
      | (go_at_call 18; with_reducible refine AnsQ.use HOn hw3 ?_))
    go_ret
    exact ⟨rfl, bb (bb hb1 hB2) (bb hb3 hb4)⟩
  · have g3 : ((M : Int) != (L : Int)) = true := by simp; omega
    have g4 : ¬ (M : Int) = (L : Int) := by omega
    clear he hX hZ h1 h2 hM hL hML HOn
    go_enter Try.func6, Try.ntmps6
    go_wp2_with (first
      | (go_at_call 8; (with_reducible refine AnsB.use HA hw fun w1 hb1 => ?_); have hw1 := hw.trans (hb1.mono hw.size))
      | (at_builtin; refine Hid.out ?_))
    unfold Hid
    refine wp_copy HX.out.1 hw1 HX.out.2 rfl _ _ rfl rfl (by rw [HM.out]; rfl) ?_
    intro A' C' w2 hO2 hB2
    have hw2 := hw1.trans (hB2.mono hw1.size)
    have hU2 := hO2.words HSmall.out
    have HS2 := HSm.out w2 A' C' hw2 hU2
    have HW2 := HSw.out w2 A' C' hw2
    rw [HM.out]
    clear HSw HSm hO2 hU2 HA
    go_wp2_with (first
      | (go_at_call 17; (with_reducible refine AnsB.use HW2 (Below.refl _ _) fun w3 hb3 => ?_))
      | (go_at_call 16; (with_reducible refine AnsB.use HS2 hb3 fun w4 hb4 => ?_)))
    go_ret
    exact ⟨rfl, bb (bb hb1 hB2) (bb hb3 hb4)⟩
set_option maxHeartbeats 2000000 in
/-- By a table. -/
theorem swap_ok (W : World) (A : Option Addr) (C : Nat) (xs : List Nat) (hX : UAt W A C xs) (B : Option Addr) (D : Nat) (zs : List Int) (hZ : ZAt W B D zs) (h1 : ¬ 300 < xs.length) (he : evB xs.length zs = true) : AnsB W 6 #[.slice A xs.length C, .slice B zs.length D] (.bool true) := by
  intro w hw
  have HEv := ev_iff.1 he
  have hZl : zs.length = xs.length := HEv.1
  have HA := alive_any W
  have HOn := once_any W B D zs hZ
  have HX : Hid (UAt W A C xs ∧ xs.length * 8 ≤ 140737488355328) := ⟨hX, by omega⟩
  have HSmall : Hid (∀ x ∈ xs, x < 18446744073709551616) := hX.small
  have HSw : Hid (∀ w1 w2 A' C', Below W.heap.size W w1 → Below w1.heap.size w1 w2 → OwnU w2 w1.heap.size A' C' xs → ∀ R : Ending → World → Prop, (∀ w3, UAt w3 A' C' (sw xs zs xs.length) → Below w1.heap.size w1 w3 → R (.returned (.bool true)) w3) → Calls Try.prog 17 #[.slice A' xs.length C', .slice B zs.length D] w2 R) := fun w1 w2 A' C' hw1 hw2 hO R k => by
    refine (swap_yes w1 B D zs (hZ.below hw1) w2 hw2 A' C' xs hO (by omega) hX.small he).mono ?_
    rintro e w3 ⟨rfl, h3, h4⟩
    exact k w3 (h3.words (sw_small hX.small)) h4
  have HG : Hid (∀ k, k < xs.length → ∃ p x : Nat, zs[k]? = some (p : Int) ∧ xs[p]? = some x ∧ (sw xs zs xs.length)[k]? = some x ∧ p < xs.length) := fun k hk => by
    obtain ⟨z, hz⟩ : ∃ z, zs[k]? = some z := ⟨_, List.getElem?_eq_getElem (by omega)⟩
    have hb := HEv.2.1 z (List.mem_of_getElem? hz)
    obtain ⟨p, rfl⟩ := Int.eq_ofNat_of_zero_le hb.1
    have hx : xs[p]? = some _ := List.getElem?_eq_getElem (show p < xs.length by omega)
    exact ⟨p, _, hz, hx, sw_at hZl hz hx, by omega⟩
  rw [hZl] at HOn HSw ⊢
  rw [he] at HOn
  obtain ⟨ys, hys⟩ : ∃ ys, sw xs zs xs.length = ys := ⟨_, rfl⟩
  rw [hys] at HSw HG
  obtain ⟨M, hM⟩ : ∃ M, xs.length = M := ⟨_, rfl⟩
  have HM : Hid (xs.length = M) := hM
  rw [hM] at h1 HOn HSw HG ⊢
  have g1 : ¬ (300 : Int) < (M : Int) := by omega
  have d1 : decide ((300 : Int) < (M : Int)) = false := by simpa using g1
  have g3 : ((M : Int) != (M : Int)) = false := by simp
  have hlen : (M : Int) ≤ 9223372036854775807 := by omega
  clear he hX HEv h1 hM hZl hys
  go_enter Try.func6, Try.ntmps6
  go_wp2_with (first
    | (go_at_call 8; (with_reducible refine AnsB.use HA hw fun w1 hb1 => ?_); have hw1 := hw.trans (hb1.mono hw.size))
    | (at_builtin; refine Hid.out ?_))
  unfold Hid
  refine wp_copy HX.out.1 hw1 HX.out.2 rfl _ _ rfl rfl (by rw [HM.out]; rfl) ?_
  intro A' C' w2 hO2 hB2
  have HW2 := fun R => HSw.out w1 w2 A' C' hw1 hB2 hO2 R
  rw [HM.out]
  clear HSw hO2 HA
  go_wp2_with (first
    | (go_at_call 17; refine HW2 _ fun w3 hY3 hb3 => ?_; have hw3 := hw1.trans (hb3.mono hw1.size))
    | (go_at_call 18; with_reducible refine AnsQ.use HOn hw3 ?_))
  have HW3 : Hid (Below W.heap.size W w3) := hw3
  have HY3 : Hid (UAt w3 A' C' ys) := hY3
  have HB3 : Hid (Below w.heap.size w w3) := bb hb1 hb3
  clear HW2 HOn hY3 hb3 hw3 hB2 hw1 hb1
  go_loopw [44] (fun v wr => ∃ k : Nat, v = .int .i64 (k : Int) ∧ k ≤ M ∧ Hid (Below w3.heap.size w3 wr)) (fun v _ => M - (intOf v).toNat)
  case atStart => exact ⟨0, rfl, by omega, Below.refl _ _⟩
  case round =>
    obtain ⟨k, rfl, hk, HB⟩ := hrel
    have HWr : Hid (Below W.heap.size W wr) := HW3.out.trans (HB.out.mono HW3.out.size)
    by_cases hlt : k < M
    · obtain ⟨p, x, hz, hx, hy, hp⟩ := HG.out k hlt
      obtain ⟨b, o, rfl, hb, c0, _⟩ := hZ.get k (p : Int) hz
      have c0' := ((bcell HWr.out).1 b (o + k) hb).trans c0
      obtain ⟨b1, o1, rfl, hb1, c1, _⟩ := HX.out.1.get p x hx
      have c1' := ((bcell HWr.out).1 b1 (o1 + p) hb1).trans c1
      obtain ⟨b2, o2, rfl, hb2, c2, _⟩ := HY3.out.get k x hy
      have c2' := ((bcell HB.out).1 b2 (o2 + k) hb2).trans c2
      have e1 : ((x : Int) != (x : Int)) = false := by simp
      have hpi : (p : Int) < (M : Int) := by omega
      have HBn : ∀ j, Below w3.heap.size w3 (wr.drewN j) := fun j => below_dN HB.out j
      clear c0 c1 c2 hx hy hz
      go_wp2
      go_region
      all_goals go_wp2
      all_goals go_roundw
      case rel => exact ⟨k + 1, by go_num, by omega, HBn _⟩
      case measure => simp [intOf]; omega
    · obtain rfl : k = M := by omega
      have hBB : Below w.heap.size w wr := bb HB3.out HB.out
      go_wp2
      go_ret
      exact ⟨rfl, hBB⟩
theorem swap_law (W : World) (A : Option Addr) (C : Nat) (xs : List Nat) (hX : UAt W A C xs) (B : Option Addr) (D : Nat) (zs : List Int) (hZ : ZAt W B D zs) : AnsB W 6 #[.slice A xs.length C, .slice B zs.length D] (.bool true) := by
  by_cases h : 300 < xs.length ∨ 300 < zs.length
  · exact swap_many W A C xs.length B D zs.length h
  · cases he : evB xs.length zs with
    | true => exact swap_ok W A C xs hX B D zs hZ (by omega) he
    | false => exact swap_not W A C xs hX B D zs hZ (by omega) (by omega) he
end Go.Proofs.Ytgmjbagomfegeaa

/-
  DigitsOrder walked: Order answers the list that the document says, or which error; by the radices in the opposite order it is as it was. No condition but that the rows lie there.
-/
import Derived.Test.YtgmjbagomfegeaaDl2
namespace Go.Proofs.Ytgmjbagomfegeaa
set_option linter.unusedVariables false
open Go.RowKit

theorem UAt.none {w w' : World} {A : Option Addr} {C : Nat} {xs : List Nat} (h : UAt w A C xs) (hb : Below w.heap.size w w') : UAt w' A C xs := h.below hb
theorem order_many (W : World) (A : Option Addr) (C : Nat) (xs : List Nat) (hX : UAt W A C xs) (B : Option Addr) (D : Nat) (zs : List Int) (hZ : ZAt W B D zs) (h : 100 < zs.length ∨ 5000 < xs.length) : AnsB W 5 #[.slice A xs.length C, .slice B zs.length D] (.bool true) := by
  intro w hw
  have HA := alive_any W
  generalize zs.length = L at h ⊢
  generalize xs.length = M at h ⊢
  clear hZ hX
  by_cases h1 : 100 < L
  · have h2 : (100 : Int) < (L : Int) := by omega
    have h3 : decide ((100 : Int) < (L : Int)) = true := by simpa using h2
    clear h
    go_enter Try.func5, Try.ntmps5
    go_wp2_with (go_at_call 8; with_reducible refine AnsB.use HA hw fun w1 hb1 => ?_)
    go_ret
    exact ⟨rfl, hb1⟩
  · have h2 : ¬ (100 : Int) < (L : Int) := by omega
    have h3 : decide ((100 : Int) < (L : Int)) = false := by simpa using h2
    have h4 : (5000 : Int) < (M : Int) := by omega
    have h5 : decide ((5000 : Int) < (M : Int)) = true := by simpa using h4
    clear h
    go_enter Try.func5, Try.ntmps5
    go_wp2_with (go_at_call 8; with_reducible refine AnsB.use HA hw fun w1 hb1 => ?_)
    go_ret
    exact ⟨rfl, hb1⟩
theorem same_self {W : World} {A : Option Addr} {C : Nat} {xs : List Nat} (hX : UAt W A C xs) (w2 : World) (A' : Option Addr) (C' : Nat) (hw : Below W.heap.size W w2) (hX' : UAt w2 A' C' xs) : AnsB w2 16 #[.slice A' xs.length C', .slice A xs.length C] (.bool true) :=
  (same_any w2 A' C' xs A C xs hX' (hX.below hw)).to (by simp)
set_option maxHeartbeats 1000000 in
/-- What can't be. -/
theorem order_not (W : World) (A : Option Addr) (C : Nat) (xs : List Nat) (hX : UAt W A C xs) (B : Option Addr) (D : Nat) (zs : List Int) (hZ : ZAt W B D zs) (h1 : ¬ 100 < zs.length) (h2 : ¬ 5000 < xs.length) (he : rE zs ≠ 0 ∨ (xs.length : Int) ≠ rS zs) : AnsB W 5 #[.slice A xs.length C, .slice B zs.length D] (.bool true) := by
  intro w hw
  have HA := alive_any W
  have HR := rsize_any W B D zs hZ
  have HX : Hid (UAt W A C xs ∧ xs.length * 8 ≤ 140737488355328) := ⟨hX, by omega⟩
  have HSm : Hid (∀ w2 A' C', Below W.heap.size W w2 → UAt w2 A' C' xs → AnsB w2 16 #[.slice A' xs.length C', .slice A xs.length C] (.bool true)) := fun w2 A' C' hw hx => same_self hX w2 A' C' hw hx
  have HSmall : Hid (∀ x ∈ xs, x < 18446744073709551616) := hX.small
  obtain ⟨M, hM⟩ : ∃ M, xs.length = M := ⟨_, rfl⟩
  have HM : Hid (xs.length = M) := hM
  have g1 : ¬ (100 : Int) < (zs.length : Int) := by omega
  have d1 : decide ((100 : Int) < (zs.length : Int)) = false := by simpa using g1
  have g2 : ¬ (5000 : Int) < (M : Int) := by omega
  have d2 : decide ((5000 : Int) < (M : Int)) = false := by simpa using g2
  by_cases hz : rE zs = 0
  · have hn : (M : Int) ≠ rS zs := by rw [← hM]; exact he.resolve_left (fun h => h hz)
    have HO : Hid (∀ w2 A' C', Below W.heap.size W w2 → AnsQ w2 15 #[.slice A' M C', .slice B zs.length D] (.tuple #[.slice none 0 0, .int .i64 1])) := fun w2 A' C' hw => by
      have := order_len w2 A' C' xs B D zs (hZ.below hw) hz (by rw [hM]; exact hn)
      rw [hM] at this; exact this
    rw [hz] at HR
    rw [hM] at HSm ⊢
    generalize rS zs = s at HR hn
    generalize zs.length = L at HR HO g1 d1 ⊢
    have g3 : ((M : Int) != s) = true := by simpa using hn
    clear he hZ hX h1 h2 hM hz hn
    go_enter Try.func5, Try.ntmps5
    go_wp2_with (first
      | (go_at_call 8; (with_reducible refine AnsB.use HA hw fun w1 hb1 => ?_); have hw1 := hw.trans (hb1.mono hw.size))
      | (at_builtin; refine Hid.out ?_))
    unfold Hid
    refine wp_copy HX.out.1 hw1 HX.out.2 rfl _ _ rfl rfl (by rw [HM.out]; rfl) ?_
    intro A' C' w2 hO2 hB2
    have hw2 := hw1.trans (hB2.mono hw1.size)
    have hU2 := hO2.words HSmall.out
    have HO2 := HO.out w2 A' C' hw2
    have HS2 := HSm.out w2 A' C' hw2 hU2
    rw [HM.out]
    clear HO HSm hO2 hU2 HA
    go_wp2_with (first
      | (go_at_call 15; with_reducible refine AnsQ.use HO2 (Below.refl _ _) ?_)
      | (go_at_call 16; (with_reducible refine AnsB.use HS2 (Below.refl _ _) fun w3 hb3 => ?_); have hw3 := hw2.trans (hb3.mono hw2.size))
      | (go_at_call 10; with_reducible refine AnsQ.use HR hw3 ?_))
    go_ret
    exact ⟨rfl, bb (bb hb1 hB2) hb3⟩
  · have HO : Hid (∀ w2 A' C', Below W.heap.size W w2 → AnsQ w2 15 #[.slice A' M C', .slice B zs.length D] (.tuple #[.slice none 0 0, .int .i64 (rE zs)])) := fun w2 A' C' hw => by
      have := order_err w2 A' C' xs B D zs (hZ.below hw) hz
      rw [hM] at this; exact this
    rw [hM] at HSm ⊢
    generalize rS zs = s at HR
    generalize rE zs = e at HR HO hz
    generalize zs.length = L at HR HO g1 d1 ⊢
    have g3 : ¬ e = 0 := hz
    have g4 : (e == 0) = false := by simpa using hz
    have g5 : (e == e) = true := by simp
    clear he hZ hX h1 h2 hM hz
    go_enter Try.func5, Try.ntmps5
    go_wp2_with (first
      | (go_at_call 8; (with_reducible refine AnsB.use HA hw fun w1 hb1 => ?_); have hw1 := hw.trans (hb1.mono hw.size))
      | (at_builtin; refine Hid.out ?_))
    unfold Hid
    refine wp_copy HX.out.1 hw1 HX.out.2 rfl _ _ rfl rfl (by rw [HM.out]; rfl) ?_
    intro A' C' w2 hO2 hB2
    have hw2 := hw1.trans (hB2.mono hw1.size)
    have hU2 := hO2.words HSmall.out
    have HO2 := HO.out w2 A' C' hw2
    have HS2 := HSm.out w2 A' C' hw2 hU2
    rw [HM.out]
    clear HO HSm hO2 hU2 HA
    go_wp2_with (first
      | (go_at_call 15; with_reducible refine AnsQ.use HO2 (Below.refl _ _) ?_)
      | (go_at_call 16; (with_reducible refine AnsB.use HS2 (Below.refl _ _) fun w3 hb3 => ?_); have hw3 := hw2.trans (hb3.mono hw2.size))
      | (go_at_call 10; with_reducible refine AnsQ.use HR hw3 ?_))
    go_ret
    exact ⟨rfl, bb (bb hb1 hB2) hb3⟩
set_option maxHeartbeats 2000000 in
theorem order_ok (W : World) (A : Option Addr) (C : Nat) (xs : List Nat) (hX : UAt W A C xs) (B : Option Addr) (D : Nat) (rs : List Nat) (hZ : ZAt W B D (ints rs)) (hR : Rad rs) (hl : xs.length = pr rs) : AnsB W 5 #[.slice A xs.length C, .slice B rs.length D] (.bool true) := by
  intro w hw
  have HA := alive_any W
  have HR := rsize_any W B D (ints rs) hZ
  rw [(r_rad hR).1, (r_rad hR).2, ints_len] at HR
  have hmax := hR.max
  have hfew := hR.few
  have HRT := fun (j : Nat) (hj : j < xs.length) => rturn_any W B D rs hZ hR j (by omega)
  have HX : Hid (UAt W A C xs ∧ xs.length * 8 ≤ 140737488355328) := ⟨hX, by omega⟩
  have HSm : Hid (∀ w2 A' C', Below W.heap.size W w2 → UAt w2 A' C' xs → AnsB w2 16 #[.slice A' xs.length C', .slice A xs.length C] (.bool true)) := fun w2 A' C' hw hx => same_self hX w2 A' C' hw hx
  have HSmall : Hid (∀ x ∈ xs, x < 18446744073709551616) := hX.small
  have HO : Hid (∀ w2 A' C', Below W.heap.size W w2 → UAt w2 A' C' xs → ∀ R : Ending → World → Prop, (∀ A1 C1 w', UAt w' A1 C1 (ord rs xs) → Below w2.heap.size w2 w' → R (.returned (.tuple #[.slice A1 xs.length C1, .int .i64 0])) w') → Calls Try.prog 15 #[.slice A' xs.length C', .slice B rs.length D] w2 R) := fun w2 A' C' hw hx R k => by
    refine (order_yes w2 A' C' xs B D rs hx (hZ.below hw) hR hl).use (Below.refl _ _) fun A1 C1 w' h1 h2 => ?_
    rw [ord_len, ← hl]
    exact k A1 C1 w' h1 h2
  have HBk : Hid (∀ (w5 : World) A1 C1, Below W.heap.size W w5 → UAt w5 A1 C1 (ord rs xs) → ∀ R : Ending → World → Prop, (∀ A5 C5 w6, Below w5.heap.size w5 w6 → (∀ R2 : Ending → World → Prop, (∀ A6 C6 w7, UAt w7 A6 C6 xs → Below w6.heap.size w6 w7 → R2 (.returned (.tuple #[.slice A6 xs.length C6, .int .i64 0])) w7) → Calls Try.prog 15 #[.slice A1 xs.length C1, .slice A5 rs.length C5] w6 R2) → R (.returned (.slice A5 rs.length C5)) w6) → Calls Try.prog 14 #[.slice B rs.length D] w5 R) := fun w5 A1 C1 hw5 hU R k => by
    have HB := back_any W B D (ints rs) hZ (by rw [ints_len]; omega)
    rw [ints_len, ints_rev] at HB
    refine HB.use hw5 fun A5 C5 w6 h1 h2 => ?_
    rw [ints_len, List.length_reverse]
    refine k A5 C5 w6 h2 fun R2 k2 => ?_
    have HY := order_yes w6 A1 C1 (ord rs xs) A5 C5 rs.reverse (hU.below h2) h1 hR.rev (by rw [ord_len, pr_reverse])
    rw [ord_back hR hl, ord_len, ← hl, List.length_reverse] at HY
    exact HY.use (Below.refl _ _) k2
  have HG : Hid (∀ (k x : Nat), xs[k]? = some x → (ord rs xs)[tn rs k]? = some x ∧ tn rs k < xs.length) := fun k x hx => ⟨ord_at hR hl hx, by rw [hl]; exact hR.tn k⟩
  obtain ⟨ys, hys⟩ : ∃ ys, ord rs xs = ys := ⟨_, rfl⟩
  rw [hys] at HO HBk HG
  obtain ⟨f, hf⟩ : ∃ f : Nat → Nat, (fun j => tn rs j) = f := ⟨_, rfl⟩
  have hft : ∀ j, tn rs j = f j := fun j => congrFun hf j
  simp only [hft] at HRT HG
  rw [← hl] at HR
  obtain ⟨M, hM⟩ : ∃ M, xs.length = M := ⟨_, rfl⟩
  have HM : Hid (xs.length = M) := hM
  rw [hM] at HR HSm HO HBk HG hl ⊢
  simp only [hM] at HRT
  rw [← hl] at hmax
  generalize rs.length = L at HR HO HRT HBk hfew ⊢
  have g1 : ¬ (100 : Int) < (L : Int) := by omega
  have d1 : decide ((100 : Int) < (L : Int)) = false := by simpa using g1
  have g2 : ¬ (5000 : Int) < (M : Int) := by omega
  have d2 : decide ((5000 : Int) < (M : Int)) = false := by simpa using g2
  have hlen : (M : Int) ≤ 9223372036854775807 := by omega
  have g3 : ((M : Int) != (M : Int)) = false := by simp
  clear hX hZ hR hl hmax hfew hys hf hft hM
  go_enter Try.func5, Try.ntmps5
  go_wp2_with (first
    | (go_at_call 8; (with_reducible refine AnsB.use HA hw fun w1 hb1 => ?_); have hw1 := hw.trans (hb1.mono hw.size))
    | (at_builtin; refine Hid.out ?_))
  unfold Hid
  refine wp_copy HX.out.1 hw1 HX.out.2 rfl _ _ rfl rfl (by rw [HM.out]; rfl) ?_
  intro A' C' w2 hO2 hB2
  have hw2 := hw1.trans (hB2.mono hw1.size)
  have hU2 := hO2.words HSmall.out
  have HO2 := fun R => HO.out w2 A' C' hw2 hU2 R
  have HS2 := HSm.out w2 A' C' hw2 hU2
  rw [HM.out]
  clear HO hO2 hU2 HA
  go_wp2_with (first
    | (go_at_call 15; refine HO2 _ fun A1 C1 w3 hY3 hb3 => ?_)
    | (go_at_call 16; (with_reducible refine AnsB.use HS2 hb3 fun w4 hb4 => ?_); have hb34 := bb hb3 hb4; have hw4 := hw2.trans (hb34.mono hw2.size))
    | (go_at_call 10; with_reducible refine AnsQ.use HR hw4 ?_))
  have HY4 : Hid (UAt w4 A1 C1 ys) := hY3.below hb4
  have HBw : Hid (Below w.heap.size w w4) := bb (bb hb1 hB2) hb34
  have HW4 : Hid (Below W.heap.size W w4) := hw4
  clear HS2 HO2 HR hb1 hB2 hb34 hw4 hw2 hw1 hb4 hb3 hY3
  go_loopw [70] (fun v wr => ∃ k : Nat, v = .int .i64 (k : Int) ∧ k ≤ M ∧ Hid (Below w4.heap.size w4 wr)) (fun v _ => M - (intOf v).toNat)
  case atStart => exact ⟨0, rfl, by omega, Below.refl _ _⟩
  case round =>
    obtain ⟨k, rfl, hk, HB⟩ := hrel
    have HWr : Hid (Below W.heap.size W wr) := HW4.out.trans (HB.out.mono HW4.out.size)
    by_cases hlt : k < M
    · obtain ⟨x, hx⟩ : ∃ x, xs[k]? = some x := ⟨_, List.getElem?_eq_getElem (by rw [HM.out]; exact hlt)⟩
      obtain ⟨b, o, rfl, hb, c0, _⟩ := HX.out.1.get k x hx
      have c0' := ((bcell HWr.out).1 b (o + k) hb).trans c0
      obtain ⟨hy, hfl⟩ := HG.out k x hx
      have HC := HRT k hlt
      obtain ⟨t, ht⟩ : ∃ t, f k = t := ⟨_, rfl⟩
      rw [ht] at hy hfl HC
      obtain ⟨b2, o2, rfl, hb2, c2, _⟩ := HY4.out.get t x hy
      have c2' := fun (w5 : World) (h : Below w4.heap.size w4 w5) => ((bcell h).1 b2 (o2 + t) hb2).trans c2
      have hwr := HWr.out
      have e1 : ((x : Int) != (x : Int)) = false := by simp
      have hti : (t : Int) < (M : Int) := by omega
      clear c0 c2 hx hy ht HRT
      go_wp2_with (go_at_call 13; (with_reducible refine AnsB.use HC hwr fun w5 hb5 => ?_); have hb45 := bb HB.out hb5; have c5 := c2' w5 hb45)
      have HB5 : Hid (Below w4.heap.size w4 w5) := hb45
      clear hb5 hb45 c5 hwr
      go_roundw
      case rel => exact ⟨k + 1, by go_num, by omega, HB5⟩
      case measure => simp [intOf]; omega
    · obtain rfl : k = M := by omega
      have HK := fun R => HBk.out wr A1 C1 HWr.out (HY4.out.below HB.out) R
      clear HBk HRT
      have hBw2 : Below w.heap.size w wr := bb HBw.out HB.out
      have hwr := HWr.out
      go_wp2_with (first
        | (go_at_call 14; refine HK _ fun A5 C5 w6 hb6 HO6 => ?_)
        | (go_at_call 15; refine HO6 _ fun A6 C6 w7 hU7 hb7 => ?_; have hb67 := bb hb6 hb7; have hw7 := hwr.trans (hb67.mono hwr.size); have HS7 := HSm.out w7 A6 C6 hw7 hU7)
        | (go_at_call 16; (with_reducible refine AnsB.use HS7 (Below.refl _ _) fun w8 hb8 => ?_)))
      go_ret
      exact ⟨rfl, bb hBw2 (bb hb67 hb8)⟩
theorem order_law (W : World) (A : Option Addr) (C : Nat) (xs : List Nat) (hX : UAt W A C xs) (B : Option Addr) (D : Nat) (zs : List Int) (hZ : ZAt W B D zs) : AnsB W 5 #[.slice A xs.length C, .slice B zs.length D] (.bool true) := by
  by_cases h : 100 < zs.length ∨ 5000 < xs.length
  · exact order_many W A C xs hX B D zs hZ h
  · by_cases he : rE zs = 0
    · by_cases hn : (xs.length : Int) = rS zs
      · obtain ⟨rs, rfl, hR, hs⟩ := rad_of he
        rw [ints_len]
        exact order_ok W A C xs hX B D rs hZ hR (by omega)
      · exact order_not W A C xs hX B D zs hZ (by omega) (by omega) (Or.inr hn)
    · exact order_not W A C xs hX B D zs hZ (by omega) (by omega) (Or.inl he)
end Go.Proofs.Ytgmjbagomfegeaa

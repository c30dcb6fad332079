/-
  DigitsBack walked: turned about by the radices, and by them in the opposite order, a number is as it was. No condition but that the row lies there.
-/
import Derived.Test.YtgmjbagomfegeaaDl1
namespace Go.Proofs.Ytgmjbagomfegeaa
set_option linter.unusedVariables false
open Go.RowKit

theorem back_many (W : World) (A : Option Addr) (C : Nat) (zs : List Int) (hZ : ZAt W A C zs) (i : Int) (h : 100 < zs.length) : AnsB W 4 #[.slice A zs.length C, .int .i64 i] (.bool true) := by
  intro w hw
  have HA := alive_any W
  generalize zs.length = L at h ⊢
  have h1 : (100 : Int) < (L : Int) := by omega
  clear hZ
  go_enter Try.func4, Try.ntmps4
  go_wp2_with (go_at_call 8; with_reducible refine AnsB.use HA hw fun w1 hb1 => ?_)
  go_ret
  exact ⟨rfl, hb1⟩
set_option maxHeartbeats 1000000 in
theorem back_err (W : World) (A : Option Addr) (C : Nat) (zs : List Int) (hZ : ZAt W A C zs) (i : Int) (h : ¬ 100 < zs.length) (he : rE zs ≠ 0) : AnsB W 4 #[.slice A zs.length C, .int .i64 i] (.bool true) := by
  intro w hw
  have HA := alive_any W
  have HR := rsize_any W A C zs hZ
  have HT := turn_no W A C zs hZ i (by rw [r_not he]; omega)
  rw [r_not he] at HR
  generalize rE zs = e at HR he
  generalize zs.length = L at HR HT h ⊢
  have h1 : ¬ (100 : Int) < (L : Int) := by omega
  have h2 : ¬ e = 0 := he
  have h3 : (e != 0) = true := by simpa using he
  clear hZ h he
  go_enter Try.func4, Try.ntmps4
  go_wp2_with (first
    | (go_at_call 8; (with_reducible refine AnsB.use HA hw fun w1 hb1 => ?_); have hw1 := hw.trans (hb1.mono hw.size))
    | (go_at_call 10; with_reducible refine AnsQ.use HR hw1 ?_)
    | (go_at_call 11; with_reducible refine AnsQ.use HT hw1 ?_))
  go_ret
  exact ⟨rfl, hb1⟩
theorem ints_rev (rs : List Nat) : (ints rs).reverse = ints rs.reverse := by unfold ints; rw [List.map_reverse]
set_option maxHeartbeats 1000000 in
theorem back_out (W : World) (A : Option Addr) (C : Nat) (rs : List Nat) (hZ : ZAt W A C (ints rs)) (hR : Rad rs) (i : Int) (hi : i < 0 ∨ (pr rs : Int) ≤ i) : AnsB W 4 #[.slice A rs.length C, .int .i64 i] (.bool true) := by
  intro w hw
  have HA := alive_any W
  have HR := rsize_any W A C (ints rs) hZ
  have HT := turn_no W A C (ints rs) hZ i (by rw [(r_rad hR).1]; exact hi)
  rw [(r_rad hR).1, (r_rad hR).2, ints_len] at HR
  rw [ints_len] at HT
  have hfew := hR.few
  generalize pr rs = n at HR hi
  generalize rs.length = L at HR HT hfew ⊢
  have h1 : ¬ (100 : Int) < (L : Int) := by omega
  clear hZ hfew hR
  by_cases h0 : i < 0
  · clear hi
    go_enter Try.func4, Try.ntmps4
    go_wp2_with (first
      | (go_at_call 8; (with_reducible refine AnsB.use HA hw fun w1 hb1 => ?_); have hw1 := hw.trans (hb1.mono hw.size))
      | (go_at_call 10; with_reducible refine AnsQ.use HR hw1 ?_)
      | (go_at_call 11; with_reducible refine AnsQ.use HT hw1 ?_))
    go_ret
    exact ⟨rfl, hb1⟩
  · have h2 : (n : Int) ≤ i := by omega
    have h3 : decide ((n : Int) ≤ i) = true := by simpa using h2
    clear hi
    go_enter Try.func4, Try.ntmps4
    go_wp2_with (first
      | (go_at_call 8; (with_reducible refine AnsB.use HA hw fun w1 hb1 => ?_); have hw1 := hw.trans (hb1.mono hw.size))
      | (go_at_call 10; with_reducible refine AnsQ.use HR hw1 ?_)
      | (go_at_call 11; with_reducible refine AnsQ.use HT hw1 ?_))
    go_ret
    exact ⟨rfl, hb1⟩
set_option maxHeartbeats 1000000 in
theorem back_in (W : World) (A : Option Addr) (C : Nat) (rs : List Nat) (hZ : ZAt W A C (ints rs)) (hR : Rad rs) (m : Nat) (hm : m < pr rs) : AnsB W 4 #[.slice A rs.length C, .int .i64 (m : Int)] (.bool true) := by
  intro w hw
  have HA := alive_any W
  have HR := rsize_any W A C (ints rs) hZ
  have HT := turn_yes W A C rs hZ hR m hm
  have HB := back_any W A C (ints rs) hZ (by rw [ints_len]; have := hR.few; omega)
  rw [(r_rad hR).1, (r_rad hR).2, ints_len] at HR
  rw [ints_len, ints_rev] at HB
  have htl := hR.tn m
  have HBu : ∀ {w : World}, Below W.heap.size W w → ∀ {R : Ending → World → Prop}, (∀ A1 C1 w', AnsQ w' 11 #[.slice A1 rs.length C1, .int .i64 (tn rs m : Int)] (.tuple #[.int .i64 (m : Int), .bool true]) → Below w.heap.size w w' → R (.returned (.slice A1 rs.length C1)) w') → Calls Try.prog 14 #[.slice A rs.length C] w R := fun {w} hw {R} k => by
    refine HB.use hw fun A1 C1 w' h1 h2 => ?_
    rw [ints_len, List.length_reverse]
    refine k A1 C1 w' ?_ h2
    have := turn_yes w' A1 C1 rs.reverse h1 hR.rev (tn rs m) (by rw [pr_reverse]; exact htl)
    rw [List.length_reverse, hR.back hm] at this
    exact this
  have hfew := hR.few
  generalize pr rs = n at HR hm htl
  generalize tn rs m = t at HT HBu htl
  generalize rs.length = L at HR HT HBu hfew ⊢
  have h1 : ¬ (100 : Int) < (L : Int) := by omega
  have g1 : ¬ (m : Int) < 0 := by omega
  have g2 : ¬ (n : Int) ≤ (m : Int) := by omega
  have g3 : (0 : Int) ≤ (t : Int) := by omega
  have g4 : (t : Int) < (n : Int) := by omega
  have d2 : decide ((n : Int) ≤ (m : Int)) = false := by simpa using g2
  have d3 : decide ((0 : Int) ≤ (t : Int)) = true := by simp
  have d4 : decide ((t : Int) < (n : Int)) = true := by simpa using g4
  have e1 : ((m : Int) == (m : Int)) = true := by simp
  clear hZ hfew hR HB hm htl
  go_enter Try.func4, Try.ntmps4
  go_wp2_with (first
    | (go_at_call 8; (with_reducible refine AnsB.use HA hw fun w1 hb1 => ?_); have hw1 := hw.trans (hb1.mono hw.size))
    | (go_at_call 10; with_reducible refine AnsQ.use HR hw1 ?_)
    | (go_at_call 11; with_reducible refine AnsQ.use HT2 (Below.refl _ _) ?_)
    | (go_at_call 11; with_reducible refine AnsQ.use HT hw1 ?_)
    | (go_at_call 14; refine HBu hw1 fun A1 C1 w2 HT2 hb2 => ?_))
  go_ret
  exact ⟨rfl, bb hb1 hb2⟩
theorem back_law (W : World) (A : Option Addr) (C : Nat) (zs : List Int) (hZ : ZAt W A C zs) (i : Int) (hi : I64 i) : AnsB W 4 #[.slice A zs.length C, .int .i64 i] (.bool true) := by
  by_cases h : 100 < zs.length
  · exact back_many W A C zs hZ i h
  · by_cases he : rE zs = 0
    · obtain ⟨rs, rfl, hR, _⟩ := rad_of he
      rw [ints_len]
      by_cases ho : i < 0 ∨ (pr rs : Int) ≤ i
      · exact back_out W A C rs hZ hR i ho
      · obtain ⟨n, rfl⟩ := Int.eq_ofNat_of_zero_le (show 0 ≤ i by omega)
        exact back_in W A C rs hZ hR n (by omega)
    · exact back_err W A C zs hZ i h he
end Go.Proofs.Ytgmjbagomfegeaa

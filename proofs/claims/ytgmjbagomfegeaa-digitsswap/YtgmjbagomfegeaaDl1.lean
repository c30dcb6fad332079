/-
  DigitsTurn walked: Size, Turn and Table answer what the document says. No condition but that the row lies there.
-/
import Derived.Test.YtgmjbagomfegeaaDl0
namespace Go.Proofs.Ytgmjbagomfegeaa
set_option linter.unusedVariables false
open Go.RowKit

theorem turn_many (W : World) (A : Option Addr) (C : Nat) (zs : List Int) (hZ : ZAt W A C zs) (i : Int) (h : 100 < zs.length) : AnsB W 3 #[.slice A zs.length C, .int .i64 i] (.bool true) := by
  intro w hw
  have HA := alive_any W
  generalize zs.length = L at h ⊢
  have h1 : (100 : Int) < (L : Int) := by omega
  clear hZ
  go_enter Try.func3, Try.ntmps3
  go_wp2_with (go_at_call 8; with_reducible refine AnsB.use HA hw fun w1 hb1 => ?_)
  go_ret
  exact ⟨rfl, hb1⟩
set_option maxHeartbeats 1000000 in
theorem turn_err (W : World) (A : Option Addr) (C : Nat) (zs : List Int) (hZ : ZAt W A C zs) (i : Int) (h : ¬ 100 < zs.length) (he : rE zs ≠ 0) : AnsB W 3 #[.slice A zs.length C, .int .i64 i] (.bool true) := by
  intro w hw
  have HA := alive_any W
  have HS := size_any W A C zs hZ
  have HR := rsize_any W A C zs hZ
  have HT := turn_no W A C zs hZ i (by rw [r_not he]; omega)
  have HTb := table_no W A C zs hZ he
  have HTu : ∀ {w : World}, Below W.heap.size W w → ∀ {R : Ending → World → Prop}, (∀ A1 C1 w', Below w.heap.size w w' → R (.returned (.slice A1 0 C1)) w') → Calls Try.prog 12 #[.slice A zs.length C] w R := fun {w} hw {R} k => HTb.use hw fun A1 C1 w' _ h2 => k A1 C1 w' h2
  rw [r_not he] at HS HR
  generalize rE zs = e at HS HR he
  generalize zs.length = L at HS HR HT HTu h ⊢
  have h1 : ¬ (100 : Int) < (L : Int) := by omega
  have h2 : ¬ e = 0 := he
  have h3 : (e != e) = false := by simp
  clear hZ HTb h he
  go_enter Try.func3, Try.ntmps3
  go_wp2_with (first
    | (go_at_call 8; (with_reducible refine AnsB.use HA hw fun w1 hb1 => ?_); have hw1 := hw.trans (hb1.mono hw.size))
    | (go_at_call 9; with_reducible refine AnsQ.use HS hw1 ?_)
    | (go_at_call 10; with_reducible refine AnsQ.use HR hw1 ?_)
    | (go_at_call 11; with_reducible refine AnsQ.use HT hw1 ?_)
    | (go_at_call 12; refine HTu hw1 fun A1 C1 w2 hb2 => ?_))
  go_ret
  exact ⟨rfl, bb hb1 hb2⟩
/-- What Turn answers, of radices. -/
structure TurnIs (rs : List Nat) (i x : Int) (b : Bool) : Prop where
  yes : b = true → ∃ n : Nat, i = (n : Int) ∧ n < pr rs ∧ x = (tn rs n : Int)
  no : b = false → (i < 0 ∨ (pr rs : Int) ≤ i) ∧ x = 0
theorem turn_is (W : World) (A : Option Addr) (C : Nat) (rs : List Nat) (hZ : ZAt W A C (ints rs)) (hR : Rad rs) (i : Int) : ∃ x b, TurnIs rs i x b ∧ AnsQ W 11 #[.slice A rs.length C, .int .i64 i] (.tuple #[.int .i64 x, .bool b]) := by
  by_cases h : i < 0 ∨ (pr rs : Int) ≤ i
  · have := turn_no W A C (ints rs) hZ i (by rw [(r_rad hR).1]; exact h)
    rw [ints_len] at this
    exact ⟨0, false, ⟨fun h => (by cases h), fun _ => ⟨h, rfl⟩⟩, this⟩
  · obtain ⟨n, rfl⟩ := Int.eq_ofNat_of_zero_le (show 0 ≤ i by omega)
    exact ⟨_, true, ⟨fun _ => ⟨n, rfl, by omega, rfl⟩, fun h => (by cases h)⟩, turn_yes W A C rs hZ hR n (by omega)⟩
set_option maxHeartbeats 2000000 in
theorem turn_ok (W : World) (A : Option Addr) (C : Nat) (rs : List Nat) (hZ : ZAt W A C (ints rs)) (hR : Rad rs) (i : Int) : AnsB W 3 #[.slice A rs.length C, .int .i64 i] (.bool true) := by
  intro w hw
  have HA := alive_any W
  have HS := size_any W A C (ints rs) hZ
  have HR := rsize_any W A C (ints rs) hZ
  rw [(r_rad hR).1, (r_rad hR).2, ints_len] at HS HR
  obtain ⟨x, b, hIs, HT⟩ := turn_is W A C rs hZ hR i
  have HTb := table_yes W A C rs hZ hR
  have HRT := fun (j : Nat) (hj : j < pr rs) => rturn_any W A C rs hZ hR j (by have := hR.max; omega)
  have HG : Hid (∀ j, j < pr rs → (tbl rs)[j]? = some (tn rs j : Int)) := fun j hj => tbl_get hj
  have HYes : Hid (b = true → ∃ n : Nat, i = (n : Int) ∧ n < pr rs ∧ x = (tn rs n : Int)) := hIs.yes
  have HNo : Hid (b = false → (i < 0 ∨ (pr rs : Int) ≤ i) ∧ x = 0) := hIs.no
  have hfew := hR.few
  have hmax := hR.max
  obtain ⟨n, hn⟩ : ∃ n, pr rs = n := ⟨_, rfl⟩
  have HTu : ∀ {w : World}, Below W.heap.size W w → ∀ {R : Ending → World → Prop}, (∀ A1 C1 w', ZAt w' A1 C1 (tbl rs) → Below w.heap.size w w' → R (.returned (.slice A1 n C1)) w') → Calls Try.prog 12 #[.slice A rs.length C] w R := fun {w} hw {R} k => by
    refine HTb.use hw fun A1 C1 w' h1 h2 => ?_
    rw [tbl_len, hn]
    exact k A1 C1 w' h1 h2
  rw [hn] at HS HR HYes HNo hmax
  simp only [hn] at HRT HG
  obtain ⟨f, hf⟩ : ∃ f : Nat → Int, (fun j => (tn rs j : Int)) = f := ⟨_, rfl⟩
  have hft : ∀ j, (tn rs j : Int) = f j := fun j => congrFun hf j
  simp only [hft] at HRT HG HYes
  generalize rs.length = L at HS HR HT HTu HRT hfew ⊢
  have h1 : ¬ (100 : Int) < (L : Int) := by omega
  have hlen : (n : Int) ≤ 9223372036854775807 := by omega
  clear hZ HTb hfew hmax hR hIs hf hft hn
  cases b with
  | false =>
    obtain ⟨hi, rfl⟩ := HNo.out rfl
    clear HYes HNo
    by_cases hi0 : i < 0
    · have g1 : ¬ 0 ≤ i := by omega
      have g2 : decide (0 ≤ i) = false := by simpa using g1
      clear hi
      go_enter Try.func3, Try.ntmps3
      go_wp2_with (first
        | (go_at_call 8; (with_reducible refine AnsB.use HA hw fun w1 hb1 => ?_); have hw1 := hw.trans (hb1.mono hw.size))
        | (go_at_call 9; with_reducible refine AnsQ.use HS hw1 ?_)
        | (go_at_call 10; with_reducible refine AnsQ.use HR hw1 ?_)
        | (go_at_call 11; with_reducible refine AnsQ.use HT hw1 ?_)
        | (go_at_call 12; refine HTu hw1 fun A1 C1 w2 hz2 hb2 => ?_))
      have HB2 : Hid (Below w.heap.size w w2) := bb hb1 hb2
      have HW2 : Hid (Below W.heap.size W w2) := hw1.trans (hb2.mono hw1.size)
      clear HS HR HT HTu HA hb1 hb2 hw1
      go_loopw [75] (fun v wr => ∃ k : Nat, v = .int .i64 k ∧ k ≤ n ∧ Hid (Below w2.heap.size w2 wr)) (fun v _ => n - (intOf v).toNat)
      case atStart => exact ⟨0, rfl, by omega, Below.refl _ _⟩
      case round =>
        obtain ⟨k, rfl, hk, HB⟩ := hrel
        by_cases hlt : k < n
        · obtain ⟨b2, o2, rfl, hb2, c2, _⟩ := hz2.get k (f k) (HG.out k hlt)
          have c2' := ((bcell HB.out).1 b2 (o2 + k) hb2).trans c2
          have HC := HRT k hlt
          have hwr := HW2.out.trans (HB.out.mono HW2.out.size)
          obtain ⟨y, hy⟩ : ∃ y, f k = y := ⟨_, rfl⟩
          rw [hy] at c2' HC
          have e1 : (y != y) = false := by simp
          clear c2 hy HRT
          go_wp2_with (go_at_call 13; with_reducible refine AnsB.use HC hwr fun w4 hb4 => ?_)
          have HB4 : Hid (Below w2.heap.size w2 w4) := bb HB.out hb4
          clear hb4 hwr
          go_roundw
          case rel => exact ⟨k + 1, by go_num, by omega, HB4⟩
          case measure => simp [intOf]; omega
        · obtain rfl : k = n := by omega
          have HBB : Hid (Below w.heap.size w wr) := bb HB2.out HB.out
          clear HRT
          go_wp2
          go_ret
          exact ⟨rfl, HBB.out⟩
    · have g1 : 0 ≤ i := by omega
      have g2 : ¬ i < (n : Int) := by omega
      have g3 : decide (0 ≤ i) = true := by simpa using g1
      have g4 : decide (i < (n : Int)) = false := by simpa using g2
      clear hi
      go_enter Try.func3, Try.ntmps3
      go_wp2_with (first
        | (go_at_call 8; (with_reducible refine AnsB.use HA hw fun w1 hb1 => ?_); have hw1 := hw.trans (hb1.mono hw.size))
        | (go_at_call 9; with_reducible refine AnsQ.use HS hw1 ?_)
        | (go_at_call 10; with_reducible refine AnsQ.use HR hw1 ?_)
        | (go_at_call 11; with_reducible refine AnsQ.use HT hw1 ?_)
        | (go_at_call 12; refine HTu hw1 fun A1 C1 w2 hz2 hb2 => ?_))
      have HB2 : Hid (Below w.heap.size w w2) := bb hb1 hb2
      have HW2 : Hid (Below W.heap.size W w2) := hw1.trans (hb2.mono hw1.size)
      clear HS HR HT HTu HA hb1 hb2 hw1
      go_loopw [75] (fun v wr => ∃ k : Nat, v = .int .i64 k ∧ k ≤ n ∧ Hid (Below w2.heap.size w2 wr)) (fun v _ => n - (intOf v).toNat)
      case atStart => exact ⟨0, rfl, by omega, Below.refl _ _⟩
      case round =>
        obtain ⟨k, rfl, hk, HB⟩ := hrel
        by_cases hlt : k < n
        · obtain ⟨b2, o2, rfl, hb2, c2, _⟩ := hz2.get k (f k) (HG.out k hlt)
          have c2' := ((bcell HB.out).1 b2 (o2 + k) hb2).trans c2
          have HC := HRT k hlt
          have hwr := HW2.out.trans (HB.out.mono HW2.out.size)
          obtain ⟨y, hy⟩ : ∃ y, f k = y := ⟨_, rfl⟩
          rw [hy] at c2' HC
          have e1 : (y != y) = false := by simp
          clear c2 hy HRT
          go_wp2_with (go_at_call 13; with_reducible refine AnsB.use HC hwr fun w4 hb4 => ?_)
          have HB4 : Hid (Below w2.heap.size w2 w4) := bb HB.out hb4
          clear hb4 hwr
          go_roundw
          case rel => exact ⟨k + 1, by go_num, by omega, HB4⟩
          case measure => simp [intOf]; omega
        · obtain rfl : k = n := by omega
          have HBB : Hid (Below w.heap.size w wr) := bb HB2.out HB.out
          clear HRT
          go_wp2
          go_ret
          exact ⟨rfl, HBB.out⟩
  | true =>
    obtain ⟨m, rfl, hm, rfl⟩ := HYes.out rfl
    clear HYes HNo
    have g1 : (0 : Int) ≤ (m : Int) := by omega
    have g2 : (m : Int) < (n : Int) := by omega
    have g3 : decide ((0 : Int) ≤ (m : Int)) = true := by simp
    have g4 : decide ((m : Int) < (n : Int)) = true := by simpa using g2
    go_enter Try.func3, Try.ntmps3
    go_wp2_with (first
      | (go_at_call 8; (with_reducible refine AnsB.use HA hw fun w1 hb1 => ?_); have hw1 := hw.trans (hb1.mono hw.size))
      | (go_at_call 9; with_reducible refine AnsQ.use HS hw1 ?_)
      | (go_at_call 10; with_reducible refine AnsQ.use HR hw1 ?_)
      | (go_at_call 11; with_reducible refine AnsQ.use HT hw1 ?_)
      | (go_at_call 12; refine HTu hw1 fun A1 C1 w2 hz2 hb2 => ?_))
    have HB2 : Hid (Below w.heap.size w w2) := bb hb1 hb2
    have HW2 : Hid (Below W.heap.size W w2) := hw1.trans (hb2.mono hw1.size)
    clear HS HR HT HTu HA hb1 hb2 hw1
    go_loopw [75] (fun v wr => ∃ k : Nat, v = .int .i64 k ∧ k ≤ n ∧ Hid (Below w2.heap.size w2 wr)) (fun v _ => n - (intOf v).toNat)
    case atStart => exact ⟨0, rfl, by omega, Below.refl _ _⟩
    case round =>
      obtain ⟨k, rfl, hk, HB⟩ := hrel
      by_cases hlt : k < n
      · obtain ⟨b2, o2, rfl, hb2, c2, _⟩ := hz2.get k (f k) (HG.out k hlt)
        have c2' := ((bcell HB.out).1 b2 (o2 + k) hb2).trans c2
        have HC := HRT k hlt
        have hwr := HW2.out.trans (HB.out.mono HW2.out.size)
        obtain ⟨y, hy⟩ : ∃ y, f k = y := ⟨_, rfl⟩
        rw [hy] at c2' HC
        have e1 : (y != y) = false := by simp
        clear c2 hy HRT
        go_wp2_with (go_at_call 13; with_reducible refine AnsB.use HC hwr fun w4 hb4 => ?_)
        have HB4 : Hid (Below w2.heap.size w2 w4) := bb HB.out hb4
        clear hb4 hwr
        go_roundw
        case rel => exact ⟨k + 1, by go_num, by omega, HB4⟩
        case measure => simp [intOf]; omega
      · obtain rfl : k = n := by omega
        have HBB : Hid (Below w.heap.size w wr) := bb HB2.out HB.out
        obtain ⟨b2, o2, rfl, hb2, c2, _⟩ := hz2.get m (f m) (HG.out m hm)
        have c2' := ((bcell HB.out).1 b2 (o2 + m) hb2).trans c2
        obtain ⟨y, hy⟩ : ∃ y, f m = y := ⟨_, rfl⟩
        rw [hy] at c2'
        rw [hy]
        have e1 : (y == y) = true := by simp
        clear HRT c2 hy
        go_wp2
        go_ret
        exact ⟨rfl, HBB.out⟩
theorem turn_law (W : World) (A : Option Addr) (C : Nat) (zs : List Int) (hZ : ZAt W A C zs) (i : Int) (hi : I64 i) : AnsB W 3 #[.slice A zs.length C, .int .i64 i] (.bool true) := by
  by_cases h : 100 < zs.length
  · exact turn_many W A C zs hZ i h
  · by_cases he : rE zs = 0
    · obtain ⟨rs, rfl, hR, _⟩ := rad_of he
      rw [ints_len]
      exact turn_ok W A C rs hZ hR i
    · exact turn_err W A C zs hZ i h he
end Go.Proofs.Ytgmjbagomfegeaa

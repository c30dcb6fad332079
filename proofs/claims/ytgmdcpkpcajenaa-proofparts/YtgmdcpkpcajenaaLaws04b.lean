/-
  The walk of the statement ProofParts.
-/
import Derived.Test.YtgmdcpkpcajenaaPf9
namespace Go.Proofs.Ytgmdcpkpcajenaa
set_option linter.unusedVariables false
open Go.RowKit

theorem bad_take (es : List En) (n j : Nat) (h : j < n) : badAt (es.take n) j = badAt es j := by
  unfold badAt
  rw [List.getElem?_take, if_pos h, List.take_take, Nat.min_eq_left (by omega)]
theorem check_some {es : List En} {k : Nat} (h : checkO es = some k) : k < es.length ∧ badAt es k = true ∧ ∀ j, j < k → badAt es j = false := by
  obtain ⟨hk, hb, ha⟩ := List.findIdx?_eq_some_iff_getElem.1 h
  rw [List.length_range] at hk
  refine ⟨hk, by simpa using hb, fun j hj => ?_⟩
  have := ha j hj
  simpa using this
theorem parts_bad {es : List En} {n k : Nat} (h : checkO (es.take n) = some k) : checkO es = some k := by
  obtain ⟨hk, hb, ha⟩ := check_some h
  rw [List.length_take] at hk
  rw [bad_take es n k (by omega)] at hb
  exact check_found (by omega) hb fun j hj => by rw [← bad_take es n j (by omega)]; exact ha j hj
theorem parts_late {es : List En} {n k : Nat} (hn : n ≤ es.length) (h : checkO (es.take n) = none) (hk : checkO es = some k) : n ≤ k ∧ k < es.length := by
  obtain ⟨h1, hb, ha⟩ := check_some hk
  refine ⟨?_, h1⟩
  by_cases hl : k < n
  · have := check_all h k (by rw [List.length_take]; omega)
    rw [bad_take es n k hl, hb] at this; cases this
  · omega

theorem parts_out (W : World) (A : Option Addr) (L C : Nat) (n : Int) (hL : (L : Int) ≤ 9223372036854775807) (h : 32 < (L : Int) ∨ ((L : Int) ≤ 32 ∧ n < 0) ∨ ((L : Int) ≤ 32 ∧ 0 ≤ n ∧ (L : Int) < n)) (HA : AnsB W 9 #[] (.bool true)) : AnsB W 7 #[.slice A L C, .int .i64 n] (.bool true) := by
  intro w hw
  rcases h with h | ⟨h, h'⟩ | ⟨h, h', h''⟩
  all_goals
    go_enter Try.func7, Try.ntmps7
    go_wp2_with (go_at_call 9; with_reducible refine AnsB.use HA hw fun w1 hb1 => ?_; have hB1 := bb hw hb1)
    go_ret
    exact ⟨rfl, hb1⟩
set_option maxHeartbeats 1000000 in
theorem parts_walk (W : World) (A : Option Addr) (L C n : Nat) (es : List En) (i e j f : Int) (hL : (L : Int) ≤ 32) (hn : (n : Int) ≤ L)
    (h : ((f != 0) = true ∧ (e == f) = true ∧ (i == j) = true) ∨ (f = 0 ∧ e = 0 ∧ i = 0) ∨ (f = 0 ∧ e = 3 ∧ (n : Int) ≤ i ∧ i < L))
    (HA : AnsB W 9 #[] (.bool true)) (HR : RowsAns W (.slice A L C) es) (hes : es.length = L)
    (HC : ∀ w A' C', EntsAt w A' C' es → AnsB w 11 #[.slice A' L C'] (.tuple #[.int .i64 i, .int .i64 e]))
    (HD : ∀ w A' C', EntsAt w A' C' es → AnsB w 11 #[.slice A' n C'] (.tuple #[.int .i64 j, .int .i64 f])) :
    AnsB W 7 #[.slice A L C, .int .i64 (n : Int)] (.bool true) := by
  intro w hw
  have HR' : ∀ w, Below W.heap.size W w → ∀ {R : Ending → World → Prop}, (∀ A' C' w', EntsAt w' A' C' es → L ≤ C' → Below w.heap.size w w' → R (.returned (.slice A' L C')) w') → Calls Try.prog 12 #[.slice A L C] w R := by
    intro w1 hw1 R kk
    refine RowsAns.use HR hw1 fun A' C' w' hE hb => ?_
    have := kk A' C' w' hE (by rw [← hes]; exact hE.cap) hb
    rw [hes]; exact this
  clear HR hes
  rcases h with ⟨h1, h2, h3⟩ | ⟨rfl, rfl, rfl⟩ | ⟨rfl, rfl, h3, h4⟩
  all_goals
    go_enter Try.func7, Try.ntmps7
    go_wp2_with (first | (go_at_call 9; with_reducible refine AnsB.use HA hw fun w1 hb1 => ?_; have hB1 := bb hw hb1) | (go_at_call 12; with_reducible refine HR' _ hB1 fun A' C' w2 hE2 hLC hb2 => ?_; have HC2 := HC w2 A' C' hE2; have HD2 := HD w2 A' C' hE2) | (go_at_call 11; with_reducible refine AnsB.use HC2 (Below.refl _ _) fun w3 hb3 => ?_) | (go_at_call 11; with_reducible refine AnsB.use HD2 hb3 fun w4 hb4 => ?_))
    go_ret
    exact ⟨rfl, bb (bb (bb hb1 hb2) hb3) hb4⟩
theorem parts_any (W : World) (A : Option Addr) (C : Nat) (es : List En) (hE : EntsAt W A C es) (hfs : ∀ x ∈ es, x.fs.length * 16 ≤ 140737488355328) (n : Int) :
    AnsB W 7 #[.slice A es.length C, .int .i64 n] (.bool true) := by
  have hcl := hE.cap
  have hcm := hE.max
  unfold maxLen at hcm
  by_cases h : es.length ≤ 32 ∧ 0 ≤ n ∧ n ≤ es.length
  · obtain ⟨h1, h2, h3⟩ := h
    obtain ⟨j, rfl⟩ := Int.eq_ofNat_of_zero_le h2
    have HR := rows_any W A C es hE (by omega) hfs
    have ht : (es.take j).length = j := by rw [List.length_take]; omega
    have HC : ∀ w A' C', EntsAt w A' C' es → AnsB w 11 #[.slice A' es.length C'] (match checkO es with
        | none => .tuple #[.int .i64 0, .int .i64 0]
        | some k => .tuple #[.int .i64 (k : Int), .int .i64 3]) := fun w A' C' hE' => by
      have := check_any w A' C' es hE'
      unfold checkV at this
      rw [if_neg (by omega)] at this
      exact this
    have HD : ∀ w A' C', EntsAt w A' C' es → AnsB w 11 #[.slice A' j C'] (match checkO (es.take j) with
        | none => .tuple #[.int .i64 0, .int .i64 0]
        | some k => .tuple #[.int .i64 (k : Int), .int .i64 3]) := fun w A' C' hE' => by
      have := check_any w A' C' (es.take j) (hE'.take j)
      unfold checkV at this
      rw [ht, if_neg (by omega)] at this
      exact this
    cases hb : checkO (es.take j) with
    | some i =>
      rw [hb] at HD
      rw [parts_bad hb] at HC
      exact parts_walk W A _ C j es _ _ _ _ (by omega) (by omega) (Or.inl ⟨by decide, by decide, by simp⟩) (alive_any W) HR rfl HC HD
    | none =>
      rw [hb] at HD
      cases ho : checkO es with
      | none =>
        rw [ho] at HC
        exact parts_walk W A _ C j es _ _ _ _ (by omega) (by omega) (Or.inr (Or.inl ⟨rfl, rfl, rfl⟩)) (alive_any W) HR rfl HC HD
      | some i =>
        rw [ho] at HC
        obtain ⟨k1, k2⟩ := parts_late (by omega) hb ho
        exact parts_walk W A _ C j es _ _ _ _ (by omega) (by omega) (Or.inr (Or.inr ⟨rfl, rfl, by omega, by omega⟩)) (alive_any W) HR rfl HC HD
  · exact parts_out W A es.length C n (by omega) (by omega) (alive_any W)
end Go.Proofs.Ytgmdcpkpcajenaa

/-
  The contract of great; the walk of the statement ProofChecks.
-/
import Derived.Test.YtgmdcpkpcajenaaRf4
import Derived.Test.YtgmdcpkpcajenaaPf8
namespace Go.Proofs.Ytgmdcpkpcajenaa
set_option linter.unusedVariables false
open Go.RowKit

/-- More than is played? -/
def greatB (es : List En) : Bool := decide (40 < es.length) || es.any fun x => decide (20 < x.fs.length)
theorem great_small {es : List En} (h : greatB es = false) : es.length ≤ 40 ∧ ∀ x ∈ es, x.fs.length ≤ 20 := by
  unfold greatB at h
  simp only [Bool.or_eq_false_iff, decide_eq_false_iff_not, List.any_eq_false, decide_eq_true_eq] at h
  exact ⟨by omega, fun x hx => by have := h.2 x hx; omega⟩
theorem great_long (W : World) (A : Option Addr) (L C : Nat) (h : 40 < (L : Int)) (hm : (L : Int) ≤ 9223372036854775807) : AnsB W 10 #[.slice A L C] (.bool true) := by
  intro w hw
  go_enter Try.func10, Try.ntmps10
  go_wp2
  go_ret
  exact ⟨rfl, Below.refl _ _⟩
set_option maxHeartbeats 1000000 in
theorem great_walk (W : World) (A : Option Addr) (C : Nat) (es : List En) (hE : EntsAt W A C es) (h40 : es.length ≤ 40) :
    AnsB W 10 #[.slice A es.length C] (.bool (es.any fun x => decide (20 < x.fs.length))) := by
  intro w hw
  obtain ⟨L, hL⟩ : ∃ L, es.length = L := ⟨_, rfl⟩
  have HL : Hid (es.length = L) := hL
  rw [hL] at h40 ⊢
  clear hL
  obtain ⟨r, hr⟩ : ∃ r, (es.any fun x => decide (20 < x.fs.length)) = r := ⟨_, rfl⟩
  have HR : Hid ((es.any fun x => decide (20 < x.fs.length)) = r) := hr
  rw [hr]
  clear hr
  go_enter Try.func10, Try.ntmps10
  go_wp2
  go_loopw [10] (fun v wr => ∃ k : Nat, v = .int .i64 k ∧ k ≤ L ∧ Hid (∀ j y, j < k → es[j]? = some y → ¬ 20 < y.fs.length) ∧ Below w.heap.size w wr) (fun v _ => L - (intOf v).toNat)
  case atStart => exact ⟨0, rfl, by omega, fun j y hj => absurd hj (by omega), Below.refl _ _⟩
  case round =>
    obtain ⟨k, rfl, hk, HI, hB⟩ := hrel
    by_cases hlt : k < L
    · have hlt' : k < es.length := by rw [HL.out]; exact hlt
      obtain ⟨x, hx⟩ : ∃ x, es[k]? = some x := ⟨_, List.getElem?_eq_getElem hlt'⟩
      obtain ⟨b, o, A', C', rfl, hb, c0, c1, c2, hP, hp, hg⟩ := hE.get k x hx
      have hBW : Below W.heap.size W wr := bb hw hB
      have c0' := keep_cell hBW hb c0
      have c1' := keep_cell hBW hb c1
      have c2' := keep_cell hBW hb c2
      have hfm : x.fs.length ≤ 9223372036854775807 := by have := hP.cap; have := hP.max; unfold maxLen at this; omega
      obtain ⟨p, hp'⟩ : ∃ p : Int, (x.p : Int) = p := ⟨_, rfl⟩
      obtain ⟨g, hg'⟩ : ∃ g : Int, (x.g : Int) = g := ⟨_, rfl⟩
      obtain ⟨fl, hfl⟩ : ∃ fl : Nat, x.fs.length = fl := ⟨_, rfl⟩
      rw [hp'] at c0'
      rw [hg'] at c1'
      rw [hfl] at c2' hfm
      by_cases ht : 20 < fl
      · have HE : Hid (r = true) := by
          unfold Hid; rw [← HR.out]; exact List.any_eq_true.2 ⟨x, List.mem_of_getElem? hx, decide_eq_true (by omega)⟩
        clear c0 c1 c2 hp' hg' hfl hx HI hP hlt'
        go_wp2
        go_ret
        exact ⟨ret_bool HE.out.symm, bb hB (below_alloc _ _)⟩
      · have HS : Hid (∀ j y, j < k + 1 → es[j]? = some y → ¬ 20 < y.fs.length) := by
          intro j y hj hy
          by_cases h : j < k
          · exact HI.out j y h hy
          · obtain rfl : j = k := by omega
            rw [hx] at hy; cases hy; omega
        clear c0 c1 c2 hp' hg' hfl hx HI hP hlt'
        go_wp2
        go_roundw
        case rel => exact ⟨k + 1, by go_num, by omega, HS, bb hB (below_alloc _ _)⟩
        case measure => simp [intOf]; omega
    · obtain rfl : k = L := by omega
      have HE : Hid (r = false) := by
        unfold Hid; rw [← HR.out, List.any_eq_false]
        intro x hx
        obtain ⟨j, hj, rfl⟩ := List.getElem_of_mem hx
        have := HI.out j _ (by rw [← HL.out]; exact hj) (List.getElem?_eq_getElem hj)
        simpa using this
      clear HI
      go_wp2
      go_ret
      exact ⟨ret_bool HE.out.symm, hB⟩
theorem great_any (W : World) (A : Option Addr) (C : Nat) (es : List En) (hE : EntsAt W A C es) : AnsB W 10 #[.slice A es.length C] (.bool (greatB es)) := by
  unfold greatB
  by_cases h : 40 < es.length
  · have hcl := hE.cap
    have hcm := hE.max
    unfold maxLen at hcm
    rw [decide_eq_true h, Bool.true_or]
    exact great_long W A _ C (by omega) (by omega)
  · rw [decide_eq_false h, Bool.false_or]
    exact great_walk W A C es hE (by omega)

set_option maxHeartbeats 1000000 in
theorem checks0 (W : World) (s : Value) (HA : AnsB W 9 #[] (.bool true)) (HG : AnsB W 10 #[s] (.bool true)) : AnsB W 3 #[s] (.bool true) := by
  intro w hw
  go_enter Try.func3, Try.ntmps3
  go_wp2_with (first | (go_at_call 9; with_reducible refine AnsB.use HA hw fun w1 hb1 => ?_; have hB1 := bb hw hb1) | (go_at_call 10; with_reducible refine AnsB.use HG hB1 fun w2 hb2 => ?_))
  go_ret
  exact ⟨rfl, bb hb1 hb2⟩
set_option maxHeartbeats 1000000 in
theorem checks1 (W : World) (s : Value) (es : List En) (i e : Int) (HA : AnsB W 9 #[] (.bool true)) (HG : AnsB W 10 #[s] (.bool false)) (HR : RowsAns W s es)
    (HC : ∀ w A' C', EntsAt w A' C' es → AnsB w 11 #[.slice A' es.length C'] (.tuple #[.int .i64 i, .int .i64 e]))
    (HD : AnsB W 13 #[s] (.tuple #[.int .i64 i, .int .i64 e])) : AnsB W 3 #[s] (.bool true) := by
  intro w hw
  go_enter Try.func3, Try.ntmps3
  go_wp2_with (first | (go_at_call 9; with_reducible refine AnsB.use HA hw fun w1 hb1 => ?_; have hB1 := bb hw hb1) | (go_at_call 10; with_reducible refine AnsB.use HG hB1 fun w2 hb2 => ?_; have hB2 := bb hB1 hb2) | (go_at_call 12; with_reducible refine RowsAns.use HR hB2 fun A' C' w3 hE3 hb3 => ?_; have HC3 := HC w3 A' C' hE3; have hB3 := bb hB2 hb3) | (go_at_call 11; with_reducible refine AnsB.use HC3 (Below.refl _ _) fun w4 hb4 => ?_; have hB4 := bb hB3 hb4) | (go_at_call 13; with_reducible refine AnsB.use HD hB4 fun w5 hb5 => ?_))
  go_ret
  exact ⟨rfl, bb (bb (bb (bb hb1 hb2) hb3) hb4) hb5⟩
theorem check_pair (es : List En) : ∃ i e : Int, checkV es = .tuple #[.int .i64 i, .int .i64 e] := by
  unfold checkV
  split
  · exact ⟨_, _, rfl⟩
  · split
    · exact ⟨_, _, rfl⟩
    · exact ⟨_, _, rfl⟩
theorem checks_any (W : World) (A : Option Addr) (C : Nat) (es : List En) (hE : EntsAt W A C es) (hfs : ∀ x ∈ es, x.fs.length * 16 ≤ 140737488355328) :
    AnsB W 3 #[.slice A es.length C] (.bool true) := by
  have HG := great_any W A C es hE
  cases hg : greatB es with
  | true => rw [hg] at HG; exact checks0 W _ (alive_any W) HG
  | false =>
    rw [hg] at HG
    obtain ⟨h1, _⟩ := great_small hg
    obtain ⟨i, e, hv⟩ := check_pair es
    refine checks1 W _ es i e (alive_any W) HG (rows_any W A C es hE (by omega) hfs) (fun w A' C' hE' => ?_) ?_
    · rw [← hv]; exact check_any w A' C' es hE'
    · rw [← hv]; exact rcheck_any W A C es hE
end Go.Proofs.Ytgmdcpkpcajenaa

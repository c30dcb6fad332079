/-
  Contracts of math/bits.Len, pdqsortOrdered and slices.Sort of 1 to 12 words.
-/
import Derived.Test.YtafmmkhegkceiaaSv2
import Derived.Test.YtafmmkhegkceiaaBLen
namespace Go.Proofs.Ytafmmkhegkceiaa
set_option linter.unusedVariables false
open Go.RowKit

theorem len_walk (x r : Int) (HL : Ans 70 #[.int .u64 x] (.int .i64 r)) : Ans 49 #[.int .u64 x] (.int .i64 r) := by
  intro w
  go_enter Try.func49, Try.ntmps49
  go_wp2_with (go_at_call 70; with_reducible refine Ans.use HL _ fun n1 => ?_)
  go_ret
  exact ⟨rfl, n1, rfl⟩

/-- What sorts: the same words, in order, in the same row; nothing else has turned. -/
def SortAns (f : FuncId) (more : Array Value) (w : World) (base g cap : Nat) (l0 : List Nat) : Prop :=
  Calls Try.prog f (#[.slice (some ⟨g, 0, none⟩) l0.length cap] ++ more) w fun e w' => e = .returned (.tuple #[]) ∧ ∃ l : List Nat, l.Perm l0 ∧ l.Pairwise (· ≤ ·) ∧ w'.ownsRow base 26 1 (.slice (some ⟨g, 0, none⟩) l0.length cap) l0.length (l.map encU) ∧ w.grownBy w' (some g)

set_option maxHeartbeats 1000000 in
theorem pdq_any (w : World) (base g cap : Nat) (lim : Int) (l0 : List Nat) (hlen : l0.length ≤ 12) (hw : ∀ x ∈ l0, x < 18446744073709551616) (hrow : w.ownsRow base 26 1 (.slice (some ⟨g, 0, none⟩) l0.length cap) l0.length (l0.map encU)) :
    SortAns 48 #[.int .i64 0, .int .i64 (l0.length : Int), .int .i64 lim] w base g cap l0 := by
  have HI := insertion_any w base g cap l0 (by omega) hw hrow
  unfold SortAns
  obtain ⟨n, hn⟩ : ∃ n, l0.length = n := ⟨_, rfl⟩
  rw [hn] at hlen hrow HI ⊢
  clear hn
  go_enter Try.func48, Try.ntmps48
  go_wp2
  refine wp_loop_rounds 1 ?_
  rw [rounds_succ]
  go_wp2_with (go_at_call 60; refine HI.mono ?_; rintro e w' ⟨rfl, hx⟩)
  refine bodyPost_ret (results_none rfl _ _ _) rfl ?_
  exact ⟨rfl, hx⟩

theorem u64_of_len {n : Nat} (h : n ≤ 12) : IntKind.u64.wrap (n : Int) = (n : Int) := by rw [IntKind.wrap_u64]; omega
set_option maxHeartbeats 1000000 in
theorem sort_any (w : World) (base g cap : Nat) (l0 : List Nat) (hlen : l0.length ≤ 12) (hw : ∀ x ∈ l0, x < 18446744073709551616) (hrow : w.ownsRow base 26 1 (.slice (some ⟨g, 0, none⟩) l0.length cap) l0.length (l0.map encU)) :
    SortAns 36 #[] w base g cap l0 := by
  obtain ⟨r, HL⟩ : ∃ r : Int, Ans 49 #[.int .u64 (l0.length : Int)] (.int .i64 r) := ⟨_, len_walk _ _ (len64_any l0.length (by omega))⟩
  have HI := fun k => pdq_any (w.drewN k) base g cap r l0 hlen hw hrow
  unfold SortAns at HI ⊢
  have hu := u64_of_len hlen
  obtain ⟨n, hn⟩ : ∃ n, l0.length = n := ⟨_, rfl⟩
  rw [hn] at hlen hrow HI HL hu ⊢
  clear hn
  go_enter Try.func36, Try.ntmps36
  go_wp2_with (first | (go_at_call 49; with_reducible refine Ans.use HL _ fun n1 => ?_) | (go_at_call 48; refine (HI _).mono ?_; rintro e w' ⟨rfl, l, h1, h2, h3, h4⟩))
  go_end0
  exact ⟨rfl, l, h1, h2, h3, ⟨h4.os, h4.tape, h4.output, h4.size, h4.block⟩⟩
end Go.Proofs.Ytafmmkhegkceiaa

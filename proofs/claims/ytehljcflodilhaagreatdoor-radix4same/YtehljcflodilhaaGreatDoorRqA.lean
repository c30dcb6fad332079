/-
  What the document tells (alive) of layer 13, and which fault a list has. No condition but that the rows lie there.
-/
import Derived.Test.YtehljcflodilhaaGreatDoorF38
import Derived.Test.YtehljcflodilhaaGreatDoorDfA
namespace Go.Proofs.YtehljcflodilhaaGreatDoor
set_option linter.unusedVariables false
open Go.RowKit

set_option maxHeartbeats 1000000 in
theorem alive13_walk (W : World) (x : En) (HS : ∀ W, FNew W 10 #[.int .u64 5] x)
    (HU : ∀ (w : World) (b : Nat) {R : Ending → World → Prop}, FieldAt w b x → (∀ g C1 w', UAt w' (some ⟨g, 0, none⟩) C1 [0, 4, 3, 2] → Below w.heap.size w w' → R (.returned (.tuple #[.slice (some ⟨g, 0, none⟩) 4 C1, .int .i64 0])) w') →
      Calls Tryz.prog 7 #[pt b, .slice (some ⟨w.heap.size, 0, none⟩) 4 4, .bool false] (w.alloc (.cells #[.int .u64 1, .int .u64 2, .int .u64 3, .int .u64 4] 22)) R)
    (HV : ∀ (W : World) (g C : Nat) {R : Ending → World → Prop}, UAt W (some ⟨g, 0, none⟩) C [0, 4, 3, 2] → (∀ w', Below W.heap.size W w' → R (.returned (.bool true)) w') →
      Calls Tryz.prog 9 #[.slice (some ⟨g, 0, none⟩) 4 C, .slice (some ⟨W.heap.size, 0, none⟩) 4 4] (W.alloc (.cells #[.int .u64 0, .int .u64 4, .int .u64 3, .int .u64 2] 22)) R) : AnsB W 4 #[] (.bool true) := by
  intro w hw
  go_enter Tryz.func4, Tryz.ntmps4
  go_wp2_with (first
    | (go_at_call 10; with_reducible refine FNew.use (HS _) (Below.refl _ _) fun b w1 hF hb1 => ?_)
    | (go_at_call 7; with_reducible refine HU _ _ hF fun g C1 w2 hY hb2 => ?_)
    | (go_at_call 9; with_reducible refine HV _ _ _ hY fun w4 hb4 => ?_))
  go_ret
  exact ⟨rfl, bb hb1 (bb hb2 hb4)⟩
theorem ck5q : ck2 (enOf 5).p [1, 2, 3, 4] = 0 := by rw [p5]; decide
theorem alive13 (W : World) : AnsB W 4 #[] (.bool true) := by
  have hs : ∀ y ∈ dT (enOf 5) false [1, 2, 3, 4], y < 18446744073709551616 := by rw [dT5]; decide
  refine alive13_walk W (enOf 5) (fun W => small_yes W 5 odd5) (fun w b R hF k => ?_) (fun W g C R hU k => ?_)
  · have hU := lit_words w 1 2 3 4 (by omega) (by omega) (by omega) (by omega)
    have hB := below_alloc w (.cells #[.int .u64 1, .int .u64 2, .int .u64 3, .int .u64 4] 22)
    exact OwnT.useG (runq_ok (hF.below hB) fld5 hU ck5q false) (dT_len _ _ _) (by decide) (Below.refl _ _) fun g C1 w' q1 q2 => k g C1 w' (by rw [← dT5]; exact q1.words hs) (bb hB q2)
  · have hV := lit_words W 0 4 3 2 (by omega) (by omega) (by omega) (by omega)
    have hB := below_alloc W (.cells #[.int .u64 0, .int .u64 4, .int .u64 3, .int .u64 2] 22)
    exact AnsB.use (same_yes (hU.below hB) hV rfl) (Below.refl _ _) fun w' hb => k w' (bb hB hb)

/-! ### The document's Fault -/
theorem flt_err (w : World) (p : Int) (A : Option Addr) (n C : Nat) (e : Int) (he : (e != 0) = true) (hlen : (n : Int) ≤ 9223372036854775807) (HC : Ans 15 #[.int .u64 p, .int .i64 (n : Int), .int .i64 4096] (.int .i64 e)) : AnsW w 6 #[.int .u64 p, .slice A n C] (.int .i64 e) := by
  intro j
  go_enter Tryz.func6, Tryz.ntmps6
  go_wp2_with (go_at_call 15; with_reducible refine Ans.use HC _ fun n1 => ?_)
  go_ret
  exact ⟨rfl, _, by first | rfl | rw [World.drewN_drewN]⟩
theorem flt_kind (w : World) (p : Int) (A : Option Addr) (n C : Nat) (hlen : (n : Int) ≤ 9223372036854775807) (HC : Ans 15 #[.int .u64 p, .int .i64 (n : Int), .int .i64 4096] (.int .i64 0)) (HF : Ans 16 #[.int .i64 (n : Int)] (.bool false)) : AnsW w 6 #[.int .u64 p, .slice A n C] (.int .i64 11) := by
  intro j
  go_enter Tryz.func6, Tryz.ntmps6
  go_wp2_with (first
    | (go_at_call 15; with_reducible refine Ans.use HC _ fun n1 => ?_)
    | (go_at_call 16; with_reducible refine Ans.use HF _ fun n2 => ?_))
  go_ret
  exact ⟨rfl, n1 + n2, by simp [Nat.add_assoc]⟩
theorem flt_good (w : World) (p : Int) (A : Option Addr) (n C : Nat) (g : Bool) (e : Int) (heg : e = if g then 0 else 9) (hlen : (n : Int) ≤ 9223372036854775807) (HC : Ans 15 #[.int .u64 p, .int .i64 (n : Int), .int .i64 4096] (.int .i64 0)) (HF : Ans 16 #[.int .i64 (n : Int)] (.bool true)) (HG : AnsW w 17 #[.int .u64 p, .slice A n C] (.bool g)) : AnsW w 6 #[.int .u64 p, .slice A n C] (.int .i64 e) := by
  intro j
  cases g
  · subst heg
    go_enter Tryz.func6, Tryz.ntmps6
    go_wp2_with (first
      | (go_at_call 15; with_reducible refine Ans.use HC _ fun n1 => ?_)
      | (go_at_call 16; with_reducible refine Ans.use HF _ fun n2 => ?_)
      | (go_at_call 17; with_reducible refine AnsW.use HG _ fun n3 => ?_))
    go_ret
    exact ⟨rfl, n1 + n2 + n3, by simp [Nat.add_assoc]⟩
  · subst heg
    go_enter Tryz.func6, Tryz.ntmps6
    go_wp2_with (first
      | (go_at_call 15; with_reducible refine Ans.use HC _ fun n1 => ?_)
      | (go_at_call 16; with_reducible refine Ans.use HF _ fun n2 => ?_)
      | (go_at_call 17; with_reducible refine AnsW.use HG _ fun n3 => ?_))
    go_ret
    exact ⟨rfl, n1 + n2 + n3, by simp [Nat.add_assoc]⟩
theorem fault_any {p : Nat} (h2 : 2 ≤ p) (hp : p < 18446744073709551616) {w : World} {A : Option Addr} {C : Nat} {xs : List Nat} (hU : UAt w A C xs) : AnsW w 6 #[.int .u64 (p : Int), .slice A xs.length C] (.int .i64 (ck2 p xs)) := by
  have hlen := hU.len
  have HC := dcheck_any p (by omega) (by omega) (xs.length : Int) 4096 (by omega)
  have HF := dfits_any (xs.length : Int)
  have HG := dgood_any w p A C xs hU
  unfold ck2
  by_cases h : ckD p (xs.length : Int) 4096 = 0
  · rw [h] at HC
    rw [if_neg (by omega)]
    cases hf : fitV (xs.length : Int)
    · rw [hf] at HF
      rw [if_pos rfl]
      exact flt_kind w _ A _ C hlen HC HF
    · rw [hf] at HF
      rw [if_neg (by decide)]
      exact flt_good w _ A _ C (goodB p xs) _ (by cases goodB p xs <;> rfl) hlen HC HF HG
  · rw [if_pos h]
    exact flt_err w _ A _ C _ (by simp only [bne_iff_ne, ne_eq]; exact h) hlen HC
end Go.Proofs.YtehljcflodilhaaGreatDoor

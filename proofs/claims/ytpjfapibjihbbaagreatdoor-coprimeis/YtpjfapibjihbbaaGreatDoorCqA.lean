/-
  Which fault a list has, as the document of layer 15 says it. No condition but that the row lies there.
-/
import Derived.Test.YtpjfapibjihbbaaGreatDoorCq3
import Derived.Test.YtpjfapibjihbbaaGreatDoorDfA
namespace Go.Proofs.YtpjfapibjihbbaaGreatDoor
set_option linter.unusedVariables false
open Go.RowKit

theorem flc_err (W : World) (p : Int) (A : Option Addr) (n C : Nat) (a : Int) (e : Int) (he : (e != 0) = true) (hlen : (n : Int) ≤ 9223372036854775807) (HC : Ans 23 #[.int .u64 p, .int .i64 (n : Int), .int .i64 1024] (.int .i64 e)) : AnsB W 9 #[.int .u64 p, .slice A n C, .int .i64 a] (.int .i64 e) := by
  intro w hw
  go_enter Tryz.func9, Tryz.ntmps9
  go_wp2_with (go_at_call 23; with_reducible refine Ans.use HC _ fun n1 => ?_)
  go_ret
  exact ⟨rfl, below_drewN _ _⟩
theorem flc_kind (W : World) (p : Int) (A : Option Addr) (n C : Nat) (a : Int) (hlen : (n : Int) ≤ 9223372036854775807) (HC : Ans 23 #[.int .u64 p, .int .i64 (n : Int), .int .i64 1024] (.int .i64 0)) (HF : Ans 24 #[.int .i64 (n : Int), .int .i64 a] (.bool false)) : AnsB W 9 #[.int .u64 p, .slice A n C, .int .i64 a] (.int .i64 11) := by
  intro w hw
  go_enter Tryz.func9, Tryz.ntmps9
  go_wp2_with (first
    | (go_at_call 23; with_reducible refine Ans.use HC _ fun n1 => ?_)
    | (go_at_call 24; with_reducible refine Ans.use HF _ fun n2 => ?_))
  go_ret
  exact ⟨rfl, below_drewN _ _⟩
theorem flc_good (W : World) (p : Int) (A : Option Addr) (n C : Nat) (a : Int) (g : Bool) (e : Int) (heg : e = if g then 0 else 9) (hlen : (n : Int) ≤ 9223372036854775807) (HC : Ans 23 #[.int .u64 p, .int .i64 (n : Int), .int .i64 1024] (.int .i64 0)) (HF : Ans 24 #[.int .i64 (n : Int), .int .i64 a] (.bool true)) (HG : ∀ w, Below W.heap.size W w → AnsW w 25 #[.int .u64 p, .slice A n C] (.bool g)) : AnsB W 9 #[.int .u64 p, .slice A n C, .int .i64 a] (.int .i64 e) := by
  intro w hw
  have HG1 := HG w hw
  cases g
  · subst heg
    go_enter Tryz.func9, Tryz.ntmps9
    go_wp2_with (first
      | (go_at_call 23; with_reducible refine Ans.use HC _ fun n1 => ?_)
      | (go_at_call 24; with_reducible refine Ans.use HF _ fun n2 => ?_)
      | (go_at_call 25; with_reducible refine AnsW.use HG1 _ fun n3 => ?_))
    go_ret
    exact ⟨rfl, below_drewN w _⟩
  · subst heg
    go_enter Tryz.func9, Tryz.ntmps9
    go_wp2_with (first
      | (go_at_call 23; with_reducible refine Ans.use HC _ fun n1 => ?_)
      | (go_at_call 24; with_reducible refine Ans.use HF _ fun n2 => ?_)
      | (go_at_call 25; with_reducible refine AnsW.use HG1 _ fun n3 => ?_))
    go_ret
    exact ⟨rfl, below_drewN w _⟩
theorem faultc_any {p : Nat} (h2 : 2 ≤ p) (hp : p < 18446744073709551616) {W : World} {A : Option Addr} {C : Nat} {xs : List Nat} (hU : UAt W A C xs) (a : Int) : AnsB W 9 #[.int .u64 (p : Int), .slice A xs.length C, .int .i64 a] (.int .i64 (ck4 p xs a)) := by
  have hlen := hU.len
  have HC := dcheck_any p (by omega) (by omega) (xs.length : Int) 1024 (by omega)
  have HG := fun w (hw : Below W.heap.size W w) => dgood_any w p A C xs (hU.below hw)
  unfold ck4
  by_cases h : ckD p (xs.length : Int) 1024 = 0
  · have hl := (ckD_ok h).2.1
    have HF := dfit_any (xs.length : Int) a (by omega)
    rw [h] at HC
    rw [if_neg (by omega)]
    cases hf : fitQ (xs.length : Int) a
    · rw [hf] at HF
      rw [if_pos rfl]
      exact flc_kind W _ A _ C a hlen HC HF
    · rw [hf] at HF
      rw [if_neg (by decide)]
      exact flc_good W _ A _ C a (goodB p xs) _ (by cases goodB p xs <;> rfl) hlen HC HF HG
  · rw [if_pos h]
    exact flc_err W _ A _ C a _ (by simp only [bne_iff_ne, ne_eq]; exact h) hlen HC
/-- The transform's list has no fault, by either part. -/
theorem ck4_dT {x : En} (hF : Fld x) {i : Bool} {xs : List Nat} {a : Int} (h : ck4 x.p xs a = 0) : ck4 x.p (dT x i xs) a = 0 := by
  obtain ⟨_, _, _, _, _, _, _, _, _, _, _, hk, _⟩ := ck4_ok h
  unfold ck4 at h ⊢
  rw [dT_len, if_neg (by omega)]
  rw [if_neg (by omega)] at h
  cases hf : fitQ (xs.length : Int) a
  · rw [hf, if_pos rfl] at h; cases h
  · rw [if_neg (by decide), goodB_iff.2 (dT_lt hF i xs), if_neg (by decide)]
theorem fit_other {a b : Nat} (ha : 2 ≤ a) (hb : 2 ≤ b) (hc : Nat.Coprime a b) : fitQ (((a * b : Nat)) : Int) (b : Int) = true := by
  have := tab_fit (a := b) (b := a) (by omega)
  rw [Nat.mul_comm b a] at this
  rw [this]
  simp only [Bool.and_eq_true, decide_eq_true_eq, beq_iff_eq]
  exact ⟨⟨by omega, by omega⟩, hc.symm⟩
theorem ck4_other {p : Nat} {xs : List Nat} {a b : Nat} (h : ck4 p xs (a : Int) = 0) (hb : a * b = xs.length) : ck4 p xs (b : Int) = 0 := by
  obtain ⟨i, j, e, q2, q3, q4, q5, _, _, _, _, hk, hg⟩ := ck4_ok h
  obtain rfl : i = a := by omega
  have hj : j = b := Nat.eq_of_mul_eq_mul_left (show 0 < i by omega) (q2.trans hb.symm)
  subst hj
  have hf := fit_other q3 q4 q5
  rw [q2] at hf
  unfold ck4
  rw [if_neg (by omega), hf, if_neg (by decide), hg, if_neg (by decide)]
end Go.Proofs.YtpjfapibjihbbaaGreatDoor

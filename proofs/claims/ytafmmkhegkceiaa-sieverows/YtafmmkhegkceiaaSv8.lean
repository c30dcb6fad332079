/-
  Contracts of sieve's Factor, Prime and provable, of all words.
-/
import Derived.Test.YtafmmkhegkceiaaSv7
namespace Go.Proofs.Ytafmmkhegkceiaa
set_option linter.unusedVariables false
open Go.RowKit

theorem factor_any (n : Nat) (hn : n < 18446744073709551616) : FacAns 11 (.int .u64 (n : Int)) (facS n) := by
  unfold facS
  by_cases h2 : n < 2
  · rw [if_neg (by omega)]; exact factor_few n h2
  · by_cases h : n ≤ 4294967296
    · rw [if_pos ⟨by omega, h⟩]; exact factor_walk n (by omega) h
    · rw [if_neg (by omega)]; exact factor_great n (by omega) (by omega) hn

/-- A call that answers so in every world, makes memory, and leaves all that was there. -/
def AnsM (f : FuncId) (args : Array Value) (v : Value) : Prop := ∀ w, Calls Try.prog f args w fun e w' => e = .returned v ∧ Below w.heap.size w w'
theorem AnsM.use {f : FuncId} {args : Array Value} {v : Value} (h : AnsM f args v) {w : World} {R : Ending → World → Prop} (k : ∀ w', Below w.heap.size w w' → R (.returned v) w') : Calls Try.prog f args w R :=
  (h w).mono fun _ _ ⟨he, hb⟩ => by subst he; exact k _ hb
theorem AnsM.to {f : FuncId} {args : Array Value} {v v' : Value} (h : AnsM f args v) (e : v = v') : AnsM f args v' := e ▸ h
theorem Ans.toM {f : FuncId} {args : Array Value} {v : Value} (h : Ans f args v) : AnsM f args v := fun w => h.use w fun n => ⟨rfl, below_drewN w n⟩
theorem AnsM.toB {f : FuncId} {args : Array Value} {v : Value} (h : AnsM f args v) (W : World) : AnsB W f args v := fun w _ => h w

theorem prime_none (n : Int) (HF : FacAns 11 (.int .u64 n) []) : AnsM 13 #[.int .u64 n] (.bool false) := by
  intro w
  go_enter Try.func13, Try.ntmps13
  go_wp2_with (go_at_call 11; with_reducible refine FacAns.use HF fun A C w1 hP hB => ?_)
  go_ret
  exact ⟨rfl, hB⟩
theorem prime_some (n q : Nat) (l : List Pw) (x : Pw) (hx : l[0]? = some x) (hq : x.q = q) (b : Bool) (hb : ((q : Int) == (n : Int)) = b) (HF : FacAns 11 (.int .u64 (n : Int)) l) : AnsM 13 #[.int .u64 (n : Int)] (.bool b) := by
  intro w
  have hlen : 0 < l.length := (List.getElem?_eq_some_iff.1 hx).1
  obtain ⟨L, hL⟩ : ∃ L, l.length = L := ⟨_, rfl⟩
  have HL : Hid (l.length = L) := hL
  rw [hL] at hlen
  have HX : Hid (l[0]? = some x) := hx
  have HQ : Hid (x.q = q) := hq
  clear hx hq hL
  have hgd : decide ((0 : Int) < (L : Int)) = true := decide_eq_true (by omega)
  go_enter Try.func13, Try.ntmps13
  go_wp2_with (go_at_call 11; with_reducible refine FacAns.use HF fun A C w1 hP hB => ?_; rw [HL.out]; obtain ⟨bk, o, hA, hbl, c0, c1, hok⟩ := hP.get 0 x HX.out; subst hA; rw [HQ.out] at c0; simp only [Nat.zero_mul, Nat.add_zero] at c0)
  go_ret
  exact ⟨rfl, hB⟩
theorem pf_head {n : Nat} (h2 : 2 ≤ n) : ∃ q, (pf n)[0]? = some q ∧ (q = n ↔ Prm n) := by
  obtain ⟨r, hr, hd⟩ := has_prime n h2
  have hm := (mem_pf (show 1 ≤ n by omega)).2 ⟨hr, hd⟩
  have hpos := List.length_pos_of_mem hm
  obtain ⟨q, hq⟩ : ∃ q, (pf n)[0]? = some q := ⟨_, List.getElem?_eq_getElem hpos⟩
  obtain ⟨pq, dq⟩ := (mem_pf (show 1 ≤ n by omega)).1 (List.mem_of_getElem? hq)
  refine ⟨q, hq, fun e => e ▸ pq, fun hp => ?_⟩
  rcases hp.2 q dq with e | e
  · have := pq.1; omega
  · exact e
/-- Prime. -/
theorem prime_any (n : Nat) (hn : n < 18446744073709551616) : AnsM 13 #[.int .u64 (n : Int)] (.bool (prm32 n)) := by
  have HF := factor_any n hn
  unfold facS at HF
  by_cases h : 2 ≤ n ∧ n ≤ 4294967296
  · rw [if_pos h] at HF
    obtain ⟨q, hq, hi⟩ := pf_head h.1
    refine prime_some n q (facOf n) ⟨q, (vp q n : Nat)⟩ (facOf_get hq) rfl _ ?_ HF
    unfold prm32
    rw [decide_eq_true h.2, Bool.and_true, Bool.eq_iff_iff, prmB_iff, beq_iff_eq, ← hi]
    omega
  · rw [if_neg h] at HF
    refine (prime_none (n : Int) HF).to ?_
    unfold prm32
    congr 1
    by_cases h1 : n ≤ 4294967296
    · rw [prmB_no fun hp => h ⟨hp.1, h1⟩, Bool.false_and]
    · rw [decide_eq_false h1, Bool.and_false]
theorem provable_even (p : Nat) (hn : p < 18446744073709551616) (h : ((p : Int) % 2 == 1) = false) : AnsM 25 #[.int .u64 (p : Int)] (.bool false) := by
  intro w
  go_enter Try.func25, Try.ntmps25
  go_wp2
  go_ret
  exact ⟨rfl, Below.refl _ _⟩
theorem provable_great (p : Nat) (hn : p < 18446744073709551616) (h : ((p : Int) % 2 == 1) = true) (hp : 65536 < p) : AnsM 25 #[.int .u64 (p : Int)] (.bool false) := by
  intro w
  go_enter Try.func25, Try.ntmps25
  go_wp2
  go_ret
  exact ⟨rfl, Below.refl _ _⟩
theorem provable_walk (p : Nat) (h : ((p : Int) % 2 == 1) = true) (hp : p ≤ 65536) (b : Bool) (HP : AnsM 13 #[.int .u64 (p : Int)] (.bool b)) : AnsM 25 #[.int .u64 (p : Int)] (.bool b) := by
  intro w
  go_enter Try.func25, Try.ntmps25
  go_wp2_with (go_at_call 13; with_reducible refine AnsM.use HP fun w1 hB => ?_)
  go_ret
  exact ⟨rfl, hB⟩
/-- provable. -/
theorem provable_any (p : Nat) (hn : p < 18446744073709551616) : AnsM 25 #[.int .u64 (p : Int)] (.bool (oddB p)) := by
  unfold oddB
  by_cases ho : p % 2 = 1
  · have h : ((p : Int) % 2 == 1) = true := by rw [beq_iff_eq]; omega
    by_cases hp : p ≤ 65536
    · refine provable_walk p h hp _ ((prime_any p hn).to ?_)
      unfold prm32
      rw [decide_eq_true (show p ≤ 4294967296 by omega), decide_eq_true hp, Bool.and_true, Bool.and_true]
      congr 1
      by_cases h3 : 3 ≤ p
      · rw [decide_eq_true h3, Bool.and_true]
      · rw [prmB_no fun hp' => by have := hp'.1; omega, Bool.false_and]
    · rw [decide_eq_false hp, Bool.and_false]; exact provable_great p hn h (by omega)
  · have h : ((p : Int) % 2 == 1) = false := by rw [beq_eq_false_iff_ne]; omega
    refine (provable_even p hn h).to ?_
    congr 1
    by_cases h3 : 3 ≤ p
    · rw [prmB_no fun hp => ?_, Bool.false_and, Bool.false_and]
      rcases hp.2 2 ⟨p / 2, by omega⟩ with e | e <;> omega
    · rw [decide_eq_false h3, Bool.and_false, Bool.false_and]
end Go.Proofs.Ytafmmkhegkceiaa

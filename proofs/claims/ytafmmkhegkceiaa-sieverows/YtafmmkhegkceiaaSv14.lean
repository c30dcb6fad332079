/-
  What the document tells (alive), of layer 5; the walks of SieveGenerates.
-/
import Derived.Test.YtafmmkhegkceiaaSv13
import Derived.Test.YtafmmkhegkceiaaDocP
namespace Go.Proofs.Ytafmmkhegkceiaa
set_option linter.unusedVariables false
open Go.RowKit

theorem prm_check {n d : Nat} (h2 : 2 ≤ n) (hd : n < d * d) (h : ∀ r, r < d → r < 2 ∨ n % r ≠ 0) : Prm n :=
  prm_of_root h2 hd fun r hr hl hdv => by
    rcases h r hl with e | e
    · have := hr.1; omega
    · exact e (Nat.mod_eq_zero_of_dvd hdv)
theorem prms_ten : prmsTo 10 = [2, 3, 5, 7] := by
  have p2 : Prm 2 := prm_two
  have p3 : Prm 3 := prm_check (d := 2) (by omega) (by omega) (by decide)
  have p5 : Prm 5 := prm_check (d := 3) (by omega) (by omega) (by decide)
  have p7 : Prm 7 := prm_check (d := 3) (by omega) (by omega) (by decide)
  have n4 : ¬ Prm 4 := not_prm_dvd (d := 2) (by omega) (by omega) (by omega)
  have n6 : ¬ Prm 6 := not_prm_dvd (d := 2) (by omega) (by omega) (by omega)
  have n8 : ¬ Prm 8 := not_prm_dvd (d := 2) (by omega) (by omega) (by omega)
  have n9 : ¬ Prm 9 := not_prm_dvd (d := 3) (by omega) (by omega) (by omega)
  have n10 : ¬ Prm 10 := not_prm_dvd (d := 2) (by omega) (by omega) (by omega)
  unfold prmsTo
  rw [if_neg (by omega), show (min (10 : Int) 65536).toNat + 1 = 11 from rfl]
  rw [prms_no n10, prms_no n9, prms_no n8, prms_yes p7, prms_no n6, prms_yes p5, prms_no n4, prms_yes p3, prms_yes p2, prms_two]
  rfl
theorem odd_seven : Odd16 7 := ⟨prm_check (d := 3) (by omega) (by omega) (by decide), by omega, by omega⟩
theorem gen_seven : genOf 7 = 3 := by
  obtain ⟨h1, h2, h3, h4⟩ := genOf_spec odd_seven
  have g3 : GenP 3 7 := by
    intro q hq
    obtain ⟨pq, dq⟩ := (mem_pf (by omega)).1 hq
    have h5 := pq.1
    have h6 := Nat.le_of_dvd (by omega) dq
    have key : ∀ q, q < 7 → 2 ≤ q → 3 ^ ((7 - 1) / q) % 7 ≠ 1 := by decide
    exact key q (by omega) h5
  have n2 : ¬ GenP 2 7 := fun h => h 2 ((mem_pf (by omega)).2 ⟨prm_two, ⟨3, rfl⟩⟩) rfl
  by_cases e2 : genOf 7 = 2
  · rw [e2] at h3; exact absurd h3 n2
  · by_cases e3 : 3 < genOf 7
    · exact absurd g3 (h4 3 (by omega) e3)
    · omega
theorem prime_97 : prm32 97 = true := by
  unfold prm32
  rw [prmB_yes (prm_check (d := 10) (by omega) (by omega) (by decide))]; rfl
theorem alive_walk (HP : IntsAns 9 (.int .i64 10) [2, 3, 5, 7]) (HG : AnsM 14 #[.int .u64 7] (.int .u64 3)) (HT : AnsM 13 #[.int .u64 97] (.bool true)) : AnsM 8 #[] (.bool true) := by
  intro w
  go_enter Try.func8, Try.ntmps8
  go_wp2_with (first
    | (go_at_call 9; refine IntsAns.use HP fun A C w1 hI hB => ?_; obtain ⟨b, o, hA, hbl, c0⟩ := hI.get 0 2 rfl; obtain ⟨b', o', hA', hbl', c3⟩ := hI.get 3 7 rfl; rw [hA] at hA'; cases hA'; subst hA; have c0' : w1.cell? ⟨b, o, none⟩ = some (.int .i64 2) := c0; have c3' : w1.cell? ⟨b, o + 3, none⟩ = some (.int .i64 7) := c3; clear c0 c3)
    | (go_at_call 14; with_reducible refine AnsM.use HG fun w2 hB2 => ?_)
    | (go_at_call 13; with_reducible refine AnsM.use HT fun w3 hB3 => ?_))
  go_ret
  exact ⟨rfl, bb (bb hB hB2) hB3⟩
theorem alive_any : AnsM 8 #[] (.bool true) := by
  refine alive_walk ?_ ?_ ?_
  · have := primes_any 10 (by omega); rw [prms_ten] at this; exact this
  · have := generator_any 7 (by omega); rw [gen_seven] at this; exact this
  · have := prime_any 97 (by omega); rw [prime_97] at this; exact this

/-! ### SieveGenerates -/
theorem generates_law0 (p x : Nat) (hn : p < 18446744073709551616) (hx : x < 18446744073709551616) (HG : AnsM 14 #[.int .u64 (p : Int)] (.int .u64 0)) (HR : Ans 15 #[.int .u64 (p : Int)] (.int .u64 0)) : AnsM 5 #[.int .u64 (p : Int), .int .u64 (x : Int)] (.bool true) := by
  intro w
  have HA := alive_any
  go_enter Try.func5, Try.ntmps5
  go_wp2_with (first
    | (go_at_call 8; with_reducible refine AnsM.use HA fun w1 hB1 => ?_)
    | (go_at_call 14; with_reducible refine AnsM.use HG fun w2 hB2 => ?_)
    | (go_at_call 15; with_reducible refine Ans.use HR _ fun n1 => ?_))
  go_quiet ((fail))
  go_wp2
  go_ret
  exact ⟨rfl, bb (bb (bb hB1 hB2) (below_drewN _ _)) (below_drewN _ _)⟩
set_option maxHeartbeats 1000000 in
theorem generates_law1 (p x g p1 r s : Nat) (hn : p < 18446744073709551616) (hx : x < 18446744073709551616) (hp3 : 3 ≤ p) (hp1 : p - 1 = p1) (hg : 2 ≤ g) (hr : x % p1 = r) (hiff : s = 1 ↔ r = 0) (HG : AnsM 14 #[.int .u64 (p : Int)] (.int .u64 (g : Int))) (HR : Ans 15 #[.int .u64 (p : Int)] (.int .u64 (g : Int)))
    (HP : Ans 16 #[.int .u64 (g : Int), .int .u64 (x : Int), .int .u64 (p : Int)] (.int .u64 (s : Int))) : AnsM 5 #[.int .u64 (p : Int), .int .u64 (x : Int)] (.bool true) := by
  intro w
  have HA := alive_any
  have e1 : (p : Int) - 1 = (p1 : Int) := by omega
  have e2 : IntKind.u64.wrap (p1 : Int) = (p1 : Int) := by rw [IntKind.wrap_u64]; omega
  have e3 : ¬ (p1 : Int) = 0 := by omega
  have e4 : Int.tmod (x : Int) (p1 : Int) = (r : Int) := by rw [← Int.ofNat_tmod, hr]
  have e5 : (x : Int) % (p1 : Int) = (r : Int) := by rw [← Int.natCast_emod, hr]
  have hrl : r < 18446744073709551616 := by have := Nat.mod_lt x (show 0 < p1 by omega); omega
  have e6 : IntKind.u64.wrap (r : Int) = (r : Int) := by rw [IntKind.wrap_u64]; omega
  have e7 : ((g : Int) == 0) = false := by rw [beq_eq_false_iff_ne]; omega
  have HE : Hid ((((s : Int) == 1) == ((r : Int) == 0)) = true) := by
    unfold Hid
    rw [beq_iff_eq, Bool.eq_iff_iff, beq_iff_eq, beq_iff_eq]; omega
  obtain ⟨bs, hbs⟩ : ∃ bs, ((s : Int) == 1) = bs := ⟨_, rfl⟩
  obtain ⟨br, hbr⟩ : ∃ br, ((r : Int) == 0) = br := ⟨_, rfl⟩
  rw [hbs, hbr] at HE
  clear hr hp1 hiff
  go_enter Try.func5, Try.ntmps5
  go_wp2_with (first
    | (go_at_call 8; with_reducible refine AnsM.use HA fun w1 hB1 => ?_)
    | (go_at_call 14; with_reducible refine AnsM.use HG fun w2 hB2 => ?_)
    | (go_at_call 15; with_reducible refine Ans.use HR _ fun n1 => ?_))
  go_quiet ((go_at_call 16; first | (with_reducible exact Ans.quiet HP) | (with_reducible exact Ans.quiet0 HP)))
  go_wp2
  go_ret
  exact ⟨rbool (by simpa using HE.out), bb (bb (bb hB1 hB2) (below_drewN _ _)) (below_drewN _ _)⟩
/-- SieveGenerates, of all numbers. -/
theorem generates_holds (p x : Nat) (hn : p < 18446744073709551616) (hx : x < 18446744073709551616) : AnsM 5 #[.int .u64 (p : Int), .int .u64 (x : Int)] (.bool true) := by
  have HG := generator_any p hn
  have HR := rgen_any p hn
  by_cases ho : Odd16 p
  · obtain ⟨g1, g2, g3, g4⟩ := genOf_spec ho
    have h3 := ho.2.1
    have hl := gen_luc ho.1 h3 (fun h => by have := Nat.le_of_dvd (by omega) h; omega) g3
    exact generates_law1 p x (genOf p) (p - 1) (x % (p - 1)) (genOf p ^ x % p) hn hx h3 rfl g1 rfl (hl.order_iff x) HG HR (rpow_any (genOf p) p (by omega) hn (by omega) x hx)
  · rw [genOf_no ho] at HG HR
    exact generates_law0 p x hn hx HG HR
end Go.Proofs.Ytafmmkhegkceiaa

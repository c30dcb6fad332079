/-
  The walk of SieveFactors: of all numbers.
-/
import Derived.Test.YtafmmkhegkceiaaSv15
namespace Go.Proofs.Ytafmmkhegkceiaa
set_option linter.unusedVariables false
open Go.RowKit

/-- What the factors from the k-th on come to. -/
noncomputable def restP (n k : Nat) : Nat := prodOf (powsOf n ((pf n).drop k))
theorem restP_zero {n : Nat} (h : 1 ≤ n) : restP n 0 = n := by unfold restP; rw [List.drop_zero]; exact prod_fac h
theorem restP_step {n k q : Nat} (h : (pf n)[k]? = some q) : restP n k = q ^ vp q n * restP n (k + 1) := by
  unfold restP
  obtain ⟨hk, rfl⟩ := List.getElem?_eq_some_iff.1 h
  rw [List.drop_eq_getElem_cons hk]; rfl
theorem restP_end {n k : Nat} (h : (pf n).length ≤ k) : restP n k = 1 := by unfold restP; rw [List.drop_eq_nil_of_le h]; rfl
theorem factors_none (n : Nat) (hn : n < 18446744073709551616) (h : n < 2 ∨ 4294967296 < n) (t : Bool) (HF : FacAns 11 (.int .u64 (n : Int)) []) (HR : FacAns 12 (.int .u64 (n : Int)) [])
    (HP : AnsM 13 #[.int .u64 (n : Int)] (.bool t)) (HQ : Ans 10 #[.int .u64 (n : Int)] (.bool t)) : AnsM 4 #[.int .u64 (n : Int)] (.bool true) := by
  intro w
  have HA := alive_any
  have ht : (t != t) = false := by cases t <;> rfl
  go_enter Try.func4, Try.ntmps4
  go_wp2_with (first
    | (go_at_call 8; with_reducible refine AnsM.use HA fun w1 hB1 => ?_)
    | (go_at_call 11; with_reducible refine FacAns.use HF fun A C w2 hP2 hB2 => ?_)
    | (go_at_call 12; with_reducible refine FacAns.use HR fun A' C' w3 hP3 hB3 => ?_)
    | (go_at_call 13; with_reducible refine AnsM.use HP fun w4 hB4 => ?_)
    | (go_at_call 10; with_reducible refine Ans.use HQ _ fun n1 => ?_))
  refine wp_loop_rounds 1 ?_
  rw [rounds_succ]
  have hB : Below w.heap.size w (w4.drewN n1) := bb (bb (bb (bb hB1 hB2) hB3) hB4) (below_drewN _ _)
  by_cases h2 : n < 2
  · by_cases h1 : n = 1
    · subst h1
      go_wp2
      go_ret
      exact ⟨rfl, hB⟩
    · obtain rfl : n = 0 := by omega
      go_wp2
      go_ret
      exact ⟨rfl, hB⟩
  · have h4 : 4294967296 < n := by omega
    have e1 : ((1 : Int) == (n : Int)) = false := by rw [beq_eq_false_iff_ne]; omega
    go_wp2
    go_ret
    exact ⟨rbool (by simp; omega), hB⟩
set_option maxRecDepth 100000 in
set_option maxHeartbeats 4000000 in
theorem factors_some (n : Nat) (h2 : 2 ≤ n) (hle : n ≤ 4294967296) (t : Bool) (HF : FacAns 11 (.int .u64 (n : Int)) (facOf n)) (HR : FacAns 12 (.int .u64 (n : Int)) (facOf n))
    (HP : AnsM 13 #[.int .u64 (n : Int)] (.bool t)) (HQ : Ans 10 #[.int .u64 (n : Int)] (.bool t)) : AnsM 4 #[.int .u64 (n : Int)] (.bool true) := by
  intro w
  have HA := alive_any
  have ht : (t != t) = false := by cases t <;> rfl
  obtain ⟨L, hL⟩ : ∃ L, (facOf n).length = L := ⟨_, rfl⟩
  have HL : Hid ((facOf n).length = L) := hL
  have HL2 : Hid ((pf n).length = L) := (facOf_len n).symm.trans hL
  have hL12 : L ≤ 11 := by rw [← hL, facOf_len]; exact pf_few (by omega) hle
  clear hL
  go_enter Try.func4, Try.ntmps4
  go_wp2_with (first
    | (go_at_call 8; with_reducible refine AnsM.use HA fun w1 hB1 => ?_)
    | (go_at_call 11; with_reducible refine FacAns.use HF fun A C w2 hP2 hB2 => ?_; rw [HL.out])
    | (go_at_call 12; with_reducible refine FacAns.use HR fun A' C' w3 hP3 hB3 => ?_; rw [HL.out])
    | (go_at_call 13; with_reducible refine AnsM.use HP fun w4 hB4 => ?_)
    | (go_at_call 10; with_reducible refine Ans.use HQ _ fun n1 => ?_))
  have hB45 : Below w4.heap.size w4 (w4.drewN n1) := below_drewN _ _
  obtain ⟨W, hW⟩ : ∃ W, w4.drewN n1 = W := ⟨_, rfl⟩
  rw [hW] at hB45 ⊢
  have HP2 : Hid (PowsAt W A C (facOf n)) := ((hP2.below hB3).below hB4).below hB45
  have HP3 : Hid (PowsAt W A' C' (facOf n)) := (hP3.below hB4).below hB45
  have hBW : Below w.heap.size w W := bb (bb (bb (bb hB1 hB2) hB3) hB4) hB45
  clear hP2 hP3 hB1 hB2 hB3 hB4 hB45 hW HF HR HP HQ HA
  go_wp2
  go_loopw [5, 29] (fun x v wr => ∃ m k : Nat, x = .int .u64 (m : Int) ∧ v = .int .i64 (k : Int) ∧ k ≤ L ∧ Hid (m * restP n k = n) ∧ Below W.heap.size W wr) (fun _ v _ => L - (intOf v).toNat)
  case atStart => exact ⟨1, 0, rfl, rfl, by omega, by unfold Hid; rw [restP_zero (by omega), Nat.one_mul], Below.refl _ _⟩
  case round =>
    obtain ⟨m, k, rfl, rfl, hk, HM, hB⟩ := hrel
    by_cases hlt : k < L
    · obtain ⟨q, hq⟩ : ∃ q, (pf n)[k]? = some q := ⟨_, List.getElem?_eq_getElem (by rw [HL2.out]; exact hlt)⟩
      obtain ⟨pq, dq⟩ := (mem_pf (show 1 ≤ n by omega)).1 (List.mem_of_getElem? hq)
      have hq2 := pq.1
      have hqn := Nat.le_of_dvd (by omega) dq
      obtain ⟨e, he⟩ : ∃ e, vp q n = e := ⟨_, rfl⟩
      have hen : e < n := he ▸ vp_le hq2 (by omega)
      have hfx := facOf_get hq
      have HR1 : Hid (restP n k = q ^ e * restP n (k + 1)) := by unfold Hid; rw [restP_step hq, he]
      rw [he] at hfx
      obtain ⟨b, o, hA, hbl, c0, c1, _⟩ := HP2.out.get k _ hfx
      subst hA
      obtain ⟨b', o', hA', hbl', d0, d1, _⟩ := HP3.out.get k _ hfx
      subst hA'
      replace c0 : W.cell? ⟨b, o + k * 2, none⟩ = some (.int .u64 (q : Int)) := c0
      replace c1 : W.cell? ⟨b, o + k * 2 + 1, none⟩ = some (.int .i64 (e : Int)) := c1
      replace d0 : W.cell? ⟨b', o' + k * 2, none⟩ = some (.int .u64 (q : Int)) := d0
      replace d1 : W.cell? ⟨b', o' + k * 2 + 1, none⟩ = some (.int .i64 (e : Int)) := d1
      have c0' := kcell hB hbl c0
      have c1' := kcell hB hbl c1
      have d0' := kcell hB hbl' d0
      have d1' := kcell hB hbl' d1
      obtain ⟨t0, t1⟩ := tcells wr (.int .u64 (q : Int)) (.int .i64 (e : Int)) 33
      obtain ⟨V, hV⟩ : ∃ V, wr.alloc (.cells #[.int .u64 (q : Int), .int .i64 (e : Int)] 33) = V := ⟨_, rfl⟩
      have hBV : Below wr.heap.size wr V := hV ▸ below_alloc _ _
      have hbW : b' < wr.heap.size := Nat.lt_of_lt_of_le hbl' hB.size
      have dv0 := kcell hBV hbW d0'
      have dv1 := kcell hBV hbW d1'
      rw [hV] at t0 t1
      obtain ⟨bo, hbo⟩ : ∃ bo, wr.heap.size = bo := ⟨_, rfl⟩
      rw [hbo] at t0 t1
      have hboV : bo < V.heap.size := by rw [← hV, ← hbo]; simp
      have hBV2 : Below W.heap.size W V := bb hB hBV
      have hg1 : ((q : Int) != (q : Int)) = false := by simp
      have hg2 : ((e : Int) != (e : Int)) = false := by simp
      clear c0 c1 d0 d1 d0' d1' hq pq dq he hfx hB hBV
      go_wp2
      clear hV hbo c0' c1'
      go_quiet ((fail))
      go_wp2
      obtain ⟨V2, hV2⟩ : ∃ V2, V.drewN nq = V2 := ⟨_, rfl⟩
      have hBV3 : Below W.heap.size W V2 := by rw [← hV2]; exact bb hBV2 (below_drewN _ _)
      have s0 : V2.cell? ⟨bo, 0, none⟩ = some (.int .u64 (q : Int)) := by rw [← hV2]; exact t0
      have s1 : V2.cell? ⟨bo, 1, none⟩ = some (.int .i64 (e : Int)) := by rw [← hV2]; exact t1
      rw [hV2]
      have HM1 : Hid (m * (q ^ e * restP n (k + 1)) = n) := by unfold Hid; rw [← HR1.out]; exact HM.out
      clear hV2 t0 t1 hBV2 dv0 dv1 HM HR1
      go_loopw [5, 8] (fun x v wi => ∃ m s : Nat, x = .int .u64 (m : Int) ∧ v = .int .i64 (s : Int) ∧ s ≤ e ∧ Hid (m * (q ^ (e - s) * restP n (k + 1)) = n) ∧ wi = V2) (fun _ v _ => e - (intOf v).toNat)
      case atStart => exact ⟨m, 0, rfl, rfl, by omega, HM1, rfl⟩
      case round =>
        clear HM1
        obtain ⟨m, s, rfl, rfl, hs, HM, rfl⟩ := hrel
        by_cases hse : s < e
        · have HM2 : Hid (m * q * (q ^ (e - (s + 1)) * restP n (k + 1)) = n) := by
            have h1 := HM.out
            rw [show e - s = (e - (s + 1)) + 1 by omega, Nat.pow_succ] at h1
            unfold Hid
            refine Eq.trans ?_ h1
            grind
          have hmq : m * q ≤ n := by
            have h1 := HM2.out
            refine Nat.le_of_dvd (by omega) ⟨_, h1.symm⟩
          obtain ⟨r, hr⟩ : ∃ r, m * q = r := ⟨_, rfl⟩
          have hw : IntKind.u64.wrap ((m : Int) * (q : Int)) = (r : Int) := by
            rw [← Int.natCast_mul, hr, IntKind.wrap_u64]; omega
          rw [hr] at HM2
          clear hr HM hmq
          go_wp2
          go_roundw
          case rel => exact ⟨r, s + 1, by go_num, by go_num, by omega, HM2, by first | rfl | trivial⟩
          case measure => simp [intOf]; omega
        · have HM2 : Hid (m * restP n (k + 1) = n) := by
            have h1 := HM.out
            rw [show e - s = 0 by omega, Nat.pow_zero, Nat.one_mul] at h1
            exact h1
          clear HM
          go_wp2
          go_roundw
          case rel => exact ⟨m, k + 1, rfl, by go_num, by omega, HM2, hBV3⟩
          case measure => simp [intOf]; omega
    · obtain rfl : k = L := by omega
      have hmn : m = n := by
        have h1 := HM.out
        rw [restP_end (by rw [HL2.out]; exact Nat.le_refl _), Nat.mul_one] at h1
        exact h1
      subst hmn
      clear HM
      go_wp2
      go_ret
      exact ⟨rbool (by simp), bb hBW hB⟩
/-- SieveFactors, of all numbers. -/
theorem factors_holds (n : Nat) (hn : n < 18446744073709551616) : AnsM 4 #[.int .u64 (n : Int)] (.bool true) := by
  have HF := factor_any n hn
  have HR := rfactor_any n hn
  have HP := prime_any n hn
  have HQ := rprime_any n hn
  unfold facS at HF HR
  by_cases h : 2 ≤ n ∧ n ≤ 4294967296
  · rw [if_pos h] at HF HR
    exact factors_some n h.1 h.2 _ HF HR HP HQ
  · rw [if_neg h] at HF HR
    exact factors_none n hn (by omega) _ HF HR HP HQ
end Go.Proofs.Ytafmmkhegkceiaa

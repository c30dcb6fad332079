/-
  The walk of SieveProves: of all numbers.
-/
import Derived.Test.YtafmmkhegkceiaaSv19
namespace Go.Proofs.Ytafmmkhegkceiaa
set_option linter.unusedVariables false
open Go.RowKit

theorem proves_no (p : Int) (HW : AnsM 17 #[.int .u64 p] (.tuple #[.slice none 0 0, .int .i64 1])) (HO : Ans 18 #[.int .u64 p] (.bool false)) : AnsM 7 #[.int .u64 p] (.bool true) := by
  intro w
  have HA := alive_any
  go_enter Try.func7, Try.ntmps7
  go_wp2_with (first
    | (go_at_call 8; with_reducible refine AnsM.use HA fun w1 hB1 => ?_)
    | (go_at_call 17; with_reducible refine AnsM.use HW fun w2 hB2 => ?_)
    | (go_at_call 18; with_reducible refine Ans.use HO _ fun n1 => ?_))
  go_ret
  exact ⟨rfl, bb (bb hB1 hB2) (below_drewN _ _)⟩
set_option maxRecDepth 100000 in
set_option maxHeartbeats 4000000 in
theorem proves_yes (p : Nat) (ho : Odd16 p) : AnsM 7 #[.int .u64 (p : Int)] (.bool true) := by
  intro w
  have HA := alive_any
  have HW := row_any p ho
  have h6 := ho.2.2
  have h3 := ho.2.1
  have HO : Ans 18 #[.int .u64 (p : Int)] (.bool true) := (rodd_any p (by omega)).to (by rw [oddB_iff.2 ho])
  have HG := generator_any p (by omega)
  have HOd : Hid (Odd16 p) := ho
  clear ho
  go_enter Try.func7, Try.ntmps7
  go_wp2_with (first
    | (go_at_call 8; with_reducible refine AnsM.use HA fun w1 hB1 => ?_)
    | (go_at_call 17; with_reducible refine RowAns.use HW fun A C w2 hE hB2 => ?_; refine Hid.out ?_))
  unfold Hid
  obtain ⟨k, hL, hk, hfi⟩ := row_last HOd.out
  have hl12 := rowL_few HOd.out
  have hlen := row_len p
  have hx : (rowOf p)[k]? = some (enOf p) := by rw [rowOf, List.getElem?_map, hk]; rfl
  obtain ⟨b, o, A', C', rfl, hbl, c0, c1, c2, hP, _, _⟩ := hE.get k _ hx
  have HC := check_any w2 _ C (rowOf p) hE
  rw [row_checks HOd.out, hlen, hL] at HC
  have HI := fun w' bq (hw' : Below w2.heap.size w2 w') hbq hc => indexE_claim w' _ C (rowOf p) (hE.below hw') p bq hc hbq
  rw [hfi, hlen, hL] at HI
  have HK := clone_any w2 A' C' (facOf (p - 1)) hP (by rw [facOf_len]; have := pf_few (n := p - 1) (by omega) (by omega); omega)
  have HCl := claim_yes w2 b o (k + 1) C k (p : Int) (p : Int) (genOf p : Int) A' (facOf (p - 1)) C' (by omega) (by omega) hbl c0 c1 c2 HC (fun w' bq a1 a2 a3 => HI w' bq a1 a2 a3) HK
  replace c0 : w2.cell? ⟨b, o + k * 3, none⟩ = some (.int .u64 (p : Int)) := c0
  obtain ⟨L, hL'⟩ : ∃ L, k + 1 = L := ⟨_, rfl⟩
  obtain ⟨G, hG⟩ : ∃ G, genOf p = G := ⟨_, rfl⟩
  obtain ⟨fl, hfl⟩ : ∃ fl, (facOf (p - 1)).length = fl := ⟨_, rfl⟩
  rw [hL, hL']
  rw [hL'] at HC HCl
  rw [hG] at HCl HG
  rw [hfl] at HCl
  have hkL : (L : Int) - 1 = (k : Int) := by omega
  have hkl : k < L := by omega
  have hL12 : L ≤ 12 := by omega
  have hgd : decide ((0 : Int) < (L : Int)) = true := decide_eq_true (by omega)
  have hgd2 : decide (0 < L) = true := decide_eq_true (by omega)
  have hwk : IntKind.i64.wrap (k : Int) = (k : Int) := by rw [IntKind.wrap_i64]; omega
  clear hL hk hfi hlen hx c1 c2 hP HI HK hL' hG hfl hE
  go_wp2_with (first
    | (go_at_call 18; with_reducible refine Ans.use HO _ fun n1 => ?_; have hBx : Below w2.heap.size w2 (w2.drewN n1) := below_drewN _ _)
    | (go_at_call 20; with_reducible refine AnsB.use HC hBx fun w3 hB3 => ?_)
    | (go_at_call 21; refine (HCl _ (bb hBx hB3)).mono ?_; rintro e w4 ⟨A2, C2, rfl, hP4, hB4⟩; refine Hid.out ?_))
  unfold Hid
  have hB24 : Below w2.heap.size w2 w4 := bb (bb hBx hB3) hB4
  obtain ⟨t0, t1, t2⟩ := rcells w4 (.int .u64 (p : Int)) (.int .u64 (G : Int)) (.slice A2 fl C2) 45
  obtain ⟨V, hV⟩ : ∃ V, w4.alloc (.cells #[.int .u64 (p : Int), .int .u64 (G : Int), .slice A2 fl C2] 45) = V := ⟨_, rfl⟩
  have hBV : Below w4.heap.size w4 V := hV ▸ below_alloc _ _
  rw [hV] at t0 t1 t2
  have hB2V : Below w2.heap.size w2 V := bb hB24 hBV
  have d0 := kcell hB2V hbl c0
  obtain ⟨bo, hbo⟩ : ∃ bo, w4.heap.size = bo := ⟨_, rfl⟩
  rw [hbo] at t1
  have k0 := cell_regrown d0
  have k1 := cell_regrown t1
  have hBwV : Below w.heap.size w V := bb (bb hB1 hB2) hB2V
  have HGB : AnsB V 14 #[.int .u64 (p : Int)] (.int .u64 (G : Int)) := HG.toB V
  have hg1 : ((p : Int) == (p : Int)) = true := by simp
  have hg2 : ((G : Int) == (G : Int)) = true := by simp
  clear t0 t2 c0 d0 hP4 hB4 hB3 hBx hB24 hB2V HCl HC HO HW HA hB1 hB2
  go_wp2
  refine wp_region_quiet_below (by kernel_rfl) (by kernel_rfl) ?_
  repeat (go_big_quiet_step ((exact AnsB.regrown HGB (Below.refl _ _))))
  refine wpQuiet_nil ?_
  intro _ hw'
  obtain ⟨⟨dq, osq⟩, hw''⟩ := hw'
  subst hw''
  go_wp2
  go_ret
  exact ⟨rfl, bb hBwV (below_regrown V dq osq)⟩
/-- SieveProves, of all numbers. -/
theorem proves_holds (p : Nat) (hn : p < 18446744073709551616) : AnsM 7 #[.int .u64 (p : Int)] (.bool true) := by
  by_cases ho : Odd16 p
  · exact proves_yes p ho
  · refine proves_no (p : Int) (row_no p hn ho) ((rodd_any p hn).to ?_)
    congr 1
    cases hc : oddB p with
    | false => rfl
    | true => exact absurd (oddB_iff.1 hc) ho
end Go.Proofs.Ytafmmkhegkceiaa

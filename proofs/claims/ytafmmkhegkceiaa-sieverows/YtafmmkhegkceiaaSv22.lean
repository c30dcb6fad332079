/-
  The walk of SieveRows: of all numbers.
-/
import Derived.Test.YtafmmkhegkceiaaSv21
namespace Go.Proofs.Ytafmmkhegkceiaa
set_option linter.unusedVariables false
open Go.RowKit

theorem row_lenS (p : Nat) : (rowOf p).length = (rowL p).length := by simp [rowOf]
theorem rows_no (p : Int) (HW : AnsM 17 #[.int .u64 p] (.tuple #[.slice none 0 0, .int .i64 1])) (HO : Ans 18 #[.int .u64 p] (.bool false)) : AnsM 6 #[.int .u64 p] (.bool true) := by
  intro w
  have HA := alive_any
  go_enter Try.func6, Try.ntmps6
  go_wp2_with (first
    | (go_at_call 8; with_reducible refine AnsM.use HA fun w1 hB1 => ?_)
    | (go_at_call 17; with_reducible refine AnsM.use HW fun w2 hB2 => ?_)
    | (go_at_call 18; with_reducible refine Ans.use HO _ fun n1 => ?_))
  go_ret
  exact ⟨rfl, bb (bb hB1 hB2) (below_drewN _ _)⟩
theorem pwq_eqd (a b c d : Int) (n : Nat) (w : World) : (Op.equalIn (n + 1 + 1) 33 (.agg #[.int .u64 a, .int .i64 b]) (.agg #[.int .u64 c, .int .i64 d])).run Try.prog w = .ok (a == c && b == d) w := by
  have h1 := fun (a b : Int) (w : World) => run_equalIn_int (P := Try.prog) w n 26 .u64 .u64 a b Try.underlying26
  have h2 := fun (a b : Int) (w : World) => run_equalIn_int (P := Try.prog) w n 3 .i64 .i64 a b Try.underlying3
  rw [Op.equalIn]
  simp [go_sem, h1, h2]
  by_cases e0 : a = c <;> by_cases e1 : b = d <;> simp [e0, e1]
/-- Two factors are the same if their numbers are. -/
theorem pwq_eq (a b c d : Int) (w : World) : (Op.equalIn 10000 33 (.agg #[.int .u64 a, .int .i64 b]) (.agg #[.int .u64 c, .int .i64 d])).run Try.prog w = .ok (a == c && b == d) w := pwq_eqd a b c d 9998 w
theorem pwq_guard : Try.prog.eqGuardType Try.prog.depth 33 = false := by kernel_rfl
set_option maxRecDepth 100000 in
set_option maxHeartbeats 4000000 in
theorem rows_yes (p : Nat) (ho : Odd16 p) : AnsM 6 #[.int .u64 (p : Int)] (.bool true) := by
  intro w
  have HA := alive_any
  have HW := row_walk p ho
  have HR := rrow_walk p ho
  have h6 := ho.2.2
  have HO : Ans 18 #[.int .u64 (p : Int)] (.bool true) := (rodd_any p (by omega)).to (by rw [oddB_iff.2 ho])
  have HOd : Hid (Odd16 p) := ho
  obtain ⟨L, hL⟩ : ∃ L, (rowL p).length = L := ⟨_, rfl⟩
  have HL : Hid ((rowL p).length = L) := hL
  clear ho hL
  go_enter Try.func6, Try.ntmps6
  go_wp2_with (first
    | (go_at_call 8; with_reducible refine AnsM.use HA fun w1 hB1 => ?_)
    | (go_at_call 17; with_reducible refine RowAns.use HW fun A C w2 hE2 hB2 => ?_; rw [HL.out])
    | (go_at_call 18; with_reducible refine Ans.use HO _ fun n1 => ?_; have hBo : Below w2.heap.size w2 (w2.drewN n1) := below_drewN _ _)
    | (go_at_call 19; with_reducible refine RRowAns.use HR fun A' C' w3 hE3 hB3 => ?_; rw [HL.out]))
  have hBw3 : Below w.heap.size w w3 := bb (bb (bb hB1 hB2) hBo) hB3
  have hE23 := (hE2.below hBo).below hB3
  have hLm : (L : Int) ≤ 9223372036854775807 := by
    have := hE2.cap; have := hE2.max; rw [row_lenS, HL.out] at *; unfold maxLen at *; omega
  have HE2 : Hid (EntsAt w3 A C (rowOf p)) := hE23
  have HE3 : Hid (EntsAt w3 A' C' (rowOf p)) := hE3
  clear hE2 hE3 hE23 hB1 hB2 hB3 hBo HA HW HR HO
  have hEQ := pwq_eq
  have hGD := pwq_guard
  go_loopw [40] (fun v wr => ∃ k : Nat, v = .int .i64 (k : Int) ∧ k ≤ L ∧ Below w3.heap.size w3 wr) (fun v _ => L - (intOf v).toNat)
  case atStart => exact ⟨0, rfl, by omega, Below.refl _ _⟩
  case round =>
    obtain ⟨k, rfl, hk, hB⟩ := hrel
    by_cases hlt : k < L
    · obtain ⟨q, hq⟩ : ∃ q, (rowL p)[k]? = some q := ⟨_, List.getElem?_eq_getElem (by rw [HL.out]; exact hlt)⟩
      have hx : (rowOf p)[k]? = some (enOf q) := by rw [rowOf, List.getElem?_map, hq]; rfl
      obtain ⟨fl, hfl⟩ : ∃ fl, (facOf (q - 1)).length = fl := ⟨_, rfl⟩
      obtain ⟨G, hG⟩ : ∃ G, genOf q = G := ⟨_, rfl⟩
      obtain ⟨b, o, A1, C1, hA, hbl, c0, c1, c2, hP1, _, _⟩ := HE2.out.get k _ hx
      obtain ⟨b', o', A2, C2, hA', hbl', d0, d1, d2, hP2, _, _⟩ := HE3.out.get k _ hx
      subst hA hA'
      replace c0 : w3.cell? ⟨b, o + k * 3, none⟩ = some (.int .u64 (q : Int)) := c0
      replace c1 : w3.cell? ⟨b, o + k * 3 + 1, none⟩ = some (.int .u64 (genOf q : Int)) := c1
      replace c2 : w3.cell? ⟨b, o + k * 3 + 2, none⟩ = some (.slice A1 (facOf (q - 1)).length C1) := c2
      replace d0 : w3.cell? ⟨b', o' + k * 3, none⟩ = some (.int .u64 (q : Int)) := d0
      replace d1 : w3.cell? ⟨b', o' + k * 3 + 1, none⟩ = some (.int .u64 (genOf q : Int)) := d1
      replace d2 : w3.cell? ⟨b', o' + k * 3 + 2, none⟩ = some (.slice A2 (facOf (q - 1)).length C2) := d2
      replace hP1 : PowsAt w3 A1 C1 (facOf (q - 1)) := hP1
      replace hP2 : PowsAt w3 A2 C2 (facOf (q - 1)) := hP2
      rw [hG] at c1 d1
      rw [hfl] at c2 d2
      have hflm : (fl : Int) ≤ 9223372036854775807 := by have := hP1.cap; have := hP1.max; rw [hfl] at *; unfold maxLen at *; omega
      have HFL : Hid ((facOf (q - 1)).length = fl) := hfl
      have c0' := kcell hB hbl c0
      have c1' := kcell hB hbl c1
      have c2' := kcell hB hbl c2
      obtain ⟨t0, t1, t2⟩ := rcells wr (.int .u64 (q : Int)) (.int .u64 (G : Int)) (.slice A1 fl C1) 45
      obtain ⟨V, hV⟩ : ∃ V, wr.alloc (.cells #[.int .u64 (q : Int), .int .u64 (G : Int), .slice A1 fl C1] 45) = V := ⟨_, rfl⟩
      have hBV : Below wr.heap.size wr V := hV ▸ below_alloc _ _
      have hB3V : Below w3.heap.size w3 V := bb hB hBV
      have e0 := kcell hB3V hbl' d0
      have e1 := kcell hB3V hbl' d1
      have e2 := kcell hB3V hbl' d2
      rw [hV] at t0 t1 t2
      obtain ⟨bo, hbo⟩ : ∃ bo, wr.heap.size = bo := ⟨_, rfl⟩
      rw [hbo] at t0 t1 t2
      have hboV : bo < V.heap.size := by rw [← hV, ← hbo]; simp
      have hg1 : ((q : Int) != (q : Int)) = false := by simp
      have hg2 : ((G : Int) != (G : Int)) = false := by simp
      have hg3 : ((fl : Int) != (fl : Int)) = false := by simp
      have HP1 : Hid (PowsAt w3 A1 C1 (facOf (q - 1))) := hP1
      have HP2 : Hid (PowsAt w3 A2 C2 (facOf (q - 1))) := hP2
      clear c0 c1 c2 d0 d1 hP1 hP2 hfl hG hq hx
      go_wp2
      clear hV hbo c0' c1' c2'
      go_quiet ((fail))
      obtain ⟨V2, hV2⟩ : ∃ V2, V.drewN nq = V2 := ⟨_, rfl⟩
      have hB3V2 : Below w3.heap.size w3 V2 := by rw [← hV2]; exact bb hB3V (below_drewN _ _)
      have s2 : V2.cell? ⟨bo, 2, none⟩ = some (.slice A1 fl C1) := by rw [← hV2]; exact t2
      rw [hV2]
      clear hV2 t0 t1 t2 hB3V e0 e1 e2 hBV hB
      go_wp2
      go_loopw [78] (fun v wi => ∃ i : Nat, v = .int .i64 (i : Int) ∧ i ≤ fl ∧ Below w3.heap.size w3 wi) (fun v _ => fl - (intOf v).toNat)
      case atStart => exact ⟨0, rfl, by omega, hB3V2⟩
      case round =>
        obtain ⟨i, rfl, hi, hBi⟩ := hrel
        clear hB3V2 s2
        by_cases hlf : i < fl
        · obtain ⟨f, hf⟩ : ∃ f, (facOf (q - 1))[i]? = some f := ⟨_, List.getElem?_eq_getElem (by rw [HFL.out]; exact hlf)⟩
          obtain ⟨r, hr⟩ : ∃ r, f.q = r := ⟨_, rfl⟩
          obtain ⟨e, he⟩ : ∃ e, f.e = e := ⟨_, rfl⟩
          obtain ⟨b1, o1, hA1, hbl1, m0, m1, _⟩ := HP1.out.get i f hf
          obtain ⟨b2, o2, hA2, hbl2, n0, n1', _⟩ := HP2.out.get i f hf
          subst hA1 hA2
          rw [hr] at m0 n0
          rw [he] at m1 n1'
          have m0' := kcell hBi hbl1 m0
          have m1' := kcell hBi hbl1 m1
          obtain ⟨t0, t1⟩ := tcells wr (.int .u64 (r : Int)) (.int .i64 e) 33
          obtain ⟨V, hV⟩ : ∃ V, wr.alloc (.cells #[.int .u64 (r : Int), .int .i64 e] 33) = V := ⟨_, rfl⟩
          have hBV : Below wr.heap.size wr V := hV ▸ below_alloc _ _
          have hB3V : Below w3.heap.size w3 V := bb hBi hBV
          have n0' := kcell hB3V hbl2 n0
          have n1'' := kcell hB3V hbl2 n1'
          have d2' := kcell hB3V hbl' d2
          rw [hV] at t0 t1
          obtain ⟨b3, hb3⟩ : ∃ b3, wr.heap.size = b3 := ⟨_, rfl⟩
          rw [hb3] at t0 t1
          have hz1 : ((r : Int) == (r : Int)) = true := by simp
          have hz2 : (e == e) = true := by simp
          clear m0 m1 n0 n1' hf hr he hBV hBi
          go_wp2
          clear hV hb3 m0' m1'
          go_quiet ((fail))
          go_wp2
          go_roundw
          case rel => exact ⟨i + 1, by go_num, by omega, bb hB3V (below_drewN _ _)⟩
          case measure => simp [intOf]; omega
        · obtain rfl : i = fl := by omega
          go_wp2
          go_roundw
          case rel => exact ⟨k + 1, by go_num, by omega, hBi⟩
          case measure => simp [intOf]; omega
    · obtain rfl : k = L := by omega
      go_wp2
      go_ret
      exact ⟨rfl, bb hBw3 hB⟩
/-- SieveRows, of all numbers. -/
theorem rows_holds (p : Nat) (hn : p < 18446744073709551616) : AnsM 6 #[.int .u64 (p : Int)] (.bool true) := by
  by_cases ho : Odd16 p
  · exact rows_yes p ho
  · refine rows_no (p : Int) (row_no p hn ho) ((rodd_any p hn).to ?_)
    congr 1
    cases hc : oddB p with
    | false => rfl
    | true => exact absurd (oddB_iff.1 hc) ho
end Go.Proofs.Ytafmmkhegkceiaa

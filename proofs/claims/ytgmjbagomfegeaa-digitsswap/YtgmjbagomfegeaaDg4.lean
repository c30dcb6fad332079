/-
  What the document's Turn and Back (layer 9) answer. No condition but that the rows lie there.
-/
import Derived.Test.YtgmjbagomfegeaaDg3
namespace Go.Proofs.Ytgmjbagomfegeaa
set_option linter.unusedVariables false
open Go.RowKit

theorem td_step {rs : List Nat} (hR : Rad rs) {k r : Nat} (hr : rs[k]? = some r) (i : Nat) :
    tn (rs.drop k) (i / pr (rs.take k)) = tn (rs.drop (k + 1)) (i / pr (rs.take (k + 1))) + pr (rs.drop (k + 1)) * (i / pr (rs.take k) % r) ∧ pr (rs.drop k) = pr (rs.drop (k + 1)) * r ∧ pr (rs.drop k) ≤ 4096 ∧ tn (rs.drop k) (i / pr (rs.take k)) < 4096 := by
  obtain ⟨h1, h2⟩ := tn_drop hr (i / pr (rs.take k))
  obtain ⟨_, h3⟩ := tn_take hr i
  have e := pr_append (rs.take k) (rs.drop k)
  rw [List.take_append_drop] at e
  have p1 : 1 ≤ pr (rs.take k) := pr_pos fun x hx => hR.one x (List.mem_of_mem_take hx)
  have h4 : pr (rs.drop k) ≤ 4096 := by
    have := hR.max
    rw [e] at this
    exact Nat.le_trans (Nat.le_mul_of_pos_left _ p1) this
  have h5 := tn_lt (rs.drop k) (i / pr (rs.take k)) fun x hx => hR.one x (List.mem_of_mem_drop hx)
  refine ⟨?_, by rw [h2, Nat.mul_comm], h4, by omega⟩
  rw [h1, h3, Nat.div_div_eq_div_mul, Nat.mul_comm (pr (rs.drop (k + 1))), Nat.add_comm]
set_option maxHeartbeats 1000000 in
theorem rturn_any (W : World) (A : Option Addr) (C : Nat) (rs : List Nat) (hZ : ZAt W A C (ints rs)) (hR : Rad rs) (i : Nat) (hi : i ≤ 4096) : AnsB W 13 #[.slice A rs.length C, .int .i64 (i : Int)] (.int .i64 (tn rs i : Int)) := by
  intro w hw
  have HD := digits_any W A C rs hZ hR i hi
  have hfew := hR.few
  obtain ⟨L, hL⟩ : ∃ L, rs.length = L := ⟨_, rfl⟩
  have hDl : (ints (dg rs i)).length = L := by rw [ints_len, dg_len, hL]
  have HDu : ∀ {w : World}, Below W.heap.size W w → ∀ {R : Ending → World → Prop}, (∀ A1 C1 w', ZAt w' A1 C1 (ints (dg rs i)) → Below w.heap.size w w' → R (.returned (.slice A1 L C1)) w') → Calls Try.prog 24 #[.slice A L C, .int .i64 (i : Int)] w R := fun {w} hw {R} k => by
    rw [← hL]
    refine HD.use hw fun A1 C1 w' h1 h2 => ?_
    rw [hDl]
    exact k A1 C1 w' h1 h2
  have HL : Hid (rs.length = L) := hL
  have HR : Hid (Rad rs) := hR
  obtain ⟨t, ht⟩ : ∃ t, tn rs i = t := ⟨_, rfl⟩
  have HT : Hid (tn rs i = t) := ht
  rw [hL] at hfew ⊢
  rw [ht]
  have hL1 : wrap64 ((L : Int) - 1) = (L : Int) - 1 := by unfold wrap64; omega
  clear hL HD hDl ht hR hi
  go_enter Try.func13, Try.ntmps13
  go_wp2_with (go_at_call 24; refine HDu hw fun A1 C1 w1 hz1 hb1 => ?_)
  go_loopw [6, 7, 8] (fun x y v wr => ∃ n s j : Nat, ∃ z : Int, x = .int .i64 n ∧ y = .int .i64 s ∧ v = .int .i64 z ∧ z = (j : Int) - 1 ∧ j ≤ L ∧ Hid (n = tn (rs.drop j) (i / pr (rs.take j))) ∧ Hid (s = pr (rs.drop j)) ∧ wr = w1) (fun _ _ v _ => (intOf v + 1).toNat)
  case atStart => exact ⟨0, 1, L, _, rfl, rfl, by first | rfl | rw [hL1], rfl, Nat.le_refl _, (by unfold Hid; rw [List.drop_eq_nil_of_le (by rw [HL.out]; exact Nat.le_refl _)]; rfl), (by unfold Hid; rw [List.drop_eq_nil_of_le (by rw [HL.out]; exact Nat.le_refl _)]; rfl), rfl⟩
  case round =>
    clear HDu hL1
    obtain ⟨n, s, j, z, rfl, rfl, rfl, hz, hj, HN, HS, rfl⟩ := hrel
    rcases j with _ | k
    · obtain rfl : z = -1 := by omega
      have HE : Hid (n = t) := by unfold Hid; rw [HN.out, ← HT.out]; simp [pr]
      clear HN HS hz
      go_wp2
      go_ret
      exact ⟨congrArg (fun n : Nat => Ending.returned (.int .i64 (n : Int))) HE.out, hb1⟩
    · obtain rfl : z = (k : Int) := by omega
      have hlt' : k < rs.length := by rw [HL.out]; omega
      obtain ⟨r, hr⟩ : ∃ r, rs[k]? = some r := ⟨_, List.getElem?_eq_getElem hlt'⟩
      obtain ⟨b, o, rfl, hb, c0, _⟩ := hZ.get k (r : Int) (ints_get hr)
      have c0' := ((bcell (hw.trans (hb1.mono hw.size))).1 b (o + k) hb).trans c0
      have hdl : k < L := by omega
      obtain ⟨b2, o2, rfl, hb2, d0, _⟩ := hz1.get k ((i / pr (rs.take k) % r : Nat) : Int) (ints_get (dg_get hr i))
      obtain ⟨h2, h3, h4, h5⟩ := td_step HR.out hr i
      obtain ⟨q2, q3, _⟩ := tn_step HR.out hr i
      rw [← HN.out, ← HS.out] at h2
      rw [← HS.out] at h3
      rw [h3] at h4
      rw [h2] at h5
      have hml : i / pr (rs.take k) % r ≤ 4096 := by have := Nat.mod_lt (i / pr (rs.take k)) (show 0 < r by omega); omega
      obtain ⟨m, hm⟩ : ∃ m, i / pr (rs.take k) % r = m := ⟨_, rfl⟩
      rw [hm] at d0 h2 h5 hml
      obtain ⟨p, hp⟩ : ∃ p, s * m = p := ⟨_, rfl⟩
      obtain ⟨p', hp'⟩ : ∃ p', s * r = p' := ⟨_, rfl⟩
      have hpi : (s : Int) * (m : Int) = (p : Int) := by rw [← Int.natCast_mul, hp]
      have hpi' : (s : Int) * (r : Int) = (p' : Int) := by rw [← Int.natCast_mul, hp']
      rw [hp] at h2 h5
      rw [hp'] at h3 h4
      have HN' : Hid (n + p = tn (rs.drop k) (i / pr (rs.take k))) := h2.symm
      have HS' : Hid (p' = pr (rs.drop k)) := h3.symm
      have w1' : wrap64 (p : Int) = (p : Int) := wrS (Nat.le_trans (Nat.le_add_left _ _) (Nat.le_trans (Nat.le_of_lt h5) (by decide)))
      have w2' : wrap64 (p' : Int) = (p' : Int) := wrS (Nat.le_trans h4 (by decide))
      have w3' : wrap64 ((n : Int) + (p : Int)) = ((n + p : Nat) : Int) := wrA (Nat.le_trans (Nat.le_of_lt h5) (by decide))
      clear c0 hr h2 h3 h4 h5 q2 q3 HN HS hm hml hp hp' hlt' hz
      go_wp2
      go_roundw
      case rel =>
        refine ⟨n + p, p', k, (k : Int) - 1, ?_, ?_, ?_, rfl, by omega, HN', HS', ?_⟩
        · first | rfl | rw [w3']
        · first | rfl | rw [w2']
        · first | rfl | rw [wrap_pred k]
        · first | rfl | trivial
      case measure => simp [intOf]

/-! ### Back -/
theorem rev_get {zs : List Int} {k : Nat} (h : k < zs.length) : zs.reverse[k]? = zs[zs.length - 1 - k]? := by
  rw [List.getElem?_reverse h]
set_option maxHeartbeats 1000000 in
theorem back_any (W : World) (A : Option Addr) (C : Nat) (zs : List Int) (hZ : ZAt W A C zs) (h100 : zs.length ≤ 100) : NewRow W 14 #[.slice A zs.length C] zs.reverse := by
  intro w hw
  obtain ⟨ii, hii, hzi, hsi, hbi⟩ := info_parts infoZ
  obtain ⟨L, hL⟩ : ∃ L, zs.length = L := ⟨_, rfl⟩
  have HL : Hid (zs.length = L) := hL
  rw [hL] at h100 ⊢
  have hL1 : wrap64 ((L : Int) - 1) = (L : Int) - 1 := by unfold wrap64; omega
  clear hL
  go_enter Try.func14, Try.ntmps14
  go_wp2
  go_loopw [3, 7] (fun out v wr => ∃ k : Nat, v = .int .i64 k ∧ k ≤ L ∧ Hid (wr.ownsRow w.heap.size 3 1 out k (zcells (zs.reverse.take k))) ∧ Below w.heap.size w wr) (fun _ v _ => L - (intOf v).toNat)
  case atStart => exact ⟨0, rfl, by omega, by unfold Hid; rw [List.take_zero]; exact World.ownsRow_nil _ _ _ _, Below.refl _ _⟩
  case round =>
    obtain ⟨k, rfl, hk, HO, hB⟩ := hrel
    by_cases hlt : k < L
    · obtain ⟨j, hj⟩ : ∃ j, L - 1 - k = j := ⟨_, rfl⟩
      have hjl : j < zs.length := by rw [HL.out]; omega
      obtain ⟨z, hz⟩ : ∃ z, zs[j]? = some z := ⟨_, List.getElem?_eq_getElem hjl⟩
      have hzr : zs.reverse[k]? = some z := by rw [rev_get (by rw [HL.out]; exact hlt), HL.out, hj]; exact hz
      obtain ⟨b, o, rfl, hb, c0, _⟩ := hZ.get j z hz
      have c0' := ((bcell (hw.trans (hB.mono hw.size))).1 b (o + j) hb).trans c0
      have HD' : Hid (zcells (zs.reverse.take (k + 1)) = zcells (zs.reverse.take k) ++ [.int .i64 z]) := by
        unfold Hid
        rw [List.take_add_one, hzr, ← zcells_snoc]; rfl
      have hjw : wrap64 ((L : Int) - 1 - (k : Int)) = (j : Int) := by unfold wrap64; omega
      have hji : (L : Int) - 1 - (k : Int) = (j : Int) := by omega
      have hjL : j < L := by omega
      have hO2 := World.ownsRow.alloc HO.out (.cells #[.int .i64 z] 3)
      have hnews := one_new wr (.int .i64 z) 3
      have hBa : Below w.heap.size w (wr.alloc (.cells #[.int .i64 z] 3)) := bb hB (below_alloc _ _)
      clear c0 hz hzr HO hj
      go_wp2_with (at_builtin; refine Hid.out ?_)
      unfold Hid
      refine (wpList_append_own _ rfl _ _ 22 rfl w.heap.size 3 ii _ 1 8 Try.underlying22 hii hzi hsi hbi rfl (by omega) _ k _ rfl hO2 ⟨wr.heap.size, 0, none⟩ 1 1 [.int .i64 z] rfl rfl hnews (by simp [Value.oneCell']) (by unfold maxLen; omega) (by omega) hBa.size ?_)
      intro v' w5 hO3 hG _
      have HO3 : Hid (w5.ownsRow w.heap.size 3 1 v' (k + 1) (zcells (zs.reverse.take (k + 1)))) := by unfold Hid; rw [HD'.out]; exact hO3
      have hB5 : Below w.heap.size w w5 := hBa.grown hG hBa.size (fun k hk => (hO2.lt k hk).1)
      clear hO3 hG hO2 hBa hnews hB HD' hji hjw
      go_wp2
      go_roundw
      case rel => exact ⟨k + 1, by go_num, by omega, HO3, hB5⟩
      case measure => simp [intOf]; omega
    · obtain rfl : k = L := by omega
      have HO4 : Hid (wr.ownsRow w.heap.size 3 1 u3 zs.reverse.length (zcells zs.reverse)) := by
        unfold Hid
        have := HO.out
        rw [← HL.out, List.take_of_length_le (by rw [List.length_reverse]; exact Nat.le_refl _)] at this
        rw [List.length_reverse]
        exact this
      obtain ⟨A1, C1, hv, hz⟩ := own_ints HO4.out (fun z hz => by
        obtain ⟨i, hi, rfl⟩ := List.getElem_of_mem (List.mem_reverse.1 hz)
        obtain ⟨_, _, _, _, _, h⟩ := hZ.get i _ (List.getElem?_eq_getElem hi)
        exact h)
      subst hv
      clear HO HO4
      go_wp2
      go_ret
      exact ⟨A1, C1, rfl, hz, hB⟩
end Go.Proofs.Ytgmjbagomfegeaa

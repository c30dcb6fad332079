/-
  What the document's Size (layer 9), and digits.turned and digits.Turn answer. No condition but that the row lies there.
-/
import Derived.Test.YtgmjbagomfegeaaDg1
namespace Go.Proofs.Ytgmjbagomfegeaa
set_option linter.unusedVariables false
open Go.RowKit

set_option maxHeartbeats 1000000 in
/-- The document's Size. -/
theorem rsize_any (W : World) (A : Option Addr) (C : Nat) (zs : List Int) (hZ : ZAt W A C zs) : AnsQ W 10 #[.slice A zs.length C] (.tuple #[.int .i64 (rS zs), .int .i64 (rE zs)]) := by
  intro w hw
  have hlen := hZ.len
  obtain ⟨L, hL⟩ : ∃ L, zs.length = L := ⟨_, rfl⟩
  rw [hL] at hlen
  have HL : Hid (zs.length = L) := hL
  rw [hL]
  clear hL
  by_cases h4 : 12 < L
  · have HE : Hid (rS zs = 0 ∧ rE zs = 1) := r_many (by rw [HL.out]; exact h4)
    have h4' : (12 : Int) < (L : Int) := by omega
    go_enter Try.func10, Try.ntmps10
    go_wp2
    go_ret2
    exact ⟨ret_two ⟨HE.out.1.symm, HE.out.2.symm⟩, rfl⟩
  · have h4' : ¬ (12 : Int) < (L : Int) := by omega
    have H4 : Hid (¬ 12 < zs.length) := by unfold Hid; rw [HL.out]; exact h4
    go_enter Try.func10, Try.ntmps10
    go_wp2
    go_loopw [14] (fun v wr => ∃ k : Nat, v = .int .i64 k ∧ k ≤ L ∧ Hid (∀ j y, j < k → zs[j]? = some y → ¬ y < 2) ∧ wr = w) (fun v _ => L - (intOf v).toNat)
    case atStart => exact ⟨0, rfl, by omega, fun j y hj => absurd hj (by omega), rfl⟩
    case round =>
      obtain ⟨k, rfl, hk, HI, rfl⟩ := hrel
      by_cases hlt : k < L
      · have hlt' : k < zs.length := by rw [HL.out]; exact hlt
        obtain ⟨z, hz⟩ : ∃ z, zs[k]? = some z := ⟨_, List.getElem?_eq_getElem hlt'⟩
        obtain ⟨b, o, rfl, hb, c0, _⟩ := hZ.get k z hz
        have c0' := ((bcell hw).1 b (o + k) hb).trans c0
        by_cases ht : z < 2
        · have HE : Hid (rS zs = 0 ∧ rE zs = 1) := r_no (isNo_true hz ht)
          clear c0 hz HI
          go_wp2
          go_ret2
          exact ⟨ret_two ⟨HE.out.1.symm, HE.out.2.symm⟩, rfl⟩
        · have HS : Hid (∀ j y, j < k + 1 → zs[j]? = some y → ¬ y < 2) := by
            intro j y hj hy
            by_cases h : j < k
            · exact HI.out j y h hy
            · obtain rfl : j = k := by omega
              rw [hz] at hy; cases hy; exact ht
          clear c0 hz HI
          go_wp2
          go_roundw
          case rel => exact ⟨k + 1, by go_num, by omega, HS, by first | rfl | trivial⟩
          case measure => simp [intOf]; omega
      · obtain rfl : k = L := by omega
        have HN : Hid (isNo zs = false) := isNo_none (by rw [HL.out]; exact HI.out)
        clear HI
        go_wp2
        go_loopw [6, 23] (fun x v wx => ∃ s j : Nat, x = .int .i64 s ∧ v = .int .i64 j ∧ j ≤ k ∧ 1 ≤ s ∧ s ≤ 4096 ∧ Hid (szGo s (zs.drop j) = szGo 1 zs) ∧ wx = wr) (fun _ v _ => k - (intOf v).toNat)
        case atStart => exact ⟨1, 0, rfl, rfl, by omega, by omega, by omega, by unfold Hid; rw [List.drop_zero], rfl⟩
        case round =>
          obtain ⟨s, j, rfl, rfl, hj, hs1, hs2, HI, rfl⟩ := hrel
          by_cases hlt : j < k
          · have hlt' : j < zs.length := by rw [HL.out]; exact hlt
            obtain ⟨z, hz⟩ : ∃ z, zs[j]? = some z := ⟨_, List.getElem?_eq_getElem hlt'⟩
            obtain ⟨b, o, rfl, hb, c0, hz1, hz2⟩ := hZ.get j z hz
            have c0' := ((bcell hw).1 b (o + j) hb).trans c0
            have HD : Hid (zs.drop j = z :: zs.drop (j + 1)) := drop_consZ hz
            have hz0 := isNo_false HN.out hz
            clear c0 hz hlt'
            obtain ⟨d, rfl⟩ := Int.eq_ofNat_of_zero_le (show 0 ≤ z by omega)
            have hd1 : 1 ≤ d := by omega
            by_cases hbig : 4096 < d
            · have HE : Hid (szGo 1 zs = none) := by
                unfold Hid
                rw [← HI.out, HD.out, szGo_bad (Or.inr ?_)]
                rw [← Int.natCast_mul]
                have := Nat.mul_le_mul (Nat.le_refl d) hs1
                omega
              have hbig' : (4096 : Int) < (d : Int) := by omega
              clear HI HD hs2 hbig
              go_wp2
              go_ret2
              exact ⟨ret_two (by have := r_none H4.out HN.out HE.out; exact ⟨this.1.symm, this.2.symm⟩), rfl⟩
            · have hbig' : ¬ (4096 : Int) < (d : Int) := by omega
              have hm2 : s * d ≤ 4096 * 4096 := Nat.mul_le_mul hs2 (by omega)
              obtain ⟨m, hme⟩ : ∃ m, s * d = m := ⟨_, rfl⟩
              have hmi : (s : Int) * (d : Int) = (m : Int) := by rw [← Int.natCast_mul, hme]
              have hmj : (d : Int) * (s : Int) = (m : Int) := by rw [Int.mul_comm]; exact hmi
              have hm0 : 1 ≤ m := by rw [← hme]; exact Nat.mul_le_mul hs1 hd1
              rw [hme] at hm2
              have hmw : wrap64 (m : Int) = (m : Int) := by unfold wrap64; omega
              by_cases hmm : 4096 < m
              · have HE : Hid (szGo 1 zs = none) := by
                  unfold Hid
                  rw [← HI.out, HD.out, szGo_bad (Or.inr ?_)]
                  rw [hmj]
                  omega
                have hmm' : (4096 : Int) < (m : Int) := by omega
                clear HI HD hs2 hbig hmm hm2 hme
                go_wp2
                go_ret2
                exact ⟨ret_two (by have := r_none H4.out HN.out HE.out; exact ⟨this.1.symm, this.2.symm⟩), rfl⟩
              · have HE : Hid (szGo m (zs.drop (j + 1)) = szGo 1 zs) := by
                  unfold Hid
                  rw [← HI.out, HD.out, szGo_ok ?_, Int.toNat_natCast, hme]
                  rw [hmj]
                  omega
                have hmm' : ¬ (4096 : Int) < (m : Int) := by omega
                have HM : Hid (m ≤ 4096) := by unfold Hid; omega
                clear HI HD hs2 hbig hmm hm2 hme
                go_wp2
                go_roundw
                case rel => exact ⟨m, j + 1, by first | rfl | (rw [hmw]; try rw [hmw]), by go_num, by omega, hm0, HM.out, HE, by first | rfl | trivial⟩
                case measure => simp [intOf]; omega
          · obtain rfl : j = k := by omega
            have HE : Hid (szGo 1 zs = some s) := by
              unfold Hid; rw [← HI.out, ← HL.out, List.drop_length]; rfl
            clear HI hs2
            go_wp2
            go_ret2
            exact ⟨ret_two (by have := r_some H4.out HN.out HE.out; exact ⟨this.1.symm, this.2.symm⟩), rfl⟩

/-! ### turned -/
theorem tn_step {rs : List Nat} (hR : Rad rs) {k r : Nat} (hr : rs[k]? = some r) (i : Nat) :
    2 ≤ r ∧ r ≤ 4096 ∧ tn (rs.take k) i * r + i / pr (rs.take k) % r < 4096 ∧ tn (rs.take k) i * r < 4096 ∧ tn (rs.take (k + 1)) i = tn (rs.take k) i * r + i / pr (rs.take k) % r ∧ i / pr (rs.take (k + 1)) = i / pr (rs.take k) / r := by
  obtain ⟨h1, h2⟩ := tn_take hr i
  have hm : r ∈ rs := List.mem_of_getElem? hr
  have h3 := hR.two r hm
  have h4 := Nat.le_trans (pr_take_le hR.one (k + 1)) hR.max
  have h5 := tn_lt (rs.take (k + 1)) i fun x hx => hR.one x (List.mem_of_mem_take hx)
  have h6 : 1 ≤ pr (rs.take k) := pr_pos fun x hx => hR.one x (List.mem_of_mem_take hx)
  have h7 : r ≤ 4096 := by
    rw [h2] at h4
    exact Nat.le_trans (Nat.le_mul_of_pos_left r h6) h4
  refine ⟨h3, h7, by omega, by omega, h1, ?_⟩
  rw [h2, Nat.div_div_eq_div_mul]
set_option maxHeartbeats 1000000 in
theorem turned_any (W : World) (A : Option Addr) (C : Nat) (rs : List Nat) (hZ : ZAt W A C (ints rs)) (hR : Rad rs) (i : Nat) (hi : i ≤ 4096) : AnsQ W 23 #[.slice A rs.length C, .int .i64 (i : Int)] (.int .i64 (tn rs i : Int)) := by
  intro w hw
  have hlen := hZ.len
  have el : (ints rs).length = rs.length := by simp [ints]
  rw [el] at hlen
  obtain ⟨L, hL⟩ : ∃ L, rs.length = L := ⟨_, rfl⟩
  have HL : Hid (rs.length = L) := hL
  have HR : Hid (Rad rs) := hR
  obtain ⟨t, ht⟩ : ∃ t, tn rs i = t := ⟨_, rfl⟩
  have HT : Hid (tn rs i = t) := ht
  rw [hL] at hlen ⊢
  rw [ht]
  clear hL el ht hR
  go_enter Try.func23, Try.ntmps23
  go_wp2
  go_loopw [1, 5, 10] (fun x y v wr => ∃ q a k : Nat, x = .int .i64 q ∧ y = .int .i64 a ∧ v = .int .i64 k ∧ k ≤ L ∧ Hid (q ≤ 4096) ∧ Hid (q = i / pr (rs.take k)) ∧ Hid (a = tn (rs.take k) i) ∧ wr = w) (fun _ _ v _ => L - (intOf v).toNat)
  case atStart => exact ⟨i, 0, 0, rfl, rfl, rfl, by omega, hi, by unfold Hid; simp [pr], by unfold Hid; simp [tn, tnA], rfl⟩
  case round =>
    clear hi
    obtain ⟨q, a, k, rfl, rfl, rfl, hk, Hq, HQ, HA, rfl⟩ := hrel
    by_cases hlt : k < L
    · have hlt' : k < rs.length := by rw [HL.out]; exact hlt
      obtain ⟨r, hr⟩ : ∃ r, rs[k]? = some r := ⟨_, List.getElem?_eq_getElem hlt'⟩
      obtain ⟨b, o, rfl, hb, c0, _⟩ := hZ.get k (r : Int) (by simp [ints, hr])
      have c0' := ((bcell hw).1 b (o + k) hb).trans c0
      obtain ⟨h2, h3, h4, h5, h6, h7⟩ := tn_step HR.out hr i
      rw [← HA.out, ← HQ.out] at h4 h6
      rw [← HA.out] at h5
      rw [← HQ.out] at h7
      have HQ' : Hid (q / r = i / pr (rs.take (k + 1))) := h7.symm
      have HA' : Hid (a * r + q % r = tn (rs.take (k + 1)) i) := h6.symm
      have hr0 : ¬ (r : Int) = 0 := by omega
      have hm1 : Int.tmod (q : Int) (r : Int) = ((q % r : Nat) : Int) := rfl
      have hd1 : Int.tdiv (q : Int) (r : Int) = ((q / r : Nat) : Int) := rfl
      have hml : q % r < 4096 := by have := Nat.mod_lt q (show 0 < r by omega); omega
      have hdl : q / r ≤ 4096 := Nat.le_trans (Nat.div_le_self _ _) Hq.out
      obtain ⟨d, hd⟩ : ∃ d, q / r = d := ⟨_, rfl⟩
      obtain ⟨m, hm⟩ : ∃ m, q % r = m := ⟨_, rfl⟩
      rw [hd] at HQ' hd1 hdl
      rw [hm] at HA' hm1 hml h4
      obtain ⟨p, hp⟩ : ∃ p, a * r = p := ⟨_, rfl⟩
      have hpi : (a : Int) * (r : Int) = (p : Int) := by rw [← Int.natCast_mul, hp]
      rw [hp] at HA' h4 h5
      have w1 : wrap64 (p : Int) = (p : Int) := wrS (Nat.le_trans (Nat.le_of_lt h5) (by decide))
      have w2 : wrap64 (m : Int) = (m : Int) := wrS (Nat.le_trans (Nat.le_of_lt hml) (by decide))
      have w3 : wrap64 ((p : Int) + (m : Int)) = ((p + m : Nat) : Int) := wrA (Nat.le_trans (Nat.le_of_lt h4) (by decide))
      have w4 : wrap64 (d : Int) = (d : Int) := wrS (Nat.le_trans hdl (by decide))
      have HB : Hid (d ≤ 4096) := hdl
      clear c0 hr h2 h3 h4 h5 h6 h7 HQ HA hd hm hp hml hdl Hq hlt'
      go_wp2
      go_roundw
      case rel => exact ⟨d, p + m, k + 1, by first | rfl | (rw [w4]), by first | rfl | (rw [w3]), by go_num, by omega, HB, HQ', HA', by first | rfl | trivial⟩
      case measure => simp [intOf]; omega
    · obtain rfl : k = L := by omega
      have HE : Hid (a = t) := by unfold Hid; rw [HA.out, ← HT.out, ← HL.out, List.take_length]
      clear HQ HA Hq
      go_wp2
      go_ret
      exact ⟨congrArg (fun n : Nat => Ending.returned (.int .i64 (n : Int))) HE.out, rfl⟩

/-! ### Turn -/
theorem turn_no (W : World) (A : Option Addr) (C : Nat) (zs : List Int) (hZ : ZAt W A C zs) (i : Int) (h : i < 0 ∨ rS zs ≤ i) : AnsQ W 11 #[.slice A zs.length C, .int .i64 i] (.tuple #[.int .i64 0, .bool false]) := by
  intro w hw
  have HS := size_any W A C zs hZ
  generalize rS zs = s at HS h
  generalize rE zs = e at HS
  generalize zs.length = L at HS ⊢
  clear hZ
  by_cases h0 : i < 0
  · clear h
    go_enter Try.func11, Try.ntmps11
    go_wp2_with (go_at_call 9; with_reducible refine AnsQ.use HS hw ?_)
    go_ret2
    exact ⟨rfl, rfl⟩
  · have h1 : s ≤ i := by omega
    have h2 : decide (s ≤ i) = true := by simpa using h1
    clear h
    go_enter Try.func11, Try.ntmps11
    go_wp2_with (go_at_call 9; with_reducible refine AnsQ.use HS hw ?_)
    go_ret2
    exact ⟨rfl, rfl⟩
theorem turn_yes (W : World) (A : Option Addr) (C : Nat) (rs : List Nat) (hZ : ZAt W A C (ints rs)) (hR : Rad rs) (i : Nat) (hi : i < pr rs) : AnsQ W 11 #[.slice A rs.length C, .int .i64 (i : Int)] (.tuple #[.int .i64 (tn rs i : Int), .bool true]) := by
  intro w hw
  have HS := size_any W A C (ints rs) hZ
  have HT := turned_any W A C rs hZ hR i (by have := hR.max; omega)
  have el : (ints rs).length = rs.length := by simp [ints]
  rw [(r_rad hR).1, (r_rad hR).2, el] at HS
  generalize pr rs = s at HS hi
  generalize tn rs i = t at HT ⊢
  generalize rs.length = L at HS HT ⊢
  clear hZ hR el
  have h0 : ¬ (i : Int) < 0 := by omega
  have h1 : ¬ (s : Int) ≤ (i : Int) := by omega
  go_enter Try.func11, Try.ntmps11
  go_wp2_with (first
    | (go_at_call 9; with_reducible refine AnsQ.use HS hw ?_)
    | (go_at_call 23; with_reducible refine AnsQ.use HT hw ?_))
  go_ret2
  exact ⟨rfl, rfl⟩
end Go.Proofs.Ytgmjbagomfegeaa

/-
  What shape.Size and the document's Size answer. No condition.
-/
import Derived.Test.YtccknfhhmdoffaaSh0
namespace Go.Proofs.Ytccknfhhmdoffaa
set_option linter.unusedVariables false
open Go.RowKit

set_option maxHeartbeats 1000000 in
/-- shape.Size. -/
theorem size_any (W : World) (A : Option Addr) (C : Nat) (zs : List Int) (hZ : ZAt W A C zs) : AnsQ W 29 #[.slice A zs.length C] (.tuple #[.int .i64 (sizeV zs), .int .i64 (errV zs)]) := by
  intro w hw
  have hlen := hZ.len
  obtain ⟨L, hL⟩ : ∃ L, zs.length = L := ⟨_, rfl⟩
  rw [hL] at hlen
  have HL : Hid (zs.length = L) := hL
  rw [hL]
  clear hL
  by_cases h4 : 4 < L
  · have HE : Hid (sizeV zs = 0 ∧ errV zs = 1) := sizeV_many (by rw [HL.out]; exact h4)
    have h4' : (4 : Int) < (L : Int) := by omega
    go_enter Try.func29, Try.ntmps29
    go_wp2
    go_ret2
    exact ⟨ret_two ⟨HE.out.1.symm, HE.out.2.symm⟩, rfl⟩
  · have h4' : ¬ (4 : Int) < (L : Int) := by omega
    have H4 : Hid (¬ 4 < zs.length) := by unfold Hid; rw [HL.out]; exact h4
    go_enter Try.func29, Try.ntmps29
    go_wp2
    go_loopw [4, 12] (fun x v wr => ∃ s k : Nat, x = .int .i64 s ∧ v = .int .i64 k ∧ k ≤ L ∧ 1 ≤ s ∧ s ≤ 4096 ∧ Hid (szGo s (zs.drop k) = szGo 1 zs) ∧ wr = w) (fun _ v _ => L - (intOf v).toNat)
    case atStart => exact ⟨1, 0, rfl, rfl, by omega, by omega, by omega, by unfold Hid; rw [List.drop_zero], rfl⟩
    case round =>
      obtain ⟨s, k, rfl, rfl, hk, hs1, hs2, HI, rfl⟩ := hrel
      by_cases hlt : k < L
      · have hlt' : k < zs.length := by rw [HL.out]; exact hlt
        obtain ⟨z, hz⟩ : ∃ z, zs[k]? = some z := ⟨_, List.getElem?_eq_getElem hlt'⟩
        obtain ⟨b, o, rfl, hb, c0, hz1, hz2⟩ := hZ.get k z hz
        have c0' := ((bcell hw).1 b (o + k) hb).trans c0
        have HD : Hid (zs.drop k = z :: zs.drop (k + 1)) := drop_consZ hz
        clear c0 hz hlt'
        have hs0 : ¬ (s : Int) = 0 := by omega
        have hq1 : Int.tdiv 4096 (s : Int) = ((4096 / s : Nat) : Int) := rfl
        have hq0 : 4096 / s ≤ 4096 := Nat.div_le_self _ _
        have hql := quo_lt (z := z) hs1
        rw [hq1] at hql
        obtain ⟨q, hq⟩ : ∃ q : Nat, 4096 / s = q := ⟨_, rfl⟩
        rw [hq] at hq1 hql hq0
        have hq2 : wrap64 (q : Int) = (q : Int) := by unfold wrap64; omega
        by_cases hz0 : z < 1
        · have HE : Hid (szGo 1 zs = none) := by unfold Hid; rw [← HI.out, HD.out, szGo_bad (Or.inl hz0)]
          clear HI HD hql hq hq0 hs2
          go_wp2
          go_ret2
          exact ⟨ret_two (by have := sizeV_none H4.out HE.out; exact ⟨this.1.symm, this.2.symm⟩), rfl⟩
        · by_cases hqz : (q : Int) < z
          · have HE : Hid (szGo 1 zs = none) := by unfold Hid; rw [← HI.out, HD.out, szGo_bad (Or.inr (hql.1 hqz))]
            clear HI HD hql hq hq0 hs2
            go_wp2
            go_ret2
            exact ⟨ret_two (by have := sizeV_none H4.out HE.out; exact ⟨this.1.symm, this.2.symm⟩), rfl⟩
          · have hm : ¬ 4096 < z * (s : Int) := fun h => hqz (hql.2 h)
            obtain ⟨d, rfl⟩ := Int.eq_ofNat_of_zero_le (show 0 ≤ z by omega)
            have HE : Hid (szGo (s * d) (zs.drop (k + 1)) = szGo 1 zs) := by
              unfold Hid; rw [← HI.out, HD.out, szGo_ok (by simp only [not_or]; exact ⟨hz0, hm⟩), Int.toNat_natCast]
            have hm1 : s * d ≤ 4096 := by have := Int.not_lt.1 hm; rw [Int.mul_comm, ← Int.natCast_mul] at this; omega
            have hm0 : 1 ≤ s * d := Nat.mul_le_mul hs1 (show 1 ≤ d by omega)
            have hmw : wrap64 ((s : Int) * (d : Int)) = ((s * d : Nat) : Int) := by
              rw [← Int.natCast_mul]; unfold wrap64; omega
            have HM : Hid (s * d ≤ 4096) := hm1
            clear HI HD hql hq hm hq0 hs2 hm1
            go_wp2
            go_roundw
            case rel => exact ⟨s * d, k + 1, by first | rfl | (rw [← hmw]), by go_num, by omega, hm0, HM.out, HE, by first | rfl | trivial⟩
            case measure => simp [intOf]; omega
      · obtain rfl : k = L := by omega
        have HE : Hid (szGo 1 zs = some s) := by
          unfold Hid; rw [← HI.out, ← HL.out, List.drop_length]; rfl
        clear HI hs2
        go_wp2
        go_ret2
        exact ⟨ret_two (by have := sizeV_some H4.out HE.out; exact ⟨this.1.symm, this.2.symm⟩), rfl⟩
set_option maxHeartbeats 1000000 in
/-- The document's Size. -/
theorem rsize_any (W : World) (A : Option Addr) (C : Nat) (zs : List Int) (hZ : ZAt W A C zs) : AnsQ W 19 #[.slice A zs.length C] (.tuple #[.int .i64 (sizeV zs), .int .i64 (errV zs)]) := by
  intro w hw
  have hlen := hZ.len
  obtain ⟨L, hL⟩ : ∃ L, zs.length = L := ⟨_, rfl⟩
  rw [hL] at hlen
  have HL : Hid (zs.length = L) := hL
  rw [hL]
  clear hL
  by_cases h4 : 4 < L
  · have HE : Hid (sizeV zs = 0 ∧ errV zs = 1) := sizeV_many (by rw [HL.out]; exact h4)
    have h4' : (4 : Int) < (L : Int) := by omega
    go_enter Try.func19, Try.ntmps19
    go_wp2
    go_ret2
    exact ⟨ret_two ⟨HE.out.1.symm, HE.out.2.symm⟩, rfl⟩
  · have h4' : ¬ (4 : Int) < (L : Int) := by omega
    have H4 : Hid (¬ 4 < zs.length) := by unfold Hid; rw [HL.out]; exact h4
    go_enter Try.func19, Try.ntmps19
    go_wp2
    go_loopw [4, 12] (fun x v wr => ∃ s k : Nat, x = .int .i64 s ∧ v = .int .i64 k ∧ k ≤ L ∧ 1 ≤ s ∧ s ≤ 4096 ∧ Hid (szGo s (zs.drop k) = szGo 1 zs) ∧ wr = w) (fun _ v _ => L - (intOf v).toNat)
    case atStart => exact ⟨1, 0, rfl, rfl, by omega, by omega, by omega, by unfold Hid; rw [List.drop_zero], rfl⟩
    case round =>
      obtain ⟨s, k, rfl, rfl, hk, hs1, hs2, HI, rfl⟩ := hrel
      by_cases hlt : k < L
      · have hlt' : k < zs.length := by rw [HL.out]; exact hlt
        obtain ⟨z, hz⟩ : ∃ z, zs[k]? = some z := ⟨_, List.getElem?_eq_getElem hlt'⟩
        obtain ⟨b, o, rfl, hb, c0, hz1, hz2⟩ := hZ.get k z hz
        have c0' := ((bcell hw).1 b (o + k) hb).trans c0
        have HD : Hid (zs.drop k = z :: zs.drop (k + 1)) := drop_consZ hz
        clear c0 hz hlt'
        by_cases hz0 : z < 1
        · have HE : Hid (szGo 1 zs = none) := by unfold Hid; rw [← HI.out, HD.out, szGo_bad (Or.inl hz0)]
          clear HI HD hs2
          go_wp2
          go_ret2
          exact ⟨ret_two (by have := sizeV_none H4.out HE.out; exact ⟨this.1.symm, this.2.symm⟩), rfl⟩
        · obtain ⟨d, rfl⟩ := Int.eq_ofNat_of_zero_le (show 0 ≤ z by omega)
          have hd1 : 1 ≤ d := by omega
          by_cases hbig : 4096 < d
          · have HE : Hid (szGo 1 zs = none) := by
              unfold Hid
              rw [← HI.out, HD.out, szGo_bad (Or.inr ?_)]
              rw [← Int.natCast_mul]
              have := Nat.mul_le_mul (Nat.le_refl d) hs1
              omega
            have hbig' : (4096 : Int) < (d : Int) := by omega
            clear HI HD hs2 hbig
            go_wp2
            go_ret2
            exact ⟨ret_two (by have := sizeV_none H4.out HE.out; exact ⟨this.1.symm, this.2.symm⟩), rfl⟩
          · have hbig' : ¬ (4096 : Int) < (d : Int) := by omega
            have hm2 : s * d ≤ 4096 * 4096 := Nat.mul_le_mul hs2 (by omega)
            obtain ⟨m, hme⟩ : ∃ m, s * d = m := ⟨_, rfl⟩
            have hmi : (s : Int) * (d : Int) = (m : Int) := by rw [← Int.natCast_mul, hme]
            have hmj : (d : Int) * (s : Int) = (m : Int) := by rw [Int.mul_comm]; exact hmi
            have hm0 : 1 ≤ m := by rw [← hme]; exact Nat.mul_le_mul hs1 hd1
            rw [hme] at hm2
            have hmw : wrap64 (m : Int) = (m : Int) := by unfold wrap64; omega
            by_cases hmm : 4096 < m
            · have HE : Hid (szGo 1 zs = none) := by
                unfold Hid
                rw [← HI.out, HD.out, szGo_bad (Or.inr ?_)]
                rw [hmj]
                omega
              have hmm' : (4096 : Int) < (m : Int) := by omega
              clear HI HD hs2 hbig hmm hm2 hme
              go_wp2
              go_ret2
              exact ⟨ret_two (by have := sizeV_none H4.out HE.out; exact ⟨this.1.symm, this.2.symm⟩), rfl⟩
            · have HE : Hid (szGo m (zs.drop (k + 1)) = szGo 1 zs) := by
                unfold Hid
                rw [← HI.out, HD.out, szGo_ok ?_, Int.toNat_natCast, hme]
                rw [hmj]
                omega
              have hmm' : ¬ (4096 : Int) < (m : Int) := by omega
              have HM : Hid (m ≤ 4096) := by unfold Hid; omega
              clear HI HD hs2 hbig hmm hm2 hme
              go_wp2
              go_roundw
              case rel => exact ⟨m, k + 1, by first | rfl | (rw [hmw]; try rw [hmw]), by go_num, by omega, hm0, HM.out, HE, by first | rfl | trivial⟩
              case measure => simp [intOf]; omega
      · obtain rfl : k = L := by omega
        have HE : Hid (szGo 1 zs = some s) := by
          unfold Hid; rw [← HI.out, ← HL.out, List.drop_length]; rfl
        clear HI hs2
        go_wp2
        go_ret2
        exact ⟨ret_two (by have := sizeV_some H4.out HE.out; exact ⟨this.1.symm, this.2.symm⟩), rfl⟩
end Go.Proofs.Ytccknfhhmdoffaa

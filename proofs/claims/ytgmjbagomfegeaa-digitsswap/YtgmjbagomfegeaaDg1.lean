/-
  What digits.Size and the document's Size answer. No condition but that the row lies there.
-/
import Derived.Test.YtgmjbagomfegeaaDg0
namespace Go.Proofs.Ytgmjbagomfegeaa
set_option linter.unusedVariables false
open Go.RowKit

def idxV (r : Option Nat) : Value := match r with
  | none => .int .i64 (-1)
  | some k => .int .i64 (k : Int)
theorem found {α : Type} {l : List α} {t : α → Bool} {k : Nat} {x : α} (hx : l[k]? = some x) (ht : t x = true) (hb : ∀ j y, j < k → l[j]? = some y → t y = false) : l.findIdx? t = some k := by
  obtain ⟨hk, rfl⟩ := List.getElem?_eq_some_iff.1 hx
  refine List.findIdx?_eq_some_iff_getElem.2 ⟨hk, ht, fun j hj => ?_⟩
  rw [hb j _ hj (List.getElem?_eq_getElem (by omega))]; simp
theorem found_none {α : Type} {l : List α} {t : α → Bool} (hb : ∀ j y, j < l.length → l[j]? = some y → t y = false) : l.findIdx? t = none := by
  refine List.findIdx?_eq_none_iff.2 fun x hx => ?_
  obtain ⟨j, hj, rfl⟩ := List.getElem_of_mem hx
  exact hb j _ hj (List.getElem?_eq_getElem hj)
theorem ret_b {a b : Bool} (h : a = b) : Ending.returned (.bool a) = .returned (.bool b) := by rw [h]

theorem isNoRadix_any (W : World) (z : Int) : AnsQ W 22 #[.int .i64 z] (.bool (decide (z < 2))) := by
  intro w hw
  by_cases h : z < 2
  · rw [show decide (z < 2) = true by simpa using h]
    go_enter Try.func22, Try.ntmps22
    go_wp2
    go_ret
    exact ⟨rfl, rfl⟩
  · rw [show decide (z < 2) = false by simpa using h]
    go_enter Try.func22, Try.ntmps22
    go_wp2
    go_ret
    exact ⟨rfl, rfl⟩
set_option maxHeartbeats 1000000 in
theorem index_no (W : World) (A : Option Addr) (C : Nat) (zs : List Int) (hZ : ZAt W A C zs) :
    AnsQ W 28 #[.slice A zs.length C, .func (.func 22) #[] #[]] (idxV (zs.findIdx? fun z => decide (z < 2))) := by
  intro w hw
  have hlen := hZ.len
  obtain ⟨L, hL⟩ : ∃ L, zs.length = L := ⟨_, rfl⟩
  rw [hL] at hlen
  have HL : Hid (zs.length = L) := hL
  rw [hL]
  clear hL
  go_enter Try.func28, Try.ntmps28
  go_wp2
  go_loopw [8] (fun v wr => ∃ k : Nat, v = .int .i64 k ∧ k ≤ L ∧ Hid (∀ j y, j < k → zs[j]? = some y → decide (y < 2) = false) ∧ wr = w) (fun v _ => L - (intOf v).toNat)
  case atStart => exact ⟨0, rfl, by omega, fun j y hj => absurd hj (by omega), rfl⟩
  case round =>
    obtain ⟨k, rfl, hk, HI, rfl⟩ := hrel
    by_cases hlt : k < L
    · have hlt' : k < zs.length := by rw [HL.out]; exact hlt
      obtain ⟨z, hz⟩ : ∃ z, zs[k]? = some z := ⟨_, List.getElem?_eq_getElem hlt'⟩
      obtain ⟨b, o, rfl, hb, c0, _⟩ := hZ.get k z hz
      have c0' := ((bcell hw).1 b (o + k) hb).trans c0
      have HC := isNoRadix_any W z
      by_cases ht : z < 2
      · have hpq : decide (z < 2) = true := by simpa using ht
        have HE : Hid (idxV (zs.findIdx? fun z => decide (z < 2)) = .int .i64 (k : Int)) := by
          unfold Hid; rw [found (t := fun z : Int => decide (z < 2)) hz hpq HI.out]; rfl
        rw [hpq] at HC
        clear c0 hz HI ht hpq
        go_wp2_with (go_at_call 22; with_reducible refine AnsQ.use HC hw ?_)
        go_ret
        exact ⟨congrArg Ending.returned HE.out.symm, rfl⟩
      · have hpq : decide (z < 2) = false := by simpa using ht
        have HS : Hid (∀ j y, j < k + 1 → zs[j]? = some y → decide (y < 2) = false) := by
          intro j y hj hy
          by_cases h : j < k
          · exact HI.out j y h hy
          · obtain rfl : j = k := by omega
            rw [hz] at hy; cases hy; exact hpq
        rw [hpq] at HC
        clear c0 hz HI ht hpq
        go_wp2_with (go_at_call 22; with_reducible refine AnsQ.use HC hw ?_)
        go_roundw
        case rel => exact ⟨k + 1, by go_num, by omega, HS, by first | rfl | trivial⟩
        case measure => simp [intOf]; omega
    · obtain rfl : k = L := by omega
      have HE : Hid (idxV (zs.findIdx? fun z => decide (z < 2)) = .int .i64 (-1)) := by
        unfold Hid; rw [found_none (t := fun z : Int => decide (z < 2)) (by rw [HL.out]; exact HI.out)]; rfl
      clear HI
      go_wp2
      go_ret
      exact ⟨congrArg Ending.returned HE.out.symm, rfl⟩
theorem contains_walk (W : World) (s f : Value) (r : Option Nat) (HI : AnsQ W 28 #[s, f] (idxV r)) :
    AnsQ W 21 #[s, f] (.bool r.isSome) := by
  intro w hw
  cases r with
  | none =>
    have HI' : AnsQ W 28 #[s, f] (.int .i64 (-1)) := HI
    go_enter Try.func21, Try.ntmps21
    go_wp2_with (go_at_call 28; with_reducible refine AnsQ.use HI' hw ?_)
    go_ret
    exact ⟨rfl, rfl⟩
  | some k =>
    have HI' : AnsQ W 28 #[s, f] (.int .i64 (k : Int)) := HI
    have hk : decide ((0 : Int) ≤ (k : Int)) = true := by simp
    go_enter Try.func21, Try.ntmps21
    go_wp2_with (go_at_call 28; with_reducible refine AnsQ.use HI' hw ?_)
    go_ret
    exact ⟨by simp, rfl⟩
theorem containsNo_any (W : World) (A : Option Addr) (C : Nat) (zs : List Int) (hZ : ZAt W A C zs) :
    AnsQ W 21 #[.slice A zs.length C, .func (.func 22) #[] #[]] (.bool (isNo zs)) := by
  refine (contains_walk W _ _ _ (index_no W A C zs hZ)).to ?_
  congr 1
  unfold isNo
  rw [List.findIdx?_isSome]

set_option maxHeartbeats 1000000 in
/-- digits.Size. -/
theorem size_any (W : World) (A : Option Addr) (C : Nat) (zs : List Int) (hZ : ZAt W A C zs) : AnsQ W 9 #[.slice A zs.length C] (.tuple #[.int .i64 (rS zs), .int .i64 (rE zs)]) := by
  intro w hw
  have hlen := hZ.len
  have HC := containsNo_any W A C zs hZ
  obtain ⟨L, hL⟩ : ∃ L, zs.length = L := ⟨_, rfl⟩
  rw [hL] at hlen HC
  have HL : Hid (zs.length = L) := hL
  rw [hL]
  clear hL
  by_cases h4 : 12 < L
  · have HE : Hid (rS zs = 0 ∧ rE zs = 1) := r_many (by rw [HL.out]; exact h4)
    have h4' : (12 : Int) < (L : Int) := by omega
    clear HC
    go_enter Try.func9, Try.ntmps9
    go_wp2
    go_ret2
    exact ⟨ret_two ⟨HE.out.1.symm, HE.out.2.symm⟩, rfl⟩
  · have h4' : ¬ (12 : Int) < (L : Int) := by omega
    have H4 : Hid (¬ 12 < zs.length) := by unfold Hid; rw [HL.out]; exact h4
    cases hn : isNo zs with
    | true =>
      have HE : Hid (rS zs = 0 ∧ rE zs = 1) := r_no hn
      rw [hn] at HC
      clear hn
      go_enter Try.func9, Try.ntmps9
      go_wp2_with (go_at_call 21; with_reducible refine AnsQ.use HC hw ?_)
      go_ret2
      exact ⟨ret_two ⟨HE.out.1.symm, HE.out.2.symm⟩, rfl⟩
    | false =>
      have HN : Hid (isNo zs = false) := hn
      rw [hn] at HC
      clear hn
      go_enter Try.func9, Try.ntmps9
      go_wp2_with (go_at_call 21; with_reducible refine AnsQ.use HC hw ?_)
      go_loopw [4, 16] (fun x v wr => ∃ s k : Nat, x = .int .i64 s ∧ v = .int .i64 k ∧ k ≤ L ∧ 1 ≤ s ∧ s ≤ 4096 ∧ Hid (szGo s (zs.drop k) = szGo 1 zs) ∧ wr = w) (fun _ v _ => L - (intOf v).toNat)
      case atStart => exact ⟨1, 0, rfl, rfl, by omega, by omega, by omega, by unfold Hid; rw [List.drop_zero], rfl⟩
      case round =>
        clear HC
        obtain ⟨s, k, rfl, rfl, hk, hs1, hs2, HI, rfl⟩ := hrel
        by_cases hlt : k < L
        · have hlt' : k < zs.length := by rw [HL.out]; exact hlt
          obtain ⟨z, hz⟩ : ∃ z, zs[k]? = some z := ⟨_, List.getElem?_eq_getElem hlt'⟩
          obtain ⟨b, o, rfl, hb, c0, hz1, hz2⟩ := hZ.get k z hz
          have c0' := ((bcell hw).1 b (o + k) hb).trans c0
          have HD : Hid (zs.drop k = z :: zs.drop (k + 1)) := drop_consZ hz
          have hz0 := isNo_false HN.out hz
          clear c0 hz hlt'
          have hs0 : ¬ (s : Int) = 0 := by omega
          have hq1 : Int.tdiv 4096 (s : Int) = ((4096 / s : Nat) : Int) := rfl
          have hq0 : 4096 / s ≤ 4096 := Nat.div_le_self _ _
          have hql := quo_lt (z := z) hs1
          rw [hq1] at hql
          obtain ⟨q, hq⟩ : ∃ q : Nat, 4096 / s = q := ⟨_, rfl⟩
          rw [hq] at hq1 hql hq0
          have hq2 : wrap64 (q : Int) = (q : Int) := by unfold wrap64; omega
          by_cases hqz : (q : Int) < z
          · have HE : Hid (szGo 1 zs = none) := by unfold Hid; rw [← HI.out, HD.out, szGo_bad (Or.inr (hql.1 hqz))]
            clear HI HD hql hq hq0 hs2
            go_wp2
            go_ret2
            exact ⟨ret_two (by have := r_none H4.out HN.out HE.out; exact ⟨this.1.symm, this.2.symm⟩), rfl⟩
          · have hm : ¬ 4096 < z * (s : Int) := fun h => hqz (hql.2 h)
            obtain ⟨d, rfl⟩ := Int.eq_ofNat_of_zero_le (show 0 ≤ z by omega)
            have HE : Hid (szGo (s * d) (zs.drop (k + 1)) = szGo 1 zs) := by
              unfold Hid; rw [← HI.out, HD.out, szGo_ok (by simp only [not_or]; exact ⟨by omega, hm⟩), Int.toNat_natCast]
            have hm1 : s * d ≤ 4096 := by have := Int.not_lt.1 hm; rw [Int.mul_comm, ← Int.natCast_mul] at this; omega
            have hm0 : 1 ≤ s * d := Nat.mul_le_mul hs1 (show 1 ≤ d by omega)
            have hmw : wrap64 ((s : Int) * (d : Int)) = ((s * d : Nat) : Int) := by
              rw [← Int.natCast_mul]; unfold wrap64; omega
            have HM : Hid (s * d ≤ 4096) := hm1
            clear HI HD hql hq hm hq0 hs2 hm1
            go_wp2
            go_roundw
            case rel => exact ⟨s * d, k + 1, by first | rfl | (rw [← hmw]), by go_num, by omega, hm0, HM.out, HE, by first | rfl | trivial⟩
            case measure => simp [intOf]; omega
        · obtain rfl : k = L := by omega
          have HE : Hid (szGo 1 zs = some s) := by
            unfold Hid; rw [← HI.out, ← HL.out, List.drop_length]; rfl
          clear HI hs2
          go_wp2
          go_ret2
          exact ⟨ret_two (by have := r_some H4.out HN.out HE.out; exact ⟨this.1.symm, this.2.symm⟩), rfl⟩
end Go.Proofs.Ytgmjbagomfegeaa

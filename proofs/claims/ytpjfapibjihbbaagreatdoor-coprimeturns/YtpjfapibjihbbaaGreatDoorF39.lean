/-
  What digits.Size and the document's Size answer. No condition but that the row lies there.
-/
import Derived.Test.YtpjfapibjihbbaaGreatDoorF30
import Derived.Test.YtpjfapibjihbbaaGreatDoorF2
import Derived.Test.YtpjfapibjihbbaaGreatDoorF28
import Derived.RangeFuncNested
import Derived.RangeFuncBound
import Derived.RangeFuncCalls
import Derived.RangeFuncLeaves
import Derived.RangeFuncBox
import Derived.Shelf.Abstract
import Derived.Shelf.RegionOpen
import Derived.OwnWalkIn
import Derived.TacticsInMore
import Derived.LoopNIn
import Derived.LoopIn
namespace Go.Proofs.YtpjfapibjihbbaaGreatDoor
set_option linter.unusedVariables false
open Go.RowKit

theorem isNoRadix_any (W : World) (z : Int) : AnsQ W 134 #[.int .i64 z] (.bool (decide (z < 2))) := by
  intro w hw
  by_cases h : z < 2
  · rw [show decide (z < 2) = true by simpa using h]
    go_enter Tryz.func134, Tryz.ntmps134
    go_wp2
    go_ret
    exact ⟨rfl, rfl⟩
  · rw [show decide (z < 2) = false by simpa using h]
    go_enter Tryz.func134, Tryz.ntmps134
    go_wp2
    go_ret
    exact ⟨rfl, rfl⟩
set_option maxHeartbeats 1000000 in
theorem index_no (W : World) (A : Option Addr) (C : Nat) (zs : List Int) (hZ : ZAt W A C zs) :
    AnsQ W 149 #[.slice A zs.length C, .func (.func 134) #[] #[]] (idxV (zs.findIdx? fun z => decide (z < 2))) := by
  intro w hw
  have hlen := hZ.len
  obtain ⟨L, hL⟩ : ∃ L, zs.length = L := ⟨_, rfl⟩
  rw [hL] at hlen
  have HL : Hid (zs.length = L) := hL
  rw [hL]
  clear hL
  go_enter Tryz.func149, Tryz.ntmps149
  go_wp2
  go_loopw [8] (fun v wr => ∃ k : Nat, v = .int .i64 k ∧ k ≤ L ∧ Hid (∀ j y, j < k → zs[j]? = some y → decide (y < 2) = false) ∧ wr = w) (fun v _ => L - (intOf v).toNat)
  case atStart => exact ⟨0, rfl, by omega, fun j y hj => absurd hj (by omega), rfl⟩
  case round =>
    obtain ⟨k, rfl, hk, HI, rfl⟩ := hrel
    by_cases hlt : k < L
    · have hlt' : k < zs.length := by rw [HL.out]; exact hlt
      obtain ⟨z, hz⟩ : ∃ z, zs[k]? = some z := ⟨_, List.getElem?_eq_getElem hlt'⟩
      obtain ⟨b, o, rfl, hb, c0, _⟩ := hZ.get k z hz
      have c0' := ((bcell hw).1 b (o + k) hb).trans c0
      have HC := isNoRadix_any W z
      by_cases ht : z < 2
      · have hpq : decide (z < 2) = true := by simpa using ht
        have HE : Hid (idxV (zs.findIdx? fun z => decide (z < 2)) = .int .i64 (k : Int)) := by
          unfold Hid; rw [found (t := fun z : Int => decide (z < 2)) hz hpq HI.out]; rfl
        rw [hpq] at HC
        clear c0 hz HI ht hpq
        go_wp2_with (go_at_call 134; with_reducible refine AnsQ.use HC hw ?_)
        go_ret
        exact ⟨congrArg Ending.returned HE.out.symm, rfl⟩
      · have hpq : decide (z < 2) = false := by simpa using ht
        have HS : Hid (∀ j y, j < k + 1 → zs[j]? = some y → decide (y < 2) = false) := by
          intro j y hj hy
          by_cases h : j < k
          · exact HI.out j y h hy
          · obtain rfl : j = k := by omega
            rw [hz] at hy; cases hy; exact hpq
        rw [hpq] at HC
        clear c0 hz HI ht hpq
        go_wp2_with (go_at_call 134; with_reducible refine AnsQ.use HC hw ?_)
        go_roundw
        case rel => exact ⟨k + 1, by go_num, by omega, HS, by first | rfl | trivial⟩
        case measure => simp [intOf]; omega
    · obtain rfl : k = L := by omega
      have HE : Hid (idxV (zs.findIdx? fun z => decide (z < 2)) = .int .i64 (-1)) := by
        unfold Hid; rw [found_none (t := fun z : Int => decide (z < 2)) (by rw [HL.out]; exact HI.out)]; rfl
      clear HI
      go_wp2
      go_ret
      exact ⟨congrArg Ending.returned HE.out.symm, rfl⟩
theorem contains_walk (W : World) (s f : Value) (r : Option Nat) (HI : AnsQ W 149 #[s, f] (idxV r)) :
    AnsQ W 133 #[s, f] (.bool r.isSome) := by
  intro w hw
  cases r with
  | none =>
    have HI' : AnsQ W 149 #[s, f] (.int .i64 (-1)) := HI
    go_enter Tryz.func133, Tryz.ntmps133
    go_wp2_with (go_at_call 149; with_reducible refine AnsQ.use HI' hw ?_)
    go_ret
    exact ⟨rfl, rfl⟩
  | some k =>
    have HI' : AnsQ W 149 #[s, f] (.int .i64 (k : Int)) := HI
    have hk : decide ((0 : Int) ≤ (k : Int)) = true := by simp
    go_enter Tryz.func133, Tryz.ntmps133
    go_wp2_with (go_at_call 149; with_reducible refine AnsQ.use HI' hw ?_)
    go_ret
    exact ⟨by simp, rfl⟩
theorem containsNo_any (W : World) (A : Option Addr) (C : Nat) (zs : List Int) (hZ : ZAt W A C zs) :
    AnsQ W 133 #[.slice A zs.length C, .func (.func 134) #[] #[]] (.bool (isNo zs)) := by
  refine (contains_walk W _ _ _ (index_no W A C zs hZ)).to ?_
  congr 1
  unfold isNo
  rw [List.findIdx?_isSome]

set_option maxHeartbeats 1000000 in
/-- digits.Size. -/
theorem size_any (W : World) (A : Option Addr) (C : Nat) (zs : List Int) (hZ : ZAt W A C zs) : AnsQ W 104 #[.slice A zs.length C] (.tuple #[.int .i64 (rS zs), .int .i64 (rE zs)]) := by
  intro w hw
  have hlen := hZ.len
  have HC := containsNo_any W A C zs hZ
  obtain ⟨L, hL⟩ : ∃ L, zs.length = L := ⟨_, rfl⟩
  rw [hL] at hlen HC
  have HL : Hid (zs.length = L) := hL
  rw [hL]
  clear hL
  by_cases h4 : 12 < L
  · have HE : Hid (rS zs = 0 ∧ rE zs = 1) := r_many (by rw [HL.out]; exact h4)
    have h4' : (12 : Int) < (L : Int) := by omega
    clear HC
    go_enter Tryz.func104, Tryz.ntmps104
    go_wp2
    go_ret2
    exact ⟨ret_two ⟨HE.out.1.symm, HE.out.2.symm⟩, rfl⟩
  · have h4' : ¬ (12 : Int) < (L : Int) := by omega
    have H4 : Hid (¬ 12 < zs.length) := by unfold Hid; rw [HL.out]; exact h4
    cases hn : isNo zs with
    | true =>
      have HE : Hid (rS zs = 0 ∧ rE zs = 1) := r_no hn
      rw [hn] at HC
      clear hn
      go_enter Tryz.func104, Tryz.ntmps104
      go_wp2_with (go_at_call 133; with_reducible refine AnsQ.use HC hw ?_)
      go_ret2
      exact ⟨ret_two ⟨HE.out.1.symm, HE.out.2.symm⟩, rfl⟩
    | false =>
      have HN : Hid (isNo zs = false) := hn
      rw [hn] at HC
      clear hn
      go_enter Tryz.func104, Tryz.ntmps104
      go_wp2_with (go_at_call 133; with_reducible refine AnsQ.use HC hw ?_)
      go_loopw [4, 16] (fun x v wr => ∃ s k : Nat, x = .int .i64 s ∧ v = .int .i64 k ∧ k ≤ L ∧ 1 ≤ s ∧ s ≤ 4096 ∧ Hid (szGo s (zs.drop k) = szGo 1 zs) ∧ wr = w) (fun _ v _ => L - (intOf v).toNat)
      case atStart => exact ⟨1, 0, rfl, rfl, by omega, by omega, by omega, by unfold Hid; rw [List.drop_zero], rfl⟩
      case round =>
        clear HC
        obtain ⟨s, k, rfl, rfl, hk, hs1, hs2, HI, rfl⟩ := hrel
        by_cases hlt : k < L
        · have hlt' : k < zs.length := by rw [HL.out]; exact hlt
          obtain ⟨z, hz⟩ : ∃ z, zs[k]? = some z := ⟨_, List.getElem?_eq_getElem hlt'⟩
          obtain ⟨b, o, rfl, hb, c0, hz1, hz2⟩ := hZ.get k z hz
          have c0' := ((bcell hw).1 b (o + k) hb).trans c0
          have HD : Hid (zs.drop k = z :: zs.drop (k + 1)) := drop_consZ hz
          have hz0 := isNo_false HN.out hz
          clear c0 hz hlt'
          have hs0 : ¬ (s : Int) = 0 := by omega
          have hq1 : Int.tdiv 4096 (s : Int) = ((4096 / s : Nat) : Int) := rfl
          have hq0 : 4096 / s ≤ 4096 := Nat.div_le_self _ _
          have hql := quo_lt (z := z) hs1
          rw [hq1] at hql
          obtain ⟨q, hq⟩ : ∃ q : Nat, 4096 / s = q := ⟨_, rfl⟩
          rw [hq] at hq1 hql hq0
          have hq2 : wrap64 (q : Int) = (q : Int) := by unfold wrap64; omega
          by_cases hqz : (q : Int) < z
          · have HE : Hid (szGo 1 zs = none) := by unfold Hid; rw [← HI.out, HD.out, szGo_bad (Or.inr (hql.1 hqz))]
            clear HI HD hql hq hq0 hs2
            go_wp2
            go_ret2
            exact ⟨ret_two (by have := r_none H4.out HN.out HE.out; exact ⟨this.1.symm, this.2.symm⟩), rfl⟩
          · have hm : ¬ 4096 < z * (s : Int) := fun h => hqz (hql.2 h)
            obtain ⟨d, rfl⟩ := Int.eq_ofNat_of_zero_le (show 0 ≤ z by omega)
            have HE : Hid (szGo (s * d) (zs.drop (k + 1)) = szGo 1 zs) := by
              unfold Hid; rw [← HI.out, HD.out, szGo_ok (by simp only [not_or]; exact ⟨by omega, hm⟩), Int.toNat_natCast]
            have hm1 : s * d ≤ 4096 := by have := Int.not_lt.1 hm; rw [Int.mul_comm, ← Int.natCast_mul] at this; omega
            have hm0 : 1 ≤ s * d := Nat.mul_le_mul hs1 (show 1 ≤ d by omega)
            have hmw : wrap64 ((s : Int) * (d : Int)) = ((s * d : Nat) : Int) := by
              rw [← Int.natCast_mul]; unfold wrap64; omega
            have HM : Hid (s * d ≤ 4096) := hm1
            clear HI HD hql hq hm hq0 hs2 hm1
            go_wp2
            go_roundw
            case rel => exact ⟨s * d, k + 1, by first | rfl | (rw [← hmw]), by go_num, by omega, hm0, HM.out, HE, by first | rfl | trivial⟩
            case measure => simp [intOf]; omega
        · obtain rfl : k = L := by omega
          have HE : Hid (szGo 1 zs = some s) := by
            unfold Hid; rw [← HI.out, ← HL.out, List.drop_length]; rfl
          clear HI hs2
          go_wp2
          go_ret2
          exact ⟨ret_two (by have := r_some H4.out HN.out HE.out; exact ⟨this.1.symm, this.2.symm⟩), rfl⟩
end Go.Proofs.YtpjfapibjihbbaaGreatDoor
/-
  What the document's Size (layer 9), and digits.turned and digits.Turn answer. No condition but that the row lies there.
-/
namespace Go.Proofs.YtpjfapibjihbbaaGreatDoor
set_option linter.unusedVariables false
open Go.RowKit

/-! ### turned -/
theorem tn_step {rs : List Nat} (hR : Rad rs) {k r : Nat} (hr : rs[k]? = some r) (i : Nat) :
    2 ≤ r ∧ r ≤ 4096 ∧ tn (rs.take k) i * r + i / pr (rs.take k) % r < 4096 ∧ tn (rs.take k) i * r < 4096 ∧ tn (rs.take (k + 1)) i = tn (rs.take k) i * r + i / pr (rs.take k) % r ∧ i / pr (rs.take (k + 1)) = i / pr (rs.take k) / r := by
  obtain ⟨h1, h2⟩ := tn_take hr i
  have hm : r ∈ rs := List.mem_of_getElem? hr
  have h3 := hR.two r hm
  have h4 := Nat.le_trans (pr_take_le hR.one (k + 1)) hR.max
  have h5 := tn_lt (rs.take (k + 1)) i fun x hx => hR.one x (List.mem_of_mem_take hx)
  have h6 : 1 ≤ pr (rs.take k) := pr_pos fun x hx => hR.one x (List.mem_of_mem_take hx)
  have h7 : r ≤ 4096 := by
    rw [h2] at h4
    exact Nat.le_trans (Nat.le_mul_of_pos_left r h6) h4
  refine ⟨h3, h7, by omega, by omega, h1, ?_⟩
  rw [h2, Nat.div_div_eq_div_mul]
set_option maxHeartbeats 1000000 in
theorem turned_any (W : World) (A : Option Addr) (C : Nat) (rs : List Nat) (hZ : ZAt W A C (ints rs)) (hR : Rad rs) (i : Nat) (hi : i ≤ 4096) : AnsQ W 105 #[.slice A rs.length C, .int .i64 (i : Int)] (.int .i64 (tn rs i : Int)) := by
  intro w hw
  have hlen := hZ.len
  have el : (ints rs).length = rs.length := by simp [ints]
  rw [el] at hlen
  obtain ⟨L, hL⟩ : ∃ L, rs.length = L := ⟨_, rfl⟩
  have HL : Hid (rs.length = L) := hL
  have HR : Hid (Rad rs) := hR
  obtain ⟨t, ht⟩ : ∃ t, tn rs i = t := ⟨_, rfl⟩
  have HT : Hid (tn rs i = t) := ht
  rw [hL] at hlen ⊢
  rw [ht]
  clear hL el ht hR
  go_enter Tryz.func105, Tryz.ntmps105
  go_wp2
  go_loopw [1, 5, 10] (fun x y v wr => ∃ q a k : Nat, x = .int .i64 q ∧ y = .int .i64 a ∧ v = .int .i64 k ∧ k ≤ L ∧ Hid (q ≤ 4096) ∧ Hid (q = i / pr (rs.take k)) ∧ Hid (a = tn (rs.take k) i) ∧ wr = w) (fun _ _ v _ => L - (intOf v).toNat)
  case atStart => exact ⟨i, 0, 0, rfl, rfl, rfl, by omega, hi, by unfold Hid; simp [pr], by unfold Hid; simp [tn, tnA], rfl⟩
  case round =>
    clear hi
    obtain ⟨q, a, k, rfl, rfl, rfl, hk, Hq, HQ, HA, rfl⟩ := hrel
    by_cases hlt : k < L
    · have hlt' : k < rs.length := by rw [HL.out]; exact hlt
      obtain ⟨r, hr⟩ : ∃ r, rs[k]? = some r := ⟨_, List.getElem?_eq_getElem hlt'⟩
      obtain ⟨b, o, rfl, hb, c0, _⟩ := hZ.get k (r : Int) (by simp [ints, hr])
      have c0' := ((bcell hw).1 b (o + k) hb).trans c0
      obtain ⟨h2, h3, h4, h5, h6, h7⟩ := tn_step HR.out hr i
      rw [← HA.out, ← HQ.out] at h4 h6
      rw [← HA.out] at h5
      rw [← HQ.out] at h7
      have HQ' : Hid (q / r = i / pr (rs.take (k + 1))) := h7.symm
      have HA' : Hid (a * r + q % r = tn (rs.take (k + 1)) i) := h6.symm
      have hr0 : ¬ (r : Int) = 0 := by omega
      have hm1 : Int.tmod (q : Int) (r : Int) = ((q % r : Nat) : Int) := rfl
      have hd1 : Int.tdiv (q : Int) (r : Int) = ((q / r : Nat) : Int) := rfl
      have hml : q % r < 4096 := by have := Nat.mod_lt q (show 0 < r by omega); omega
      have hdl : q / r ≤ 4096 := Nat.le_trans (Nat.div_le_self _ _) Hq.out
      obtain ⟨d, hd⟩ : ∃ d, q / r = d := ⟨_, rfl⟩
      obtain ⟨m, hm⟩ : ∃ m, q % r = m := ⟨_, rfl⟩
      rw [hd] at HQ' hd1 hdl
      rw [hm] at HA' hm1 hml h4
      obtain ⟨p, hp⟩ : ∃ p, a * r = p := ⟨_, rfl⟩
      have hpi : (a : Int) * (r : Int) = (p : Int) := by rw [← Int.natCast_mul, hp]
      rw [hp] at HA' h4 h5
      have w1 : wrap64 (p : Int) = (p : Int) := wrS (Nat.le_trans (Nat.le_of_lt h5) (by decide))
      have w2 : wrap64 (m : Int) = (m : Int) := wrS (Nat.le_trans (Nat.le_of_lt hml) (by decide))
      have w3 : wrap64 ((p : Int) + (m : Int)) = ((p + m : Nat) : Int) := wrA (Nat.le_trans (Nat.le_of_lt h4) (by decide))
      have w4 : wrap64 (d : Int) = (d : Int) := wrS (Nat.le_trans hdl (by decide))
      have HB : Hid (d ≤ 4096) := hdl
      clear c0 hr h2 h3 h4 h5 h6 h7 HQ HA hd hm hp hml hdl Hq hlt'
      go_wp2
      go_roundw
      case rel => exact ⟨d, p + m, k + 1, by first | rfl | (rw [w4]), by first | rfl | (rw [w3]), by go_num, by omega, HB, HQ', HA', by first | rfl | trivial⟩
      case measure => simp [intOf]; omega
    · obtain rfl : k = L := by omega
      have HE : Hid (a = t) := by unfold Hid; rw [HA.out, ← HT.out, ← HL.out, List.take_length]
      clear HQ HA Hq
      go_wp2
      go_ret
      exact ⟨congrArg (fun n : Nat => Ending.returned (.int .i64 (n : Int))) HE.out, rfl⟩

/-! ### Turn -/
end Go.Proofs.YtpjfapibjihbbaaGreatDoor
/-
  What digits.Order answers: a list of its own. No condition but that the rows lie there.
-/
namespace Go.Proofs.YtpjfapibjihbbaaGreatDoor
set_option linter.unusedVariables false
open Go.RowKit

theorem ints_len (ds : List Nat) : (ints ds).length = ds.length := by simp [ints]
theorem ZAt.nat {w : World} {A : Option Addr} {C : Nat} {ds : List Nat} (h : ZAt w A C (ints ds)) {i d : Nat} (hd : ds[i]? = some d) : ∃ b o, A = some ⟨b, o, none⟩ ∧ b < w.heap.size ∧ w.cell? ⟨b, o + i, none⟩ = some (.int .i64 (d : Int)) := by
  obtain ⟨b, o, h1, h2, h3, _⟩ := h.get i (Int.ofNat d) (by simp [ints, hd])
  exact ⟨b, o, h1, h2, h3⟩
/-- The list so far: places whose numbers, turned back, are below k, are filled. -/
def og (rs : List Nat) (n k : Nat) (g : Nat → Nat) : List Nat := (List.range n).map fun p => if tn rs.reverse p < k then g (tn rs.reverse p) else 0
theorem og_len (rs : List Nat) (n k : Nat) (g : Nat → Nat) : (og rs n k g).length = n := by simp [og]
theorem og_get (rs : List Nat) {n k p : Nat} (g : Nat → Nat) (h : p < n) : (og rs n k g)[p]? = some (if tn rs.reverse p < k then g (tn rs.reverse p) else 0) := by
  unfold og; rw [List.getElem?_map, List.getElem?_range h]; rfl
theorem og_zero (rs : List Nat) (n : Nat) (g : Nat → Nat) : og rs n 0 g = List.replicate n 0 := by
  apply List.ext_getElem?
  intro j
  by_cases h : j < n
  · rw [og_get rs g h, List.getElem?_replicate, if_pos h, if_neg (by omega)]
  · rw [List.getElem?_eq_none (by rw [og_len]; omega), List.getElem?_eq_none (by simp; omega)]
theorem Rad.forth {rs : List Nat} (h : Rad rs) {p : Nat} (hp : p < pr rs) : Proofs.YtpjfapibjihbbaaGreatDoor.tn rs (Proofs.YtpjfapibjihbbaaGreatDoor.tn rs.reverse p) = p := by
  have := h.rev.back (i := p) (by rw [pr_reverse]; exact hp)
  rw [List.reverse_reverse] at this
  exact this
theorem og_set {rs : List Nat} (hR : Rad rs) {k : Nat} (hk : k < pr rs) (g : Nat → Nat) : (og rs (pr rs) k g).set (tn rs k) (g k) = og rs (pr rs) (k + 1) g := by
  apply List.ext_getElem?
  intro p
  rw [List.getElem?_set, og_len]
  have ht := hR.tn k
  by_cases h : p < pr rs
  · rw [og_get rs g h, og_get rs g h]
    by_cases e : tn rs k = p
    · subst e
      rw [if_pos rfl, if_pos h, hR.back hk, if_pos (by omega)]
    · rw [if_neg e]
      have hne : tn rs.reverse p ≠ k := fun e' => e (by rw [← e']; exact hR.forth h)
      by_cases h2 : tn rs.reverse p < k
      · rw [if_pos h2, if_pos (by omega)]
      · rw [if_neg h2, if_neg (by omega)]
  · rw [if_neg (by omega), List.getElem?_eq_none (by rw [og_len]; omega), List.getElem?_eq_none (by rw [og_len]; omega)]
/-- The list in order. -/
def ord (rs xs : List Nat) : List Nat := (List.range (pr rs)).map fun p => xs.getD (tn rs.reverse p) 0
theorem ord_len (rs xs : List Nat) : (ord rs xs).length = pr rs := by simp [ord]
theorem og_all {rs : List Nat} (hR : Rad rs) (xs : List Nat) : og rs (pr rs) (pr rs) (fun j => xs.getD j 0) = ord rs xs := by
  unfold og ord
  apply List.map_congr_left
  intro p hp
  have := hR.rev.tn p
  rw [pr_reverse] at this
  rw [if_pos this]
theorem ord_get {rs xs : List Nat} {p : Nat} (h : p < pr rs) : (ord rs xs)[p]? = some (xs.getD (tn rs.reverse p) 0) := by
  unfold ord; rw [List.getElem?_map, List.getElem?_range h]; rfl
theorem ord_at {rs xs : List Nat} (hR : Rad rs) (hl : xs.length = pr rs) {i x : Nat} (hx : xs[i]? = some x) : (ord rs xs)[tn rs i]? = some x := by
  have hi : i < pr rs := by rw [← hl]; exact (List.getElem?_eq_some_iff.1 hx).1
  rw [ord_get (hR.tn i), hR.back hi, List.getD_eq_getElem?_getD, hx]; rfl
theorem ord_back {rs xs : List Nat} (hR : Rad rs) (hl : xs.length = pr rs) : ord rs.reverse (ord rs xs) = xs := by
  apply List.ext_getElem?
  intro p
  by_cases hp : p < pr rs
  · obtain ⟨x, hx⟩ : ∃ x, xs[p]? = some x := ⟨_, List.getElem?_eq_getElem (by omega)⟩
    rw [ord_get (by rw [pr_reverse]; exact hp), List.reverse_reverse, List.getD_eq_getElem?_getD, ord_at hR hl hx, hx]; rfl
  · rw [List.getElem?_eq_none (by rw [ord_len, pr_reverse]; omega), List.getElem?_eq_none (by omega)]
theorem ord_small {rs xs : List Nat} (h : ∀ x ∈ xs, x < 18446744073709551616) : ∀ x ∈ ord rs xs, x < 18446744073709551616 := fun x hx => by
  obtain ⟨p, _, rfl⟩ := List.mem_map.1 hx
  rw [List.getD_eq_getElem?_getD]
  cases e : xs[tn rs.reverse p]? with
  | none => simp
  | some y => exact h y (List.mem_of_getElem? e)

set_option maxHeartbeats 1000000 in
theorem order_own (W : World) (A : Option Addr) (C : Nat) (xs : List Nat) (B : Option Addr) (D : Nat) (rs : List Nat) (hX : UAt W A C xs) (hZ : ZAt W B D (ints rs)) (hR : Rad rs) (hl : xs.length = pr rs) : OwnT W 83 #[.slice A xs.length C, .slice B rs.length D] (ord rs xs) := by
  intro w hw
  obtain ⟨ii, hii, hzi, hsi, hbi⟩ := info_parts infoWd
  have HS := size_any W B D (ints rs) hZ
  have HT := fun (j : Nat) (hj : j < pr rs) => turned_any W B D rs hZ hR j (by have := hR.max; omega)
  rw [(r_rad hR).1, (r_rad hR).2, ints_len] at HS
  have hmax := hR.max
  have HTl := ord_len rs xs
  have HF : Hid (ord rs xs = og rs (pr rs) (pr rs) fun j => xs.getD j 0) := (og_all hR xs).symm
  have HI : Hid (∀ x ∈ ord rs xs, x < 18446744073709551616) := ord_small hX.small
  have HSet := fun k (hk : k < pr rs) => og_set hR hk fun j => xs.getD j 0
  have HTn := fun k (hk : k < pr rs) => hR.tn k
  have HX : Hid (∀ (i x : Nat), xs[i]? = some x → xs.getD i 0 = x) := fun i x hx => by rw [List.getD_eq_getElem?_getD, hx]; rfl
  obtain ⟨g, hg⟩ : ∃ g : Nat → Nat, (fun j => xs.getD j 0) = g := ⟨_, rfl⟩
  have hgg : ∀ j, xs.getD j 0 = g j := fun j => congrFun hg j
  simp only [hgg] at HX HSet HF
  have HS0 := og_zero rs (pr rs) g
  have HGe := fun k p (h : p < pr rs) => og_get rs (k := k) g h
  obtain ⟨og', hog⟩ : ∃ og' : Nat → List Nat, (fun k => og rs (pr rs) k g) = og' := ⟨_, rfl⟩
  have hoo : ∀ k, og rs (pr rs) k g = og' k := fun k => congrFun hog k
  have HOl : Hid (∀ k, (og' k).length = pr rs) := fun k => by rw [← hoo, og_len]
  simp only [hoo] at HSet HF HS0 HGe
  obtain ⟨n, hn⟩ : ∃ n, pr rs = n := ⟨_, rfl⟩
  simp only [hn] at HS hmax HTl HF HT HSet HTn HS0 HGe HOl hl
  obtain ⟨L, hL⟩ : ∃ L, rs.length = L := ⟨_, rfl⟩
  rw [hL] at HS ⊢
  simp only [hL] at HT
  rw [HTl]
  obtain ⟨f, hf⟩ : ∃ f : Nat → Nat, (fun j => tn rs j) = f := ⟨_, rfl⟩
  have hft : ∀ j, tn rs j = f j := fun j => congrFun hf j
  simp only [hft] at HT HSet HTn
  have HXl : Hid (xs.length = n) := hl
  rw [hl]
  have HM : Hid (n ≤ 4096) := hmax
  have hlen : (n : Int) ≤ 9223372036854775807 := by omega
  have HSet' : Hid (∀ k, k < n → (og' k).set (f k) (g k) = og' (k + 1)) := HSet
  have HGe' : Hid (∀ k p, p < n → ∃ x : Nat, (og' k)[p]? = some x) := fun k p h => ⟨_, HGe k p h⟩
  have HS0' : Hid (og' 0 = List.replicate n 0) := HS0
  clear hZ hR hn hL HTl hf hft hmax hg hgg hog hoo HSet HGe HS0 hl
  go_enter Tryz.func83, Tryz.ntmps83
  go_wp2_with (first
    | (go_at_call 104; with_reducible refine AnsQ.use HS hw ?_)
    | (at_make; refine Hid.out ?_))
  unfold Hid
  refine wpList_make_full _ rfl _ _ 26 rfl w.heap.size 22 ii _ 1 Tryz.underlying26 hii hzi hsi .i64 .i64 (n : Int) (n : Int) n rfl rfl rfl rfl (by have := HM.out; rw [hbi]; omega) (by have := HM.out; unfold maxLen; omega) (Nat.le_refl _) ?_
  intro w1 hR hG1
  have hR1 : w1.ownsRow w.heap.size 22 1 (.slice (some ⟨w.heap.size, 0, none⟩) n n) n (ucells (og' 0)) := by
    have e : (madeCells (Value.int .u64 0).cells (n * 1)).toList = ucells (og' 0) := by
      rw [made_list rfl, HS0'.out]; simp [ucells]
    rw [← e]; exact hR
  have hB1 : Below w.heap.size w w1 := (Below.refl _ _).grown hG1 (Nat.le_refl _) (fun k ek => by cases ek)
  obtain ⟨gc, hgc⟩ : ∃ gc, w.heap.size = gc := ⟨_, rfl⟩
  have HGC : Hid (w.heap.size = gc) := hgc
  rw [show (Value.slice (some ⟨w.heap.size, 0, none⟩) n n) = .slice (some ⟨gc, 0, none⟩) n n by rw [hgc]] at hR1
  have HR2 : Hid (w1.ownsRow w.heap.size 22 1 (.slice (some ⟨gc, 0, none⟩) n n) n (ucells (og' 0))) := hR1
  rw [hgc]
  clear hR hR1 hG1 hgc HS HS0'
  go_wp2
  go_loopw [27] (fun v wr => ∃ k : Nat, v = .int .i64 (k : Int) ∧ k ≤ n ∧ Hid (wr.ownsRow w.heap.size 22 1 (.slice (some ⟨gc, 0, none⟩) n n) n (ucells (og' k))) ∧ Below w.heap.size w wr) (fun v _ => n - (intOf v).toNat)
  case atStart => exact ⟨0, rfl, by omega, HR2, hB1⟩
  case round =>
    clear HR2 hB1
    obtain ⟨k, rfl, hk, HO, hB⟩ := hrel
    by_cases hlt : k < n
    · obtain ⟨x, hx⟩ : ∃ x, xs[k]? = some x := ⟨_, List.getElem?_eq_getElem (by rw [HXl.out]; exact hlt)⟩
      obtain ⟨b, o, rfl, hb, c0, _⟩ := hX.get k x hx
      have hwB := hw.trans (hB.mono hw.size)
      have c0' := ((bcell hwB).1 b (o + k) hb).trans c0
      have hgx := HX.out k x hx
      have hfk := HTn k hlt
      obtain ⟨y, hy⟩ := HGe'.out k (f k) hfk
      have HC := HT k hlt
      have hsk := HSet'.out k hlt
      obtain ⟨p, hp⟩ : ∃ p, f k = p := ⟨_, rfl⟩
      rw [hp] at hfk hy HC hsk
      rw [hgx] at hsk
      have hck : wr.cell? ⟨gc, p, none⟩ = some (.int .u64 (y : Int)) := (World.ownsRow.cellAt HO.out p (by omega)).trans (ucells_get hy)
      have hfz : wr.frozen? ⟨gc, p, none⟩ = false := World.ownsRow.frozenAt HO.out p
      obtain ⟨hO3, hG3⟩ := World.ownsRow.stored HO.out p (.int .u64 (x : Int))
      have HO3 : Hid ((wr.setCell ⟨gc, p, none⟩ (.int .u64 (x : Int))).ownsRow w.heap.size 22 1 (.slice (some ⟨gc, 0, none⟩) n n) n (ucells (og' (k + 1)))) := by
        unfold Hid
        rw [← hsk, ucells_set]; exact hO3
      have HB3 : Hid (Below w.heap.size w (wr.setCell ⟨gc, p, none⟩ (.int .u64 (x : Int)))) := hB.setCell (p := ⟨gc, p, none⟩) (by rw [HGC.out]; exact Nat.le_refl _) _
      clear hO3 hG3 HO hy hx c0 hgx hsk hp HT HTn
      go_wp2_with (go_at_call 105; with_reducible refine AnsQ.use HC hwB ?_)
      go_roundw
      case rel => exact ⟨k + 1, by go_num, by omega, HO3, HB3.out⟩
      case measure => simp [intOf]; omega
    · obtain rfl : k = n := by omega
      have HO4 : Hid (OwnU wr w.heap.size (some ⟨gc, 0, none⟩) k (ord rs xs)) := by
        unfold Hid OwnU; rw [HF.out, HOl.out]; exact HO.out
      have hz := HO4.out
      clear HO HO4 HTn HT
      go_wp2
      go_ret2
      exact ⟨_, _, rfl, hz, hB⟩
end Go.Proofs.YtpjfapibjihbbaaGreatDoor
/-
  Rows of ints of one's own. No condition.
-/
namespace Go.Proofs.YtpjfapibjihbbaaGreatDoor
set_option linter.unusedVariables false
open Go.RowKit

theorem infoZ : (Tryz.prog.info? 3).map (fun i => (i.zero, i.size, i.bytes)) = some (some (.int .i64 0), 1, 8) := by kernel_rfl
def zcells (zs : List Int) : List Value := zs.map fun z => .int .i64 z
theorem zcells_at {zs : List Int} {j : Nat} {u : Value} (h : (zcells zs)[j]? = some u) : ∃ z, zs[j]? = some z ∧ u = .int .i64 z := by
  unfold zcells at h
  rw [List.getElem?_map] at h
  cases hz : zs[j]? with
  | none => rw [hz] at h; cases h
  | some z => rw [hz] at h; cases h; exact ⟨z, rfl, rfl⟩
theorem zcells_snoc (zs : List Int) (z : Int) : zcells (zs ++ [z]) = zcells zs ++ [.int .i64 z] := by simp [zcells]
/-- A row of the call's own read as a row of ints. -/
theorem own_ints {w : World} {base : Nat} {v : Value} {zs : List Int} (h : w.ownsRow base 3 1 v zs.length (zcells zs)) (hok : ∀ z ∈ zs, I64 z) : ∃ A C, v = .slice A zs.length C ∧ ZAt w A C zs := by
  have h' := h
  rcases h.2 with ⟨rfl, hn⟩ | ⟨g, cap, cur, rfl, hb, hg, hc, hm, _⟩
  · refine ⟨none, 0, by rw [hn], by omega, by unfold maxLen; omega, fun i f hf => ?_⟩
    have := (List.getElem?_eq_some_iff.1 hf).1; omega
  · refine ⟨_, _, rfl, hc, hm, fun i z hz => ?_⟩
    have ca := h'.cells (g := g) rfl i (.int .i64 z) (by unfold zcells; rw [List.getElem?_map, hz]; rfl)
    refine ⟨g, 0, rfl, (Array.getElem?_eq_some_iff.1 hg).1, ?_, hok z (List.mem_of_getElem? hz)⟩
    rw [Nat.zero_add]; rw [Addr.add_lit] at ca; simpa using ca
/-- A call that answers a new row of ints. -/
def NewRow (W : World) (f : FuncId) (args : Array Value) (l : List Int) : Prop := ∀ w, Below W.heap.size W w → Calls Tryz.prog f args w fun e w' => ∃ A1 C1, e = .returned (.slice A1 l.length C1) ∧ ZAt w' A1 C1 l ∧ Below w.heap.size w w'
theorem NewRow.use {W : World} {f : FuncId} {args : Array Value} {l : List Int} (h : NewRow W f args l) {w : World} (hw : Below W.heap.size W w) {R : Ending → World → Prop} (k : ∀ A1 C1 w', ZAt w' A1 C1 l → Below w.heap.size w w' → R (.returned (.slice A1 l.length C1)) w') : Calls Tryz.prog f args w R :=
  (h w hw).mono fun _ _ ⟨A', C', he, h1, h2⟩ => by subst he; exact k _ _ _ h1 h2
theorem i64_small {x : Nat} (h : x ≤ 16777216) : I64 (x : Int) := by unfold I64; omega
end Go.Proofs.YtpjfapibjihbbaaGreatDoor
/-
  The contract of slices.Backward at ints: it goes over a row's numbers, from the last to the first. No condition but that the row lies there.
-/
namespace Go.Proofs.YtpjfapibjihbbaaGreatDoor
set_option linter.unusedVariables false
open Go.RowKit Go.Shelf
attribute [local go_sem] Oper.semAt_some

/-- An axis below L, and its length. -/
abbrev Ax (L : Nat) := { x : Nat × Nat // x.1 < L ∧ 1 ≤ x.2 }
def axs {L : Nat} (l : List (Ax L)) : List (Nat × Nat) := l.map (·.1)
theorem axs_snoc {L : Nat} (l : List (Ax L)) (x : Ax L) : axs (l ++ [x]) = axs l ++ [x.1] := by simp [axs]
theorem axs_len {L : Nat} (l : List (Ax L)) : (axs l).length = l.length := by simp [axs]
abbrev encA {L : Nat} (x : Ax L) : Array Value := #[.int .i64 (x.1.1 : Int), .int .i64 (x.1.2 : Int)]
/-- The axes, from the last on. -/
def bk (ds : List Nat) : List (Nat × Nat) := (ds.zipIdx.map fun x => (x.2, x.1)).reverse
theorem bk_len (ds : List Nat) : (bk ds).length = ds.length := by simp [bk]
theorem bk_get (ds : List Nat) {m d : Nat} (h : ds[m]? = some d) : (bk ds)[ds.length - 1 - m]? = some (m, d) := by
  have hm := (List.getElem?_eq_some_iff.1 h).1
  unfold bk
  rw [List.getElem?_reverse (by simp; omega)]
  simp only [List.length_map, List.length_zipIdx]
  rw [show ds.length - 1 - (ds.length - 1 - m) = m by omega]
  simp [h]
theorem take_snoc {α : Type} {l : List α} {k : Nat} {x : α} (h : l[k]? = some x) : l.take (k + 1) = l.take k ++ [x] := by
  rw [List.take_add_one, h]; rfl

/-- What a round keeps: all that lies below, and the iterator's own cell. -/
def KB (n B : Nat) (W W' : World) : Prop := Below n W W' ∧ W'.cell? ⟨B, 0, none⟩ = W.cell? ⟨B, 0, none⟩
theorem KB.refl (n B : Nat) (W : World) : KB n B W W := ⟨Below.refl _ _, rfl⟩
theorem KB.trans {n B : Nat} {X Y Z : World} (h : KB n B X Y) (k : KB n B Y Z) : KB n B X Z := ⟨h.1.trans k.1, k.2.trans h.2⟩
theorem KB.put {n B : Nat} {w : World} (hn : n ≤ w.heap.size) (hB : B < w.heap.size) (W : World) (l : Nat) (o o' : Obj) (hl : w.heap.size ≤ l) (h : W.heap[l]? = some o) (h1 : o.isCells = false) (h2 : o.isWalk = false) : KB n B W (W.putObj l o') :=
  ⟨belowK_b hn W l o o' hl h h1 h2, (belowK_b (n₀ := B + 1) (by omega) W l o o' hl h h1 h2).cell (p := ⟨B, 0, none⟩) (Nat.lt_succ_self B)⟩

set_option maxRecDepth 100000 in
set_option maxHeartbeats 2000000 in
theorem back1_in (n : Nat) (hn : 1 ≤ n) (l B n₁ : Nat) (A : Option Addr) (C L : Nat) (ds : List Nat) (hL : ds.length = L) (hlen : (L : Int) ≤ 9223372036854775807) (hpos : ∀ d ∈ ds, 1 ≤ d) (J Jx : List (Ax L) → World → Prop)
    (hY : ∀ pre x W, J pre W → pre.length < L → YieldAt Fence.wide (n - 1) Tryz.prog l (encA x) W fun e W' =>
      (e = .returned (.bool true) ∧ J (pre ++ [x]) W' ∧ KB n₁ B W W') ∨ (e = .returned (.bool false) ∧ Jx (pre ++ [x]) W'))
    (W : World) (hB : W.cell? ⟨B, 0, none⟩ = some (.slice A L C)) (hc : ∀ (j d : Nat), ds[j]? = some d → ∃ b o, A = some ⟨b, o, none⟩ ∧ b < n₁ ∧ W.cell? ⟨b, o + j, none⟩ = some (.int .i64 (d : Int))) (h0 : J [] W) :
    CallsIn Fence.wide n Tryz.prog 135 #[.func (.yield l) #[] #[], .pointer (some ⟨B, 0, none⟩)] W fun e W' => (∃ v, e = .returned v) ∧
      ((∃ ys : List (Ax L), axs ys = bk ds ∧ J ys W') ∨ (∃ pre : List (Ax L), True ∧ Jx pre W')) := by
  refine callsIn_of_wp Tryz.func135 rfl trivial ?_ rfl
  simp only [Tryz.ntmps135, List.size_toArray, List.length_cons, List.length_nil, Nat.reduceAdd, Nat.reduceSub, Array.replicate_succ, Array.replicate_zero, List.push_toArray, List.append_toArray, List.nil_append, List.cons_append]
  gi_wp2
  gi_loopw [3] (fun i wr => ∃ (m : Nat) (pre : List (Ax L)), m ≤ L ∧ i = .int .i64 ((m : Int) - 1) ∧ axs pre = (bk ds).take (L - m) ∧ J pre wr ∧ KB n₁ B W wr)
    (fun i _ => (intOf i + 1).toNat)
  case atStart => exact ⟨L, [], Nat.le_refl _, rfl, by simp [axs], h0, KB.refl _ _ _⟩
  case round =>
    obtain ⟨m, pre, hm, rfl, hp, hJs, hK⟩ := hrel
    have hBx := hK.2.trans hB
    cases m with
    | zero =>
      have hneg : ¬ (0 : Int) ≤ ((0 : Nat) : Int) - 1 := by omega
      have HS : Hid (axs pre = bk ds) := by
        unfold Hid; rw [hp, Nat.sub_zero, ← hL, ← bk_len, List.take_length]
      clear hp
      gi_wp2
      go_end0
      exact ⟨⟨_, rfl⟩, .inl ⟨pre, HS.out, hJs⟩⟩
    | succ m =>
      obtain ⟨d, hd⟩ : ∃ d, ds[m]? = some d := ⟨_, List.getElem?_eq_getElem (by omega)⟩
      obtain ⟨b, o, rfl, hb, c0⟩ := hc m d hd
      have c0' := (hK.1.cell (p := ⟨b, o + m, none⟩) hb).trans c0
      have hx1 : 1 ≤ d := hpos d (List.mem_of_getElem? hd)
      have hl : pre.length = L - (m + 1) := by rw [← axs_len, hp, List.length_take, bk_len]; omega
      have hg := bk_get ds hd
      rw [hL, show L - 1 - m = L - (m + 1) by omega] at hg
      have HS : Hid (axs pre ++ [(m, d)] = (bk ds).take (L - m)) := by
        unfold Hid; rw [hp, ← take_snoc hg, show L - (m + 1) + 1 = L - m by omega]
      obtain ⟨fn, tmps, assign, body, hy, hR⟩ := hY pre ⟨(m, d), by omega, hx1⟩ wr hJs (by omega)
      dsimp only [encA] at hy
      have hm1 : ((m + 1 : Nat) : Int) - 1 = (m : Int) := by omega
      have hml : (m : Int) < (L : Int) := by omega
      rw [hm1]
      clear c0 hd hp hg hm1
      gi_wp2
      refine hR.mono ?_
      rintro e W3 (⟨rfl, hJ3, hk3⟩ | ⟨rfl, hJx3⟩)
      · gi_wp2
        go_roundw
        case rel => exact ⟨m, _, by omega, by first | rfl | go_num, by rw [axs_snoc]; exact HS.out, hJ3, hK.trans hk3⟩
        case measure => simp [intOf]
      · gi_wp2
        refine bodyPost_ret (results_none rfl _ _ _) rfl ?_
        exact ⟨⟨_, rfl⟩, .inr ⟨_, trivial, hJx3⟩⟩

theorem back_stops (n : Nat) (hn : 1 ≤ n) (B n₁ : Nat) (A : Option Addr) (C L : Nat) (ds : List Nat) (hL : ds.length = L) (hpos : ∀ d ∈ ds, 1 ≤ d) (w : World) (hB : B < w.heap.size) (hn₁ : n₁ ≤ w.heap.size) (hc : w.cell? ⟨B, 0, none⟩ = some (.slice A L C)) (W0 : World) (hW0 : W0.heap.size ≤ n₁) (hZ : ZAt W0 A C (ints ds)) (hb0 : Below W0.heap.size W0 w) :
    SeqStopsK Fence.wide n Tryz.prog 135 #[.pointer (some ⟨B, 0, none⟩)] (encA (L := L)) (KB n₁ B) (fun ys => axs ys = bk ds) (fun _ => True) L w := fun l J Jx W hW _ _ hY h0 => by
  refine back1_in n hn l B n₁ A C L ds hL (by have := hZ.len; rw [ints_len, hL] at this; exact this) hpos J Jx hY W ((hW.cell (p := ⟨B, 0, none⟩) hB).trans hc) ?_ h0
  intro j d hd
  obtain ⟨b, o, hA, hb, c0⟩ := (hZ.below (hb0.trans (hW.mono hb0.size))).nat hd
  obtain ⟨b', o', hA', hb', _⟩ := hZ.nat hd
  rw [hA] at hA'
  cases hA'
  exact ⟨b, o, hA, by omega, c0⟩

/-- slices.Backward. -/
theorem back_in (n : Nat) (a : Option Addr) (len cap : Nat) (w : World) :
    CallsIn Fence.wide n Tryz.prog 106 #[.slice a len cap] w fun e w' => e = .returned (.func (.func 135) #[] #[.pointer (some ⟨w.heap.size, 0, none⟩)]) ∧ w' = w.alloc (.cells #[.slice a len cap] 39) := by
  refine callsIn_of_wp Tryz.func106 rfl trivial ?_ rfl
  simp only [Tryz.ntmps106, List.size_toArray, List.length_cons, List.length_nil, Nat.reduceAdd, Nat.reduceSub, Array.replicate_succ, Array.replicate_zero, List.push_toArray, List.append_toArray, List.nil_append, List.cons_append]
  gi_wp2
  go_ret
  exact ⟨rfl, rfl⟩
end Go.Proofs.YtpjfapibjihbbaaGreatDoor
/-
  Blocks of memory, held whole. No condition.
-/
namespace Go.Proofs.YtpjfapibjihbbaaGreatDoor
set_option linter.unusedVariables false
open Go.RowKit Go.Shelf
attribute [local go_sem] Oper.semAt_some

/-- Block B: these cells. -/
def Blk (W : World) (B : Nat) (t : TypeId) (cs : Array Value) : Prop := W.heap[B]? = some (.cells cs t (0, 0))
theorem Blk.lt {W : World} {B : Nat} {t : TypeId} {cs : Array Value} (h : Blk W B t cs) : B < W.heap.size := (Array.getElem?_eq_some_iff.1 h).1
theorem Blk.cell {W : World} {B : Nat} {t : TypeId} {cs : Array Value} (h : Blk W B t cs) (k : Nat) : W.cell? ⟨B, k, none⟩ = cs[k]? := by simp [World.cell?, show W.heap[B]? = _ from h]
theorem Blk.frozen {W : World} {B : Nat} {t : TypeId} {cs : Array Value} (h : Blk W B t cs) (k : Nat) : W.frozen? ⟨B, k, none⟩ = false := by simp [World.frozen?, show W.heap[B]? = _ from h]
theorem Blk.new (W : World) (t : TypeId) (cs : Array Value) : Blk (W.alloc (.cells cs t)) W.heap.size t cs := World.alloc_heap_new W _
theorem Blk.kept {W W' : World} {row : Option Nat} {B : Nat} {t : TypeId} {cs : Array Value} (h : Blk W B t cs) (hg : W.grownBy W' row) (hne : some B ≠ row) : Blk W' B t cs := (hg.block B h.lt hne).trans h
theorem Blk.alloc {W : World} {B : Nat} {t : TypeId} {cs : Array Value} (h : Blk W B t cs) (o : Obj) : Blk (W.alloc o) B t cs := h.kept (World.grownBy_alloc W o none) (by simp)
theorem Blk.below {W W' : World} {B : Nat} {t : TypeId} {cs : Array Value} (h : Blk W B t cs) (hb : Below W.heap.size W W') : Blk W' B t cs := (hb.block B h.lt).trans h
theorem Blk.set {W : World} {B : Nat} {t : TypeId} {cs : Array Value} (h : Blk W B t cs) (k : Nat) (v : Value) : Blk (W.setCell ⟨B, k, none⟩ v) B t (cs.setIfInBounds k v) := by
  obtain ⟨hlt, hk⟩ := Array.getElem?_eq_some_iff.1 h
  show (W.heap.modify B _)[B]? = _
  rw [Array.getElem?_eq_getElem (by rw [Array.size_modify]; exact hlt), Array.getElem_modify_self, hk]
  rfl
theorem Blk.other {W : World} {B : Nat} {t : TypeId} {cs : Array Value} (h : Blk W B t cs) {B' : Nat} (hne : B ≠ B') (k : Nat) (v : Value) : Blk (W.setCell ⟨B', k, none⟩ v) B t cs :=
  (Below.heap_setCell _ _ _ B hne).trans h
theorem blk_own {β : Type} (B : Nat) (t : TypeId) (f : β → Array Value) : Own (fun s W => Blk W B t (f s)) := by
  intro s X Y row h hg hrow
  refine h.kept hg fun e' => ?_
  obtain ⟨o, ho, hc⟩ := hrow B e'.symm
  rw [show X.heap[B]? = _ from h] at ho; cases ho; cases hc

theorem below_drewZ (w : World) : Below w.heap.size w w.drew := ⟨rfl, rfl, rfl, Nat.le_refl _, fun _ _ => rfl⟩
end Go.Proofs.YtpjfapibjihbbaaGreatDoor

/-
  The statement MixedRadices: true, of all numbers. No condition but that the program's four factors lie there.
-/
import Derived.Test.YtkemlbjcfbnfiaaGreatDoorMoM
namespace Go.Proofs.YtkemlbjcfbnfiaaGreatDoor
set_option linter.unusedVariables false
open Go.RowKit

set_option maxRecDepth 100000 in
set_option maxHeartbeats 4000000 in
theorem rads_none (W : World) (hG : FacG W) (n : Int) (H1 : RadN W 13 n) (H2 : RadN W 14 n) : AnsB W 4 #[.int .i64 n] (.bool true) := by
  intro w hw
  have H1' : AnsB W 13 #[.int .i64 n] (.tuple #[.slice none 0 0, .bool false]) := H1
  have H2' : AnsB W 14 #[.int .i64 n] (.tuple #[.slice none 0 0, .bool false]) := H2
  go_enter Tryz.func4, Tryz.ntmps4
  go_wp2_with (first
    | (go_at_call 7; with_reducible refine AnsB.use (alive14 _ hG) hw fun w1 hb1 => ?_; have hw1 := bb hw hb1)
    | (go_at_call 13; with_reducible refine AnsB.use H1' hw1 fun w2 hb2 => ?_; have hw2 := bb hw1 hb2)
    | (go_at_call 14; with_reducible refine AnsB.use H2' hw2 fun w3 hb3 => ?_))
  go_loopw [7, 34] (fun mv v wr => mv = .int .i64 1 ∧ v = .int .i64 0 ∧ wr = w3) (fun _ v _ => 0)
  case atStart => exact ⟨rfl, rfl, rfl⟩
  case round =>
    obtain ⟨rfl, rfl, rfl⟩ := hrel
    go_wp2
    go_ret
    exact ⟨rfl, bb hb1 (bb hb2 hb3)⟩
set_option maxRecDepth 100000 in
set_option maxHeartbeats 4000000 in
theorem rads_some (W : World) (hG : FacG W) (N : Nat) (l : List Nat) (hN : N ≤ 1024) (hl : IsRad N l) (H1 : RadY W 13 (N : Int) l) (H2 : RadY W 14 (N : Int) l) : AnsB W 4 #[.int .i64 (N : Int)] (.bool true) := by
  intro w hw
  obtain ⟨L, hL⟩ : ∃ L, l.length = L := ⟨_, rfl⟩
  have HL : Hid (l.length = L) := hL
  have HP : Hid (pr l = N ∧ (∀ r ∈ l, 1 ≤ r) ∧ N ≤ 1024 ∧ L ≤ 10) := ⟨hl.prod, fun r hr => by have := (hl.mem r hr).two; omega, hN, by have := hl.ten hN; omega⟩
  have hLL : ((L : Int) != (L : Int)) = false := by simp
  have hlen : (L : Int) ≤ 9223372036854775807 := by have := HP.out.2.2.2; omega
  have hNN : ((N : Int) == (N : Int)) = true := by simp
  clear hl hN hL
  go_enter Tryz.func4, Tryz.ntmps4
  go_wp2_with (first
    | (go_at_call 7; with_reducible refine AnsB.use (alive14 _ hG) hw fun w1 hb1 => ?_; have hw1 := bb hw hb1)
    | (go_at_call 13; with_reducible refine RadY.useL H1 HL.out hw1 fun A2 C2 w2 hZ2 hb2 => ?_; have hw2 := bb hw1 hb2)
    | (go_at_call 14; with_reducible refine RadY.useL H2 HL.out hw2 fun A3 C3 w3 hZ3 hb3 => ?_))
  have HA : Hid (ZAt w3 A2 C2 (ints l)) := hZ2.below hb3
  have HB : Hid (ZAt w3 A3 C3 (ints l)) := hZ3
  have HW3 : Hid (Below w.heap.size w w3) := bb hb1 (bb hb2 hb3)
  clear hZ2 hZ3 hb1 hb2 hb3 hw1 hw2 H1 H2 hw
  go_loopw [7, 34] (fun mv v wr => ∃ k m : Nat, mv = .int .i64 (m : Int) ∧ v = .int .i64 (k : Int) ∧ k ≤ L ∧ Hid (pr (l.take k) = m) ∧ Hid (Below w3.heap.size w3 wr)) (fun _ v _ => L - (intOf v).toNat)
  case atStart => exact ⟨0, 1, rfl, rfl, by omega, rfl, Below.refl _ _⟩
  case round =>
    obtain ⟨k, m, rfl, rfl, hk, HM, HBr⟩ := hrel
    by_cases hlt : k < L
    · obtain ⟨d, hd⟩ : ∃ d, l[k]? = some d := ⟨_, List.getElem?_eq_getElem (by rw [HL.out]; exact hlt)⟩
      obtain ⟨b2, o2, rfl, hb2, c2⟩ := HA.out.nat hd
      obtain ⟨b3, o3, rfl, hb3, c3⟩ := HB.out.nat hd
      have c2' := ((bcell HBr.out).1 _ _ hb2).trans c2
      have c3' := ((bcell HBr.out).1 _ _ hb3).trans c3
      have hpn := pr_next hd
      rw [HM.out] at hpn
      obtain ⟨m2, hm2⟩ : ∃ m2, m * d = m2 := ⟨_, rfl⟩
      rw [hm2] at hpn
      have HM2 : Hid (pr (l.take (k + 1)) = m2) := hpn.symm
      have hm16 : m2 ≤ 16777216 := by
        have := pr_le HP.out.2.1 (k + 1)
        rw [HM2.out, HP.out.1] at this
        have := HP.out.2.2.1
        omega
      obtain ⟨w1', w2'⟩ := mulI' hm2 hm16
      have dd : ((d : Int) != (d : Int)) = false := by simp
      have q1 : (k : Int) < (L : Int) := by omega
      clear hd c2 c3 hpn hm2 hm16 hb2 hb3
      go_wp2
      go_roundw
      case rel => exact ⟨k + 1, m2, rfl, by go_num, by omega, HM2, HBr⟩
      case measure => simp [intOf]; omega
    · obtain rfl : k = L := by omega
      obtain rfl : m = N := by
        have := HM.out
        rw [← HL.out, List.take_length, HP.out.1] at this
        omega
      go_wp2
      go_ret
      exact ⟨rfl, bb HW3.out HBr.out⟩
theorem rads_any (W : World) (hG : FacG W) (n : Int) (hn : n < 9223372036854775808) : AnsB W 4 #[.int .i64 n] (.bool true) := by
  cases h : radV n with
  | none => exact rads_none W hG n (rad_no hG h) (drad_no W h)
  | some l =>
    obtain ⟨N, rfl, h1, hN, hr⟩ := radV_is h
    exact rads_some W hG N l hN hr (rad_yes hG h) (drad_yes W h)
end Go.Proofs.YtkemlbjcfbnfiaaGreatDoor

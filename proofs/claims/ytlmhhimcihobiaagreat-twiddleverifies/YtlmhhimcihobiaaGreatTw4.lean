/-
  What twiddle's goesRound, hasOrder and Verify answer. No condition but that the field and the table lie there.
-/
import Derived.Test.YtlmhhimcihobiaaGreatTw1
import Derived.Test.YtlmhhimcihobiaaGreatF11
namespace Go.Proofs.YtlmhhimcihobiaaGreat
set_option linter.unusedVariables false
open Go.RowKit

theorem goes_first (W : World) (v : Value) (hv : ∃ a, v = .pointer a) (A : Option Addr) (C n : Nat) (b o : Nat) (x0 : Nat) (hn : 1 ≤ n) (hA : A = some ⟨b, o, none⟩) (c0 : W.cell? ⟨b, o + 0, none⟩ = some (.int .u64 (x0 : Int))) (h : x0 ≠ 1) : AnsW W 33 #[v, .slice A n C] (.bool false) := by
  obtain ⟨a, rfl⟩ := hv
  subst hA
  intro j
  have e1 : ((x0 : Int) != 1) = true := by simp; omega
  have e2 : ¬ (x0 : Int) = 1 := by omega
  have hz : (0 : Int) < (n : Int) := by omega
  rw [Nat.add_zero] at c0
  go_enter Tryz.func33, Tryz.ntmps33
  go_wp2
  go_ret
  exact ⟨rfl, 0, rfl⟩
set_option maxHeartbeats 2000000 in
theorem goes_walk (W : World) (fb : Nat) (p : Nat) (A : Option Addr) (C : Nat) (t : List Nat) (hU : UAt W A C t) (hn : 1 ≤ t.length) (hm : t.length ≤ 4096) (l : Nat)
    (HL : AnsW W 14 #[pt fb, .int .u64 ((t.getD (1 % t.length) 0 : Nat) : Int)] (.int .u64 (l : Int)))
    (HT : ∀ c : Nat, c < 18446744073709551616 → AnsW W 36 #[pt fb, .int .u64 (l : Int), .int .u64 (c : Int)] (.int .u64 ((t.getD (1 % t.length) 0 * c % p : Nat) : Int)))
    (R : Bool) (hR : R = true ↔ Goes p t) (h0 : t.getD 0 0 = 1) : AnsW W 33 #[pt fb, .slice A t.length C] (.bool R) := by
  intro j0
  have HG : Hid (R = true ↔ ∀ i, i < t.length → t.getD ((i + 1) % t.length) 0 = t.getD (1 % t.length) 0 * t.getD i 0 % p) := by
    unfold Hid; rw [hR]; unfold Goes; exact ⟨fun h => h.2, fun h => ⟨h0, h⟩⟩
  have HT' : Hid (∀ c : Nat, c < 18446744073709551616 → AnsW W 36 #[pt fb, .int .u64 (l : Int), .int .u64 (c : Int)] (.int .u64 ((t.getD (1 % t.length) 0 * c % p : Nat) : Int))) := HT
  obtain ⟨m1, hm1⟩ : ∃ m1, 1 % t.length = m1 := ⟨_, rfl⟩
  have hm1l : m1 < t.length := hm1 ▸ Nat.mod_lt _ (by omega)
  obtain ⟨w1, hw1⟩ : ∃ w1, t.getD m1 0 = w1 := ⟨_, rfl⟩
  obtain ⟨b, o, rfl⟩ := hU.addr hn
  obtain ⟨c1, hw1l, hb⟩ := hU.at (i := m1) (x := w1) (by rw [get_of hm1l, hw1])
  obtain ⟨c0, _⟩ := hU.at (i := 0) (x := 1) (by rw [get_of (by omega), h0])
  rw [hm1] at HG HL HT'
  rw [hw1] at HG HL HT'
  obtain ⟨n, en⟩ : ∃ n, t.length = n := ⟨_, rfl⟩
  have HEN : Hid (t.length = n) := en
  have HU : Hid (UAt W (some ⟨b, o, none⟩) C t) := hU
  rw [en] at hm1 hn hm hm1l HG ⊢
  have hn0 : ¬ (n : Int) = 0 := by omega
  have hz : (0 : Int) < (n : Int) := by omega
  have hlen : (n : Int) ≤ 9223372036854775807 := by omega
  have hm1i : (m1 : Int) < (n : Int) := by omega
  have w1r : wrap64 (m1 : Int) = (m1 : Int) := wrL hm1l hm
  have hq : Int.tmod 1 (n : Int) = (m1 : Int) := by
    rw [← hm1]; rfl
  rw [Nat.add_zero] at c0
  have HM : Hid (1 ≤ n ∧ n ≤ 4096) := ⟨hn, hm⟩
  clear hR h0 hw1 hw1l hm1 hm HT en hU hb hn
  go_enter Tryz.func33, Tryz.ntmps33
  go_wp2_with (go_at_call 14; with_reducible refine AnsW.use HL _ fun n1 => ?_)
  go_loopw [24] (fun v wr => ∃ k j : Nat, v = .int .i64 (k : Int) ∧ k ≤ n ∧ Hid (∀ i, i < k → t.getD ((i + 1) % n) 0 = w1 * t.getD i 0 % p) ∧ wr = W.drewN (j0 + j)) (fun v _ => n - (intOf v).toNat)
  case atStart => exact ⟨0, n1, rfl, by omega, fun i hi => absurd hi (by omega), rfl⟩
  case round =>
    obtain ⟨k, j, rfl, hk, HI, rfl⟩ := hrel
    clear c0 c1 hq hm1i w1r hm1l
    by_cases hlt : k < n
    · obtain ⟨x, hx⟩ : ∃ x, t[k]? = some x := ⟨_, List.getElem?_eq_getElem (by rw [HEN.out]; exact hlt)⟩
      obtain ⟨m, hm⟩ : ∃ m, (k + 1) % n = m := ⟨_, rfl⟩
      have hml : m < n := hm ▸ Nat.mod_lt _ (by omega)
      obtain ⟨y, hy⟩ : ∃ y, t[m]? = some y := ⟨_, List.getElem?_eq_getElem (by rw [HEN.out]; exact hml)⟩
      obtain ⟨ck, hxl, _⟩ := HU.out.at hx
      obtain ⟨cm, hyl, _⟩ := HU.out.at hy
      have HTk := HT'.out x hxl
      obtain ⟨v, hv⟩ : ∃ v, w1 * x % p = v := ⟨_, rfl⟩
      rw [hv] at HTk
      have gx := getD_of hx
      have gy := getD_of hy
      have r1 : wrap64 ((k : Int) + 1) = (k : Int) + 1 := wrL1 hlt HM.out.2
      have r2 : Int.tmod ((k : Int) + 1) (n : Int) = (m : Int) := by rw [modI1, hm]
      have r3 : wrap64 (m : Int) = (m : Int) := wrL hml HM.out.2
      have r4 : (m : Int) < (n : Int) := ltI hml
      have r5 : (k : Int) < (n : Int) := ltI hlt
      by_cases he : y = v
      · have HI' : Hid (∀ i, i < k + 1 → t.getD ((i + 1) % n) 0 = w1 * t.getD i 0 % p) := by
          unfold Hid
          intro i hi
          by_cases e : i = k
          · rw [e, hm, gy, gx, hv, he]
          · exact HI.out i (Nat.lt_of_le_of_ne (Nat.le_of_lt_succ hi) e)
        obtain ⟨t1, t2⟩ := eqB he
        clear hm hv he gx gy hx hy hxl hyl HI
        go_wp2
        go_quiet ((go_at_call 36; first | (with_reducible exact AnsW.quiet HTk) | (with_reducible exact AnsW.quiet0 HTk)))
        go_wp2
        go_roundw
        case rel => exact ⟨k + 1, j + nq, by go_num, by omega, HI', by rw [Nat.add_assoc]⟩
        case measure => simp [intOf]; omega
      · have HF : Hid (R = false) := by
          unfold Hid
          rw [Bool.eq_false_iff]
          intro h
          have := HG.out.1 h k hlt
          rw [hm, gy, gx, hv] at this
          exact he this
        obtain ⟨t1, t2⟩ := neB he
        clear hm hv he gx gy hx hy hxl hyl HI
        go_wp2
        go_quiet ((go_at_call 36; first | (with_reducible exact AnsW.quiet HTk) | (with_reducible exact AnsW.quiet0 HTk)))
        go_wp2
        go_ret
        exact ⟨ret_b HF.out.symm, j + nq, by rw [World.drewN_drewN, Nat.add_assoc]⟩
    · obtain rfl : k = n := by omega
      have HF : Hid (R = true) := HG.out.2 HI.out
      clear HI
      go_wp2
      go_ret
      exact ⟨ret_b HF.out.symm, j, rfl⟩
end Go.Proofs.YtlmhhimcihobiaaGreat

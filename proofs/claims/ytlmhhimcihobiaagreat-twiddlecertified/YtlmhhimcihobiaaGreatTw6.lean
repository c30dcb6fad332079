/-
  What the document's Right (layer 10) answers. No condition but that the table lies there.
-/
import Derived.Test.YtlmhhimcihobiaaGreatTw1
namespace Go.Proofs.YtlmhhimcihobiaaGreat
set_option linter.unusedVariables false
open Go.RowKit

theorem dRight_empty (W : World) (p : Int) (A : Option Addr) (C : Nat) : AnsW W 16 #[.int .u64 p, .slice A 0 C] (.bool false) := by
  intro n
  go_enter Tryz.func16, Tryz.ntmps16
  go_wp2
  go_ret
  exact ⟨rfl, 0, rfl⟩
theorem dRight_first (W : World) (p : Int) (b o C n x0 : Nat) (hn : 1 ≤ n) (hm : (n : Int) ≤ 4096) (c0 : W.cell? ⟨b, o, none⟩ = some (.int .u64 (x0 : Int))) (e1 : ((x0 : Int) != 1) = true) (e2 : ¬ (x0 : Int) = 1) : AnsW W 16 #[.int .u64 p, .slice (some ⟨b, o, none⟩) n C] (.bool false) := by
  intro j
  have hz : (0 : Int) < (n : Int) := by omega
  go_enter Tryz.func16, Tryz.ntmps16
  go_wp2
  go_ret
  exact ⟨rfl, 0, rfl⟩
set_option maxHeartbeats 2000000 in
theorem dRight_walk (W : World) (p : Nat) (h2 : 2 ≤ p) (hp : p < 18446744073709551616) (A : Option Addr) (C : Nat) (t : List Nat) (hU : UAt W A C t) (hn : 1 ≤ t.length) (hm : t.length ≤ 4096) (h0 : t.getD 0 0 = 1) (R : Bool) (hR : R = true ↔ DocR p t) : AnsW W 16 #[.int .u64 (p : Int), .slice A t.length C] (.bool R) := by
  intro j0
  have HP1 : Hid (1 % p = 1) := Nat.mod_eq_of_lt (by omega)
  obtain ⟨m1, hm1⟩ : ∃ m1, 1 % t.length = m1 := ⟨_, rfl⟩
  have hm1l : m1 < t.length := hm1 ▸ Nat.mod_lt _ (by omega)
  obtain ⟨w1, hw1⟩ : ∃ w1, t.getD m1 0 = w1 := ⟨_, rfl⟩
  obtain ⟨b, o, rfl⟩ := hU.addr hn
  obtain ⟨c1, hw1l, hb⟩ := hU.at (i := m1) (x := w1) (by rw [get_of hm1l, hw1])
  obtain ⟨c0, _⟩ := hU.at (i := 0) (x := 1) (by rw [get_of (by omega), h0])
  have HG : Hid (R = true ↔ (∀ i, i < t.length → t.getD i 0 = w1 ^ i % p ∧ (0 < i → w1 ^ i % p ≠ 1)) ∧ w1 ^ t.length % p = 1) := by
    unfold Hid; rw [hR]; unfold DocR; rw [hm1, hw1]; exact ⟨fun h => h.2, fun h => ⟨h0, h⟩⟩
  obtain ⟨n, en⟩ : ∃ n, t.length = n := ⟨_, rfl⟩
  have HEN : Hid (t.length = n) := en
  have HU : Hid (UAt W (some ⟨b, o, none⟩) C t) := hU
  rw [en] at hm1 hn hm hm1l HG ⊢
  have hn0 : ¬ (n : Int) = 0 := by omega
  have hz : (0 : Int) < (n : Int) := by omega
  have hlen : (n : Int) ≤ 4096 := by omega
  have hm1i : (m1 : Int) < (n : Int) := by omega
  have w1r : wrap64 (m1 : Int) = (m1 : Int) := wrL hm1l hm
  have hq : Int.tmod 1 (n : Int) = (m1 : Int) := by
    rw [← hm1]; rfl
  rw [Nat.add_zero] at c0
  have HM : Hid (1 ≤ n ∧ n ≤ 4096) := ⟨hn, hm⟩
  have H1p : 1 < p := by omega
  clear hR h0 hw1 hm1 hm en hU hb hn
  go_enter Tryz.func16, Tryz.ntmps16
  go_wp2
  go_loopw [6, 8] (fun x v wr => ∃ c k j : Nat, x = .int .u64 (c : Int) ∧ v = .int .i64 (k : Int) ∧ k ≤ n ∧ c < p ∧ Hid (c = w1 ^ k % p) ∧ Hid (∀ i, i < k → t.getD i 0 = w1 ^ i % p ∧ (0 < i → w1 ^ i % p ≠ 1)) ∧ wr = W.drewN (j0 + j)) (fun _ v _ => n - (intOf v).toNat)
  case atStart => exact ⟨1, 0, 0, rfl, rfl, by omega, H1p, by unfold Hid; rw [Nat.pow_zero, HP1.out], fun i hi => absurd hi (by omega), rfl⟩
  case round =>
    obtain ⟨c, k, j, rfl, rfl, hk, hc, HC, HI, rfl⟩ := hrel
    clear c0 c1 hq hm1i w1r hm1l
    by_cases hlt : k < n
    · obtain ⟨x, hx⟩ : ∃ x, t[k]? = some x := ⟨_, List.getElem?_eq_getElem (by rw [HEN.out]; exact hlt)⟩
      obtain ⟨ck, hxl, _⟩ := HU.out.at hx
      have gx := getD_of hx
      have r5 : (k : Int) < (n : Int) := ltI hlt
      by_cases he : x = c
      · obtain ⟨t1, t2⟩ := eqB he
        by_cases hk1 : 0 < k ∧ c = 1
        · have HF : Hid (R = false) := by
            unfold Hid
            rw [Bool.eq_false_iff]
            intro h
            have := ((HG.out.1 h).1 k hlt).2 hk1.1
            rw [← HC.out] at this
            exact this hk1.2
          have t3 : (0 : Int) < (k : Int) := by omega
          have t4 : ((c : Int) == 1) = true := by rw [hk1.2]; rfl
          have t5 : (c : Int) = 1 := by rw [hk1.2]; rfl
          clear HC HI hk1 gx hx he
          go_wp2
          go_ret
          exact ⟨ret_b HF.out.symm, j, rfl⟩
        · have HI' : Hid (∀ i, i < k + 1 → t.getD i 0 = w1 ^ i % p ∧ (0 < i → w1 ^ i % p ≠ 1)) := by
            unfold Hid
            intro i hi
            by_cases e : i = k
            · rw [e, gx, he, ← HC.out]
              exact ⟨rfl, fun h1 h2 => hk1 ⟨h1, h2⟩⟩
            · exact HI.out i (Nat.lt_of_le_of_ne (Nat.le_of_lt_succ hi) e)
          have HQ := rmul_any c w1 p (by omega) hw1l hp (by omega)
          obtain ⟨d, hd⟩ : ∃ d, c * w1 % p = d := ⟨_, rfl⟩
          rw [hd] at HQ
          have hdl : d < p := hd ▸ Nat.mod_lt _ (by omega)
          have HD : Hid (d = w1 ^ (k + 1) % p) := by unfold Hid; rw [← hd, HC.out, pw_next']
          by_cases hk0 : 0 < k
          · have hc1 : c ≠ 1 := fun e => hk1 ⟨hk0, e⟩
            have t3 : (0 : Int) < (k : Int) := by omega
            have t4 : ((c : Int) == 1) = false := by simp; omega
            have t5 : ¬ (c : Int) = 1 := by omega
            clear HC HI hk1 gx hx he hd hc1
            go_wp2_with (go_at_call 30; with_reducible refine Ans.use HQ _ fun n2 => ?_)
            go_roundw
            case rel => exact ⟨d, k + 1, j + n2, rfl, by go_num, by omega, hdl, HD, HI', by rw [Nat.add_assoc]⟩
            case measure => simp [intOf]; omega
          · have t3 : ¬ (0 : Int) < (k : Int) := by omega
            clear HC HI hk1 gx hx he hd
            go_wp2_with (go_at_call 30; with_reducible refine Ans.use HQ _ fun n2 => ?_)
            go_roundw
            case rel => exact ⟨d, k + 1, j + n2, rfl, by go_num, by omega, hdl, HD, HI', by rw [Nat.add_assoc]⟩
            case measure => simp [intOf]; omega
      · obtain ⟨t1, t2⟩ := neB he
        have HF : Hid (R = false) := by
          unfold Hid
          rw [Bool.eq_false_iff]
          intro h
          have := ((HG.out.1 h).1 k hlt).1
          rw [gx, ← HC.out] at this
          exact he this
        clear HC HI gx hx he
        go_wp2
        go_ret
        exact ⟨ret_b HF.out.symm, j, rfl⟩
    · obtain rfl : k = n := by omega
      have HF : Hid (((c : Int) == 1) = R) := by
        unfold Hid
        rw [Bool.eq_iff_iff, HG.out, ← HC.out]
        simp only [beq_iff_eq]
        constructor
        · intro h; exact ⟨HI.out, by omega⟩
        · intro h; have := h.2; omega
      clear HI HC
      go_wp2
      go_ret
      exact ⟨ret_b HF.out, j, rfl⟩
theorem dRight_any (W : World) (p : Nat) (h2 : 2 ≤ p) (hp : p < 18446744073709551616) (A : Option Addr) (C : Nat) (t : List Nat) (hU : UAt W A C t) (hm : t.length ≤ 4096) (R : Bool) (hR : R = true ↔ 1 ≤ t.length ∧ DocR p t) : AnsW W 16 #[.int .u64 (p : Int), .slice A t.length C] (.bool R) := by
  by_cases hn : t.length = 0
  · have : R = false := by rw [Bool.eq_false_iff]; intro h; have := (hR.1 h).1; omega
    rw [hn, this]
    exact dRight_empty W p A C
  · have h1 : 1 ≤ t.length := by omega
    by_cases h0 : t.getD 0 0 = 1
    · exact dRight_walk W p h2 hp A C t hU h1 hm h0 R (by rw [hR]; exact ⟨fun h => h.2, fun h => ⟨h1, h⟩⟩)
    · have : R = false := by rw [Bool.eq_false_iff]; intro h; exact h0 ((hR.1 h).2).1
      rw [this]
      obtain ⟨b, o, rfl⟩ := hU.addr h1
      obtain ⟨c0, _⟩ := hU.at (i := 0) (x := t.getD 0 0) (get_of (by omega))
      rw [Nat.add_zero] at c0
      have e2 : ¬ ((t.getD 0 0 : Nat) : Int) = 1 := by omega
      exact dRight_first W p b o C t.length _ h1 (by omega) c0 (by simp only [bne_iff_ne, ne_eq]; exact e2) e2
end Go.Proofs.YtlmhhimcihobiaaGreat

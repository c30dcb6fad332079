/-
  DigitsBits walked: Bits answers what the document says; of 2, so often, as radices it is Turn; twice it is the lowest bits. No condition.
-/
import Derived.Test.YtgmjbagomfegeaaDl0
namespace Go.Proofs.Ytgmjbagomfegeaa
set_option linter.unusedVariables false
open Go.RowKit

theorem and_mask (z : Int) (k : Nat) (hk : k ≤ 62) : bits .and .i64 z ((2 ^ k - 1 : Nat) : Int) = ((u64 z % 2 ^ k : Nat) : Int) := by
  have hp : 2 ^ k ≤ 2 ^ 62 := Nat.pow_le_pow_right (by omega) hk
  have hm : (BitVec.ofInt 64 ((2 ^ k - 1 : Nat) : Int)).toNat = 2 ^ k - 1 := by
    rw [BitVec.toNat_ofInt]
    have : (2 : Nat) ^ 62 = 4611686018427387904 := by decide
    omega
  have key : (BitVec.ofInt 64 z &&& BitVec.ofInt 64 ((2 ^ k - 1 : Nat) : Int)).toNat = (z % ((2 ^ 64 : Nat) : Int)).toNat % 2 ^ k := by
    rw [BitVec.toNat_and, BitVec.toNat_ofInt, hm, Nat.and_two_pow_sub_one_eq_mod]
  show IntKind.i64.wrap ((BitVec.ofInt 64 z &&& BitVec.ofInt 64 ((2 ^ k - 1 : Nat) : Int)).toNat : Nat) = _
  rw [key, IntKind.wrap_i64]
  have hl := Nat.mod_lt (z % ((2 ^ 64 : Nat) : Int)).toNat (Nat.two_pow_pos k)
  unfold u64
  have e : ((2 ^ 64 : Nat) : Int) = 18446744073709551616 := rfl
  rw [e] at hl ⊢
  generalize (z % 18446744073709551616).toNat % 2 ^ k = y at hl ⊢
  have : (2 : Nat) ^ 62 = 4611686018427387904 := by decide
  omega
theorem dbits_no (W : World) (i k : Int) (h : k < 1 ∨ 62 < k) : AnsB W 7 #[.int .i64 i, .int .i64 k] (.bool true) := by
  intro w hw
  have HA := alive_any W
  have HB := bits_any W i k
  have HR := rbits_any W i k
  generalize bt k i = x at HB HR
  have e1 : (x != x) = false := by simp
  by_cases h1 : k < 1
  · clear h
    go_enter Try.func7, Try.ntmps7
    go_wp2_with (first
      | (go_at_call 8; (with_reducible refine AnsB.use HA hw fun w1 hb1 => ?_); have hw1 := hw.trans (hb1.mono hw.size))
      | (go_at_call 19; with_reducible refine AnsQ.use HB hw1 ?_)
      | (go_at_call 20; with_reducible refine AnsQ.use HR hw1 ?_))
    go_ret
    exact ⟨rfl, hb1⟩
  · have h2 : 62 < k := by omega
    have h3 : decide (62 < k) = true := by simpa using h2
    clear h
    go_enter Try.func7, Try.ntmps7
    go_wp2_with (first
      | (go_at_call 8; (with_reducible refine AnsB.use HA hw fun w1 hb1 => ?_); have hw1 := hw.trans (hb1.mono hw.size))
      | (go_at_call 19; with_reducible refine AnsQ.use HB hw1 ?_)
      | (go_at_call 20; with_reducible refine AnsQ.use HR hw1 ?_))
    go_ret
    exact ⟨rfl, hb1⟩
theorem bt_yes {k : Nat} (h1 : 1 ≤ k) (h2 : k ≤ 62) (i : Int) : bt k i = (tn (two k) (u64 i) : Int) := by
  unfold bt; rw [if_pos ⟨by omega, by omega⟩, Int.toNat_natCast]
theorem u64_nat {x : Nat} (h : x < 18446744073709551616) : u64 (x : Int) = x := by unfold u64; omega
theorem bt_bt {k : Nat} (h1 : 1 ≤ k) (h2 : k ≤ 62) (i : Int) : bt k (bt k i) = ((u64 i % 2 ^ k : Nat) : Int) := by
  have hp : 2 ^ k ≤ 2 ^ 62 := Nat.pow_le_pow_right (by omega) h2
  have hl := two_lt k (u64 i)
  have e62 : (2 : Nat) ^ 62 = 4611686018427387904 := by decide
  rw [bt_yes h1 h2 i, bt_yes h1 h2, u64_nat (by omega), two_back]
theorem pow_rules {k : Nat} (h : k ≤ 62) : wrap64 (2 ^ k) = ((2 ^ k : Nat) : Int) ∧ wrap64 (((2 ^ k : Nat) : Int) - 1) = ((2 ^ k - 1 : Nat) : Int) ∧ 1 ≤ 2 ^ k := by
  have hp : 2 ^ k ≤ 2 ^ 62 := Nat.pow_le_pow_right (by omega) h
  have h1 : 1 ≤ 2 ^ k := Nat.two_pow_pos k
  have e62 : (2 : Nat) ^ 62 = 4611686018427387904 := by decide
  have e : (2 : Int) ^ k = ((2 ^ k : Nat) : Int) := by simp
  rw [e]
  generalize 2 ^ k = y at hp h1 ⊢
  refine ⟨?_, ?_, h1⟩
  · unfold wrap64; omega
  · unfold wrap64; omega
set_option maxHeartbeats 1000000 in
theorem dbits_long (W : World) (i : Int) (k : Nat) (h1 : 1 ≤ k) (h2 : k ≤ 62) (h : 12 < k) : AnsB W 7 #[.int .i64 i, .int .i64 (k : Int)] (.bool true) := by
  intro w hw
  have HA := alive_any W
  have HB := bits_any W i k
  have HR := rbits_any W i k
  have HB2 := bits_any W (bt k i) k
  rw [bt_bt h1 h2, ← and_mask i k h2] at HB2
  obtain ⟨e2, e3, hPM⟩ := pow_rules h2
  have hP : True := trivial
  generalize ((2 ^ k : Nat) : Int) = P at e2 e3
  generalize ((2 ^ k - 1 : Nat) : Int) = M at e3 HB2
  obtain ⟨y, hy⟩ : ∃ y, bits .and .i64 i M = y := ⟨_, rfl⟩
  rw [hy] at HB2
  generalize bt k i = x at HB HR HB2
  have e1 : (x != x) = false := by simp
  have e4 : (y != y) = false := by simp
  have g1 : ¬ (k : Int) < 1 := by omega
  have g2 : ¬ (62 : Int) < (k : Int) := by omega
  have g3 : (12 : Int) < (k : Int) := by omega
  have g4 : decide ((12 : Int) < (k : Int)) = true := by simpa using g3
  clear hP hPM
  clear h h1 h2
  go_enter Try.func7, Try.ntmps7
  go_wp2_with (first
    | (go_at_call 8; (with_reducible refine AnsB.use HA hw fun w1 hb1 => ?_); have hw1 := hw.trans (hb1.mono hw.size))
    | (go_at_call 19; with_reducible refine AnsQ.use HB hw1 ?_)
    | (go_at_call 19; with_reducible refine AnsQ.use HB2 hw1 ?_)
    | (go_at_call 20; with_reducible refine AnsQ.use HR hw1 ?_))
  go_ret
  exact ⟨rfl, hb1⟩
set_option maxHeartbeats 1000000 in
theorem dbits_neg (W : World) (i : Int) (k : Nat) (h1 : 1 ≤ k) (h2 : k ≤ 62) (h : ¬ 12 < k ∧ i < 0) : AnsB W 7 #[.int .i64 i, .int .i64 (k : Int)] (.bool true) := by
  intro w hw
  have HA := alive_any W
  have HB := bits_any W i k
  have HR := rbits_any W i k
  have HB2 := bits_any W (bt k i) k
  rw [bt_bt h1 h2, ← and_mask i k h2] at HB2
  obtain ⟨e2, e3, hPM⟩ := pow_rules h2
  have hP : True := trivial
  generalize ((2 ^ k : Nat) : Int) = P at e2 e3
  generalize ((2 ^ k - 1 : Nat) : Int) = M at e3 HB2
  obtain ⟨y, hy⟩ : ∃ y, bits .and .i64 i M = y := ⟨_, rfl⟩
  rw [hy] at HB2
  generalize bt k i = x at HB HR HB2
  have e1 : (x != x) = false := by simp
  have e4 : (y != y) = false := by simp
  have g1 : ¬ (k : Int) < 1 := by omega
  have g2 : ¬ (62 : Int) < (k : Int) := by omega
  have g3 : ¬ (12 : Int) < (k : Int) := by omega
  have g4 : decide ((12 : Int) < (k : Int)) = false := by simpa using g3
  have g5 : i < 0 := h.2
  have g6 : decide (i < 0) = true := by simpa using g5
  clear hP hPM
  clear h h1 h2
  go_enter Try.func7, Try.ntmps7
  go_wp2_with (first
    | (go_at_call 8; (with_reducible refine AnsB.use HA hw fun w1 hb1 => ?_); have hw1 := hw.trans (hb1.mono hw.size))
    | (go_at_call 19; with_reducible refine AnsQ.use HB hw1 ?_)
    | (go_at_call 19; with_reducible refine AnsQ.use HB2 hw1 ?_)
    | (go_at_call 20; with_reducible refine AnsQ.use HR hw1 ?_))
  go_ret
  exact ⟨rfl, hb1⟩
set_option maxHeartbeats 1000000 in
theorem dbits_great (W : World) (i : Int) (k : Nat) (h1 : 1 ≤ k) (h2 : k ≤ 62) (h : ¬ 12 < k ∧ ¬ i < 0 ∧ ((2 ^ k : Nat) : Int) ≤ i) : AnsB W 7 #[.int .i64 i, .int .i64 (k : Int)] (.bool true) := by
  intro w hw
  have HA := alive_any W
  have HB := bits_any W i k
  have HR := rbits_any W i k
  have HB2 := bits_any W (bt k i) k
  rw [bt_bt h1 h2, ← and_mask i k h2] at HB2
  obtain ⟨e2, e3, hPM⟩ := pow_rules h2
  have hP : ((2 ^ k : Nat) : Int) ≤ i := h.2.2
  generalize ((2 ^ k : Nat) : Int) = P at e2 e3 hP
  generalize ((2 ^ k - 1 : Nat) : Int) = M at e3 HB2
  obtain ⟨y, hy⟩ : ∃ y, bits .and .i64 i M = y := ⟨_, rfl⟩
  rw [hy] at HB2
  generalize bt k i = x at HB HR HB2
  have e1 : (x != x) = false := by simp
  have e4 : (y != y) = false := by simp
  have g1 : ¬ (k : Int) < 1 := by omega
  have g2 : ¬ (62 : Int) < (k : Int) := by omega
  have g3 : ¬ (12 : Int) < (k : Int) := by omega
  have g4 : decide ((12 : Int) < (k : Int)) = false := by simpa using g3
  have g5 : ¬ i < 0 := h.2.1
  have g6 : decide (i < 0) = false := by simpa using g5
  have g7 : P ≤ i := hP
  have g8 : decide (P ≤ i) = true := by simpa using g7
  clear hP hPM
  clear h h1 h2
  go_enter Try.func7, Try.ntmps7
  go_wp2_with (first
    | (go_at_call 8; (with_reducible refine AnsB.use HA hw fun w1 hb1 => ?_); have hw1 := hw.trans (hb1.mono hw.size))
    | (go_at_call 19; with_reducible refine AnsQ.use HB hw1 ?_)
    | (go_at_call 19; with_reducible refine AnsQ.use HB2 hw1 ?_)
    | (go_at_call 20; with_reducible refine AnsQ.use HR hw1 ?_))
  go_ret
  exact ⟨rfl, hb1⟩
theorem two_rad {k : Nat} (h : k ≤ 12) : Rad (two k) := by
  refine ⟨by unfold two; rw [List.length_replicate]; exact h, fun r hr => ?_, ?_⟩
  · unfold two at hr; rw [List.eq_of_mem_replicate hr]; omega
  · rw [two_pr]; exact Nat.le_trans (Nat.pow_le_pow_right (by omega) h) (by decide)
theorem two_len (k : Nat) : (two k).length = k := by unfold two; rw [List.length_replicate]
theorem two_cells (n : Nat) : zcells (ints (two (n + 1))) = zcells (ints (two n)) ++ [.int .i64 2] := by
  unfold two; rw [List.replicate_succ']; simp [ints, zcells]
set_option maxHeartbeats 1000000 in
theorem dbits_in (W : World) (i k : Nat) (h1 : 1 ≤ k) (h2 : k ≤ 12) (h : i < 2 ^ k) : AnsB W 7 #[.int .i64 (i : Int), .int .i64 (k : Int)] (.bool true) := by
  have h62 : k ≤ 62 := by omega
  intro w hw
  obtain ⟨ii, hii, hzi, hsi, hbi⟩ := info_parts infoZ
  have HA := alive_any W
  have HB := bits_any W i k
  have HR := rbits_any W i k
  have HB2 := bits_any W (bt k i) k
  rw [bt_bt h1 h62, ← and_mask i k h62] at HB2
  obtain ⟨e2, e3, _⟩ := pow_rules h62
  have hx : bt k i = (tn (two k) i : Int) := by
    rw [bt_yes h1 h62, u64_nat]
    have hp : 2 ^ k ≤ 2 ^ 62 := Nat.pow_le_pow_right (by omega) h62
    have e62 : (2 : Nat) ^ 62 = 4611686018427387904 := by decide
    omega
  have HTu : Hid (∀ (w' : World) A1 C1, ZAt w' A1 C1 (ints (two k)) → AnsQ w' 11 #[.slice A1 k C1, .int .i64 (i : Int)] (.tuple #[.int .i64 (bt k i), .bool true])) := fun w' A1 C1 hz => by
    have := turn_yes w' A1 C1 (two k) hz (two_rad h2) i (by rw [two_pr]; exact h)
    rw [two_len] at this
    rw [hx]
    exact this
  have hP : (i : Int) < ((2 ^ k : Nat) : Int) := by omega
  generalize ((2 ^ k : Nat) : Int) = P at e2 e3 hP
  generalize ((2 ^ k - 1 : Nat) : Int) = M at e3 HB2
  obtain ⟨y, hy⟩ : ∃ y, bits .and .i64 (i : Int) M = y := ⟨_, rfl⟩
  rw [hy] at HB2
  generalize bt k i = x at HB HR HB2 HTu hx
  have e1 : (x != x) = false := by simp
  have e1' : (x == x) = true := by simp
  have e4 : (y != y) = false := by simp
  have g1 : ¬ (k : Int) < 1 := by omega
  have g2 : ¬ (62 : Int) < (k : Int) := by omega
  have g3 : ¬ (12 : Int) < (k : Int) := by omega
  have g4 : decide ((12 : Int) < (k : Int)) = false := by simpa using g3
  have g5 : ¬ (i : Int) < 0 := by omega
  have g6 : decide ((i : Int) < 0) = false := by simp
  have g7 : ¬ P ≤ (i : Int) := by omega
  have g8 : decide (P ≤ (i : Int)) = false := by simpa using g7
  have hlen : (k : Int) ≤ 9223372036854775807 := by omega
  have HK : Hid (k ≤ 12) := h2
  clear h hP h1 h2 h62 hx
  go_enter Try.func7, Try.ntmps7
  go_wp2_with (first
    | (go_at_call 8; (with_reducible refine AnsB.use HA hw fun w1 hb1 => ?_); have hw1 := hw.trans (hb1.mono hw.size))
    | (go_at_call 19; with_reducible refine AnsQ.use HB hw1 ?_)
    | (go_at_call 19; with_reducible refine AnsQ.use HB2 hw1 ?_)
    | (go_at_call 20; with_reducible refine AnsQ.use HR hw1 ?_))
  have HB1 : Hid (Below w.heap.size w w1) := hb1
  clear HA HB HR HB2 hb1 hw1 e2 e3 hy g7 g8
  go_loopw [6, 7] (fun out v wr => ∃ n : Nat, v = .int .i64 (n : Int) ∧ n ≤ k ∧ Hid (wr.ownsRow w1.heap.size 3 1 out n (zcells (ints (two n)))) ∧ Below w1.heap.size w1 wr) (fun _ v _ => k - (intOf v).toNat)
  case atStart => exact ⟨0, rfl, by omega, World.ownsRow_nil _ _ _ _, Below.refl _ _⟩
  case round =>
    obtain ⟨n, rfl, hn, HO, hB⟩ := hrel
    by_cases hlt : n < k
    · have hO2 := World.ownsRow.alloc HO.out (.cells #[.int .i64 2] 3)
      have hnews := one_new wr (.int .i64 2) 3
      have hBa : Below w1.heap.size w1 (wr.alloc (.cells #[.int .i64 2] 3)) := bb hB (below_alloc _ _)
      have hn12 : n < 12 := by have := HK.out; omega
      clear HO
      go_wp2_with (at_builtin; refine Hid.out ?_)
      unfold Hid
      refine (wpList_append_own _ rfl _ _ 22 rfl w1.heap.size 3 ii _ 1 8 Try.underlying22 hii hzi hsi hbi rfl (by omega) _ n _ rfl hO2 ⟨wr.heap.size, 0, none⟩ 1 1 [.int .i64 2] rfl rfl hnews (by simp [Value.oneCell']) (by unfold maxLen; omega) (by omega) hBa.size ?_)
      intro v' w5 hO3 hG _
      have HO3 : Hid (w5.ownsRow w1.heap.size 3 1 v' (n + 1) (zcells (ints (two (n + 1))))) := by unfold Hid; rw [two_cells]; exact hO3
      have hB5 : Below w1.heap.size w1 w5 := hBa.grown hG hBa.size (fun k hk => (hO2.lt k hk).1)
      clear hO3 hG hO2 hBa hnews hB hn12
      go_wp2
      go_roundw
      case rel => exact ⟨n + 1, by go_num, by omega, HO3, hB5⟩
      case measure => simp [intOf]; omega
    · obtain rfl : n = k := by omega
      have HO4 : Hid (wr.ownsRow w1.heap.size 3 1 u6 (ints (two n)).length (zcells (ints (two n)))) := by
        unfold Hid; rw [ints_len, two_len]; exact HO.out
      obtain ⟨A1, C1, hv, hz⟩ := own_ints HO4.out (fun z hz => by
        obtain ⟨j, hj, rfl⟩ := List.mem_map.1 hz
        unfold two at hj
        rw [List.eq_of_mem_replicate hj]
        exact i64_small (by omega))
      rw [ints_len, two_len] at hv
      subst hv
      have HT := HTu.out wr A1 C1 hz
      have HBB : Hid (Below w.heap.size w wr) := bb HB1.out hB
      clear HO HO4 HTu hz hB
      go_wp2_with (go_at_call 11; with_reducible refine AnsQ.use HT (Below.refl _ _) ?_)
      go_ret
      exact ⟨rfl, HBB.out⟩
theorem dbits_law (W : World) (i : Int) (hi : I64 i) (k : Int) (hk : I64 k) : AnsB W 7 #[.int .i64 i, .int .i64 k] (.bool true) := by
  by_cases h : k < 1 ∨ 62 < k
  · exact dbits_no W i k h
  · obtain ⟨n, rfl⟩ := Int.eq_ofNat_of_zero_le (show 0 ≤ k by omega)
    by_cases h1 : 12 < n
    · exact dbits_long W i n (by omega) (by omega) h1
    · by_cases h2 : i < 0
      · exact dbits_neg W i n (by omega) (by omega) ⟨h1, h2⟩
      · by_cases h3 : ((2 ^ n : Nat) : Int) ≤ i
        · exact dbits_great W i n (by omega) (by omega) ⟨h1, h2, h3⟩
        · obtain ⟨j, rfl⟩ := Int.eq_ofNat_of_zero_le (show 0 ≤ i by omega)
          exact dbits_in W j n (by omega) (by omega) (by omega)
end Go.Proofs.Ytgmjbagomfegeaa

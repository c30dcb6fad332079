/-
  The contracts of power, Bit and bit: the bits of three words.
-/
import Derived.Test.YtlgadaojekcjeaaDoorBv
import Derived.Test.YtlgadaojekcjeaaDoorBitP
import Derived.Test.YtlgadaojekcjeaaDoorA
import Derived.Deep.LoopGhost
import Derived.Deep.RegionHeld3
namespace Go.Proofs.YtlgadaojekcjeaaDoor
open Go.RowKit

set_option maxHeartbeats 1000000 in
theorem power_any (n : Nat) (hn : n ≤ 63) (w : World) : Calls Tryd.prog 36 #[.int .i64 n] w fun e w' => e = .returned (.int .u64 (2 ^ n)) ∧ w' = w := by
  go_enter Tryd.func36, Tryd.ntmps36
  go_wp2_with fail
  go_loop [3, 4] (fun p i => ∃ (k : Nat) (q : Int), k ≤ n ∧ i = .int .i64 k ∧ p = .int .u64 q ∧ Hid (q = (2 : Int) ^ k)) (fun _ i => n - (intOf i).toNat)
  case atStart => exact ⟨0, 1, by omega, rfl, rfl, rfl⟩
  case round =>
    obtain ⟨k, q, hk, rfl, rfl, HQ⟩ := hrel
    have hq0 : 0 ≤ q := by rw [HQ.out]; exact Int.le_of_lt (Int.pow_pos (by decide))
    by_cases hlt : k < n
    · have hq1 : q ≤ 4611686018427387904 := by
        rw [HQ.out]
        have h2 : (2 : Nat) ^ k ≤ 2 ^ 62 := Nat.pow_le_pow_right (by omega) (by omega)
        rw [show (2 : Nat) ^ 62 = 4611686018427387904 from rfl] at h2
        have h3 : ((2 ^ k : Nat) : Int) ≤ 4611686018427387904 := by omega
        simpa using h3
      have HQ' : Hid (2 * q = (2 : Int) ^ (k + 1)) := by
        show _ = _
        rw [HQ.out, Int.pow_succ, Int.mul_comm]
      have hlti : (k : Int) < n := by omega
      go_wp2
      go_round
      case rel => exact ⟨k + 1, 2 * q, by omega, by go_num, rfl, HQ'⟩
      case measure => simp [intOf]; omega
    · obtain rfl : k = n := by omega
      go_wp2
      go_ret
      exact ⟨by rw [← HQ.out]; rfl, rfl⟩

/-- The bits of three words. -/
def nat3 (a0 a1 a2 : Int) : Nat := (val a0 a1 a2).toNat

theorem nat3_nat (n0 n1 n2 : Nat) : nat3 n0 n1 n2 = 2 ^ 64 * (2 ^ 64 * n2 + n1) + n0 := by
  unfold nat3 val
  rw [show (2 : Nat) ^ 64 = 18446744073709551616 from rfl]
  omega
theorem nat3_lt (a0 a1 a2 : Int) (ha0 : Wd a0) (ha1 : Wd a1) (ha2 : Wd a2) : nat3 a0 a1 a2 < 2 ^ 192 := by
  obtain ⟨_, _⟩ := ha0; obtain ⟨_, _⟩ := ha1; obtain ⟨_, _⟩ := ha2
  rw [show (2 : Nat) ^ 192 = 6277101735386680763835789423207666416102355444464034512896 from rfl]
  unfold nat3 val
  omega
theorem int_bit (n r : Nat) : ((n : Int) / 2 ^ r % 2 == 1) = n.testBit r := by
  rw [Plain.tb]
  have e : ((n : Int) / 2 ^ r % 2) = ((n / 2 ^ r % 2 : Nat) : Int) := by simp
  rw [e]
  rcases Plain.bit01 n r with h | h <;> rw [h] <;> rfl

/-- A bit of three words. -/
theorem nat3_bit (a0 a1 a2 : Int) (ha0 : Wd a0) (ha1 : Wd a1) (ha2 : Wd a2) (k : Nat) (hk : k < 192) :
    ∃ (j r : Nat) (a P : Int), k / 64 = j ∧ k % 64 = r ∧ j < 3 ∧ r ≤ 63 ∧ (#[a0, a1, a2] : Array Int)[j]? = some a ∧ 0 ≤ a ∧ a < 18446744073709551616 ∧ P = (2 : Int) ^ r ∧ 0 < P ∧ P < 18446744073709551616 ∧ (a / P % 2 == 1) = (nat3 a0 a1 a2).testBit k := by
  obtain ⟨u0, u1⟩ := ha0; obtain ⟨v0, v1⟩ := ha1; obtain ⟨x0, x1⟩ := ha2
  obtain ⟨n0, rfl⟩ := Int.eq_ofNat_of_zero_le u0
  obtain ⟨n1, rfl⟩ := Int.eq_ofNat_of_zero_le v0
  obtain ⟨n2, rfl⟩ := Int.eq_ofNat_of_zero_le x0
  have l0 : n0 < 2 ^ 64 := by rw [show (2 : Nat) ^ 64 = 18446744073709551616 from rfl]; omega
  have l1 : n1 < 2 ^ 64 := by rw [show (2 : Nat) ^ 64 = 18446744073709551616 from rfl]; omega
  have hP : ∀ r : Nat, r ≤ 63 → (0 : Int) < 2 ^ r ∧ (2 : Int) ^ r < 18446744073709551616 := fun r hr => by
    refine ⟨Int.pow_pos (by decide), ?_⟩
    have h2 : (2 : Nat) ^ r ≤ 2 ^ 63 := Nat.pow_le_pow_right (by omega) hr
    rw [show (2 : Nat) ^ 63 = 9223372036854775808 from rfl] at h2
    have h3 : ((2 ^ r : Nat) : Int) < 18446744073709551616 := by omega
    simpa using h3
  have hr : k % 64 ≤ 63 := by omega
  rw [nat3_nat, Nat.testBit_two_pow_mul_add _ l0]
  by_cases h1 : k < 64
  · rw [if_pos h1]
    exact ⟨0, k % 64, n0, _, by omega, rfl, by omega, hr, rfl, u0, u1, rfl, (hP _ hr).1, (hP _ hr).2, by rw [int_bit, show k % 64 = k by omega]⟩
  · rw [if_neg h1, Nat.testBit_two_pow_mul_add _ l1]
    by_cases h2 : k < 128
    · rw [if_pos (by omega)]
      exact ⟨1, k % 64, n1, _, by omega, rfl, by omega, hr, rfl, v0, v1, rfl, (hP _ hr).1, (hP _ hr).2, by rw [int_bit, show k % 64 = k - 64 by omega]⟩
    · rw [if_neg (by omega)]
      exact ⟨2, k % 64, n2, _, by omega, rfl, by omega, hr, rfl, x0, x1, rfl, (hP _ hr).1, (hP _ hr).2, by rw [int_bit, show k % 64 = k - 64 - 64 by omega]⟩

set_option maxHeartbeats 2000000 in
set_option maxRecDepth 100000 in
theorem bits_any (a0 a1 a2 : Int) (ha0 : Wd a0) (ha1 : Wd a1) (ha2 : Wd a2) (w : World) :
    Calls Tryd.prog 33 #[.agg #[.int .u64 a0, .int .u64 a1, .int .u64 a2]] w fun e w' => e = .returned (.agg (bv (nat3 a0 a1 a2).testBit)) ∧ Below w.heap.size w w' := by
  have hfin : ∀ i, 192 ≤ i → (nat3 a0 a1 a2).testBit i = false := fun i hi =>
    Nat.testBit_lt_two_pow (Nat.lt_of_lt_of_le (nat3_lt a0 a1 a2 ha0 ha1 ha2) (Nat.pow_le_pow_right (by omega) hi))
  have HF : Hid (∀ i, 192 ≤ i → (nat3 a0 a1 a2).testBit i = false) := hfin
  clear hfin
  go_enter Tryd.func33, Tryd.ntmps33
  go_wp2_with fail
  rw [zero_bv]
  go_loopg [4] 192 (fun g i wr => ∃ k : Nat, k ≤ 192 ∧ g = 192 - k ∧ i = .int .i64 k ∧ wr.cell? ⟨w.heap.size, 0, none⟩ = some (.int .u64 a0) ∧ wr.cell? ⟨w.heap.size, 1, none⟩ = some (.int .u64 a1) ∧ wr.cell? ⟨w.heap.size, 2, none⟩ = some (.int .u64 a2)
    ∧ Blk wr (w.heap.size + 1) (fun _ => false) ∧ Blk wr (w.heap.size + 1 + 1) (fun j => if j < k then (nat3 a0 a1 a2).testBit j else false) ∧ Below w.heap.size w wr)
  case atStart =>
    refine ⟨0, by omega, rfl, rfl, by simp [go_sem], by simp [go_sem], by simp [go_sem], ?_, ?_, ?_⟩
    · have := ((Blk.new (w.alloc (.cells #[.int .u64 a0, .int .u64 a1, .int .u64 a2] 23)) (fun _ => false)).old (.cells (bv fun _ => false) 27))
      simpa using this
    · have := (Blk.new ((w.alloc (.cells #[.int .u64 a0, .int .u64 a1, .int .u64 a2] 23)).alloc (.cells (bv fun _ => false) 27)) (fun _ => false))
      simpa using this
    · exact (((Below.refl _ _).alloc (Nat.le_refl _) _).alloc (by simp) _).alloc (by simp; omega) _
  case round =>
    obtain ⟨k, hk, rfl, rfl, g0, g1, g2, hR, hO, hW⟩ := hrel
    by_cases hlt : k < 192
    · obtain ⟨j, r, a, P, hj, hr, hj3, hr63, ha, p1, p2, hP, p3, p4, ht⟩ := nat3_bit a0 a1 a2 ha0 ha1 ha2 k hlt
      have o1 := hO.cell k (by omega)
      have f1 := hO.frozen k
      simp only [Nat.lt_irrefl, if_false] at o1
      have hlti : (k : Int) < 192 := by omega
      have hk0 : (0 : Int) ≤ (k : Int) := by omega
      have hk1 : (k : Int) < 256 := by omega
      have hP0 : ¬ P = 0 := by omega
      have hPb : (P == 0) = false := by simp [hP0]
      have hpow := fun w => power_any r hr63 w
      rw [← hP] at hpow
      have HP : Hid (∀ w, Calls Tryd.prog 36 #[.int .i64 r] w fun e w' => e = .returned (.int .u64 P) ∧ w' = w) := hpow
      obtain ⟨t, htt⟩ : ∃ t, (nat3 a0 a1 a2).testBit k = t := ⟨_, rfl⟩
      have HTT : Hid ((nat3 a0 a1 a2).testBit k = t) := htt
      have e2 : (k : Int) % 64 = (r : Int) := by omega
      have e2t : (k : Int).tmod 64 = (r : Int) := by rw [Int.tmod_eq_emod_of_nonneg hk0]; exact e2
      have d1 : 0 ≤ a / P := Int.ediv_nonneg p1 (by omega)
      have ht2 : ((a / P).tmod 2 == 1) = (nat3 a0 a1 a2).testBit k := by rw [Int.tmod_eq_emod_of_nonneg d1]; exact ht
      rw [htt] at ht ht2
      have hw2 : IntKind.u64.wrap (a / P) = a / P := by
        rw [IntKind.wrap_u64, Int.emod_eq_of_lt d1 (Int.lt_of_le_of_lt (Int.ediv_le_self _ p1) p2)]
      have et : a.tdiv P = a / P := Int.tdiv_eq_ediv_of_nonneg p1
      clear hpow hP hr htt
      have hj' : j = 0 ∨ j = 1 ∨ j = 2 := by omega
      rcases hj' with rfl | rfl | rfl
      all_goals
        simp at ha
        subst ha
      · have e1 : (k : Int) / 64 = 0 := by omega
        have e1t : (k : Int).tdiv 64 = 0 := by rw [Int.tdiv_eq_ediv_of_nonneg hk0]; exact e1
        have hw : IntKind.i64.wrap 0 = 0 := rfl
        go_wp2_with fail
        go_region_held3 (fun w' => w'.cell? ⟨w.heap.size, 0, none⟩ = some (.int .u64 a0)) (simp [go_sem, *])
          ((go_at_call 36; refine (HP.out _).mono ?_; rintro e w1 ⟨rfl, rfl⟩))
        go_wp2
        go_roundg (192 - (k + 1))
        case measure => omega
        case rel =>
          refine ⟨k + 1, by omega, rfl, by go_num, ?_, ?_, ?_, hR.other _ _ (by show _ ≠ _ + 1 + 1; omega), (hO.set k t).congr (fun i _ => ?_), (hW.setCell (by show _ ≤ _ + 1 + 1; omega) _).drew⟩
          · rw [World.cell?_drew, World.cell?_setCell_other _ _ _ _ (by simp)]; exact g0
          · rw [World.cell?_drew, World.cell?_setCell_other _ _ _ _ (by simp)]; exact g1
          · rw [World.cell?_drew, World.cell?_setCell_other _ _ _ _ (by simp)]; exact g2
          · by_cases h1 : i = k
            · subst h1; simp [HTT.out]
            · have h2 : (i < k + 1) = (i < k) := by simp; omega
              simp [h1, h2]
      · have e1 : (k : Int) / 64 = 1 := by omega
        have e1t : (k : Int).tdiv 64 = 1 := by rw [Int.tdiv_eq_ediv_of_nonneg hk0]; exact e1
        have hw : IntKind.i64.wrap 1 = 1 := rfl
        go_wp2_with fail
        go_region_held3 (fun w' => w'.cell? ⟨w.heap.size, 1, none⟩ = some (.int .u64 a1)) (simp [go_sem, *])
          ((go_at_call 36; refine (HP.out _).mono ?_; rintro e w1 ⟨rfl, rfl⟩))
        go_wp2
        go_roundg (192 - (k + 1))
        case measure => omega
        case rel =>
          refine ⟨k + 1, by omega, rfl, by go_num, ?_, ?_, ?_, hR.other _ _ (by show _ ≠ _ + 1 + 1; omega), (hO.set k t).congr (fun i _ => ?_), (hW.setCell (by show _ ≤ _ + 1 + 1; omega) _).drew⟩
          · rw [World.cell?_drew, World.cell?_setCell_other _ _ _ _ (by simp)]; exact g0
          · rw [World.cell?_drew, World.cell?_setCell_other _ _ _ _ (by simp)]; exact g1
          · rw [World.cell?_drew, World.cell?_setCell_other _ _ _ _ (by simp)]; exact g2
          · by_cases h1 : i = k
            · subst h1; simp [HTT.out]
            · have h2 : (i < k + 1) = (i < k) := by simp; omega
              simp [h1, h2]
      · have e1 : (k : Int) / 64 = 2 := by omega
        have e1t : (k : Int).tdiv 64 = 2 := by rw [Int.tdiv_eq_ediv_of_nonneg hk0]; exact e1
        have hw : IntKind.i64.wrap 2 = 2 := rfl
        go_wp2_with fail
        go_region_held3 (fun w' => w'.cell? ⟨w.heap.size, 2, none⟩ = some (.int .u64 a2)) (simp [go_sem, *])
          ((go_at_call 36; refine (HP.out _).mono ?_; rintro e w1 ⟨rfl, rfl⟩))
        go_wp2
        go_roundg (192 - (k + 1))
        case measure => omega
        case rel =>
          refine ⟨k + 1, by omega, rfl, by go_num, ?_, ?_, ?_, hR.other _ _ (by show _ ≠ _ + 1 + 1; omega), (hO.set k t).congr (fun i _ => ?_), (hW.setCell (by show _ ≤ _ + 1 + 1; omega) _).drew⟩
          · rw [World.cell?_drew, World.cell?_setCell_other _ _ _ _ (by simp)]; exact g0
          · rw [World.cell?_drew, World.cell?_setCell_other _ _ _ _ (by simp)]; exact g1
          · rw [World.cell?_drew, World.cell?_setCell_other _ _ _ _ (by simp)]; exact g2
          · by_cases h1 : i = k
            · subst h1; simp [HTT.out]
            · have h2 : (i < k + 1) = (i < k) := by simp; omega
              simp [h1, h2]
    · obtain rfl : k = 192 := by omega
      have hO' : Blk wr (w.heap.size + 1 + 1) (nat3 a0 a1 a2).testBit := hO.congr (fun i hi => by
        by_cases h : i < 192
        · simp [h]
        · simp [h, HF.out i (by omega)])
      clear hO
      go_wp2_with (first
        | (refine wpList_load_row rfl 27 _ rfl _ rfl 27 _ (0, 0) _ hO' Tryd.underlying27 rfl (info27 _) ?_)
        | (refine wpList_plain rfl fun _ hK => wp_store_row 27 _ _ rfl _ _ rfl rfl 27 _ hR (info27 _) (by rw [bv_size, bv_size]) (bv_one _) (hK _ _ ?_)))
      refine bodyPost_ret (v := .agg (bv (nat3 a0 a1 a2).testBit)) (results_cell_row rfl _ _ (w.heap.size + 1) 27 _ (0, 0) _ rfl hR.row Tryd.underlying27 rfl (info27 _)) rfl ⟨rfl, below_setRow hW (by omega) _⟩

set_option maxHeartbeats 1000000 in
set_option maxRecDepth 100000 in
/-- The statements' bit. -/
theorem bit_any (a0 a1 a2 : Int) (ha0 : Wd a0) (ha1 : Wd a1) (ha2 : Wd a2) (w : World) :
    Calls Tryd.prog 11 #[.agg #[.int .u64 a0, .int .u64 a1, .int .u64 a2]] w fun e w' => e = .returned (.agg (bv (nat3 a0 a1 a2).testBit)) ∧ Below w.heap.size w w' := by
  go_enter Tryd.func11, Tryd.ntmps11
  go_wp2_with fail
  rw [zero_bv]
  refine (bits_any a0 a1 a2 ha0 ha1 ha2 _).mono ?_
  rintro e w1 ⟨rfl, hb1⟩
  have hR : Blk w1 (w.heap.size + 1) (fun _ => false) := by
    have := (Blk.new (w.alloc (.cells #[.int .u64 a0, .int .u64 a1, .int .u64 a2] 24)) (fun _ => false)).below hb1 (by simp)
    simpa using this
  have hW : Below w.heap.size w w1 := (((Below.refl _ _).alloc (Nat.le_refl _) _).alloc (by simp) _).trans (hb1.mono (by simp; omega))
  go_wp2_with ((refine wpList_plain rfl fun _ hK => wp_store_row 27 _ _ rfl _ _ rfl rfl 27 _ hR (info27 _) (by rw [bv_size, bv_size]) (bv_one _) (hK _ _ ?_)))
  refine bodyPost_ret (v := .agg (bv (nat3 a0 a1 a2).testBit)) (results_cell_row rfl _ _ (w.heap.size + 1) 27 _ (0, 0) _ rfl hR.row Tryd.underlying27 rfl (info27 _)) rfl ⟨rfl, below_setRow hW (by omega) _⟩
end Go.Proofs.YtlgadaojekcjeaaDoor

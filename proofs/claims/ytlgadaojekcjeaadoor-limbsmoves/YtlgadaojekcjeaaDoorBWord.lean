/-
  The contracts of Word and Whole: words out of a row of bits.
-/
import Derived.Test.YtlgadaojekcjeaaDoorBPow
import Derived.Test.YtlgadaojekcjeaaDoorRegB
namespace Go.Proofs.YtlgadaojekcjeaaDoor
open Go.RowKit

theorem word_step (V d j : Nat) (hj : j < 64) : 2 * (V / 2 ^ (d + (j + 1)) % 2 ^ (64 - (j + 1))) + (if V.testBit (d + j) then 1 else 0) = V / 2 ^ (d + j) % 2 ^ (64 - j) := by
  have e1 : V / 2 ^ (d + (j + 1)) = V / 2 ^ (d + j) / 2 := by rw [Nat.div_div_eq_div_mul, ← Nat.add_assoc, Nat.pow_succ]
  have e2 : 2 ^ (64 - j) = 2 * 2 ^ (64 - (j + 1)) := by rw [show 64 - j = 64 - (j + 1) + 1 by omega, Nat.pow_succ, Nat.mul_comm]
  rw [e1, e2, Nat.mod_mul, Plain.tb]
  rcases Plain.bit01 V (d + j) with h | h <;> rw [h] <;> simp
  omega

set_option maxHeartbeats 1000000 in
set_option maxRecDepth 100000 in
theorem word_any (V d : Nat) (hd : d ≤ 192) (w : World) : Calls Tryd.prog 23 #[.agg (bv V.testBit), .int .i64 d] w fun e w' => e = .returned (.int .u64 ((V / 2 ^ d % 2 ^ 64 : Nat) : Int)) ∧ Below w.heap.size w w' := by
  obtain ⟨res, hres⟩ : ∃ res : Int, res = ((V / 2 ^ d % 2 ^ 64 : Nat) : Int) := ⟨_, rfl⟩
  rw [← hres]
  have HV : Hid (res = ((V / 2 ^ d % 2 ^ 64 : Nat) : Int)) := hres
  clear hres
  have hA : Blk (w.alloc (.cells (bv V.testBit) 27)) w.heap.size V.testBit := Blk.new w _
  go_enter Tryd.func23, Tryd.ntmps23
  go_wp2_with fail
  go_loop [5, 6] (fun n i => ∃ (k N : Nat), k ≤ 64 ∧ i = .int .i64 ((k : Int) - 1) ∧ n = .int .u64 N ∧ N < 2 ^ (64 - k) ∧ Hid (N = V / 2 ^ (d + k) % 2 ^ (64 - k))) (fun _ i => (intOf i + 1).toNat)
  case atStart => exact ⟨64, 0, by omega, rfl, rfl, by simp, by show _ = _; simp [Nat.mod_one]⟩
  case round =>
    obtain ⟨k, N, hk, rfl, rfl, hN, HN⟩ := hrel
    rcases Nat.eq_zero_or_pos k with h0 | h0
    · subst h0
      go_wp2
      go_ret
      refine ⟨?_, (Below.refl _ _).alloc (Nat.le_refl _) _⟩
      have e : (N : Int) = res := by rw [HV.out, HN.out]; rfl
      rw [← e]
      rfl
    · obtain ⟨j, rfl⟩ : ∃ j, k = j + 1 := ⟨k - 1, by omega⟩
      rw [show (((j + 1 : Nat) : Int) - 1) = (j : Int) by omega]
      have hst := word_step V d j (by omega)
      rw [← HN.out] at hst
      have hN63 : N < 9223372036854775808 := by
        have h2 : (2 : Nat) ^ (64 - (j + 1)) ≤ 2 ^ 63 := Nat.pow_le_pow_right (by omega) (by omega)
        rw [show (2 : Nat) ^ 63 = 9223372036854775808 from rfl] at h2
        omega
      have hNi : (N : Int) < 9223372036854775808 := by omega
      have hlt := Nat.mod_lt (V / 2 ^ (d + j)) (Nat.two_pow_pos (64 - j))
      rw [← hst] at hlt
      have a1 := hA.cell (d + j) (by omega)
      have hj0 : (0 : Int) ≤ j := by omega
      have hj1 : (d : Int) + j < 256 := by omega
      cases ht : V.testBit (d + j)
      · rw [ht] at a1 hst hlt
        have HS : Hid (2 * N + 0 = V / 2 ^ (d + j) % 2 ^ (64 - j)) := hst
        have HL : Hid (2 * N + 0 < 2 ^ (64 - j)) := hlt
        clear hst hlt ht hN
        go_wp2
        go_round
        case rel => exact ⟨j, 2 * N + 0, by omega, rfl, by go_num, HL, HS⟩
        case measure => simp [intOf]
      · rw [ht] at a1 hst hlt
        have HS : Hid (2 * N + 1 = V / 2 ^ (d + j) % 2 ^ (64 - j)) := hst
        have HL : Hid (2 * N + 1 < 2 ^ (64 - j)) := hlt
        clear hst hlt ht hN
        go_wp2
        go_round
        case rel => exact ⟨j, 2 * N + 1, by omega, rfl, by go_num, HL, HS⟩
        case measure => simp [intOf]

/-- A word of a number. -/
def wrd (V d : Nat) : Int := ((V / 2 ^ d % 2 ^ 64 : Nat) : Int)
theorem word_fn (V d : Nat) (hd : d ≤ 192) (w : World) : Calls Tryd.prog 23 #[.agg (bv V.testBit), .int .i64 d] w fun e w' => e = .returned (.int .u64 (wrd V d)) ∧ Below w.heap.size w w' := word_any V d hd w

theorem word_fn0 (V : Nat) (w : World) : Calls Tryd.prog 23 #[.agg (bv V.testBit), .int .i64 0] w fun e w' => e = .returned (.int .u64 (wrd V 0)) ∧ Below w.heap.size w w' := word_fn V 0 (by omega) w
theorem word_fn64 (V : Nat) (w : World) : Calls Tryd.prog 23 #[.agg (bv V.testBit), .int .i64 64] w fun e w' => e = .returned (.int .u64 (wrd V 64)) ∧ Below w.heap.size w w' := word_fn V 64 (by omega) w
theorem word_fn128 (V : Nat) (w : World) : Calls Tryd.prog 23 #[.agg (bv V.testBit), .int .i64 128] w fun e w' => e = .returned (.int .u64 (wrd V 128)) ∧ Below w.heap.size w w' := word_fn V 128 (by omega) w
theorem word_fn192 (V : Nat) (w : World) : Calls Tryd.prog 23 #[.agg (bv V.testBit), .int .i64 192] w fun e w' => e = .returned (.int .u64 (wrd V 192)) ∧ Below w.heap.size w w' := word_fn V 192 (by omega) w

set_option maxHeartbeats 1000000 in
set_option maxRecDepth 100000 in
theorem whole_any (V : Nat) (w : World) : Calls Tryd.prog 16 #[.agg (bv V.testBit)] w fun e w' => e = .returned (.agg #[.int .u64 (wrd V 0), .int .u64 (wrd V 64), .int .u64 (wrd V 128)]) ∧ Below w.heap.size w w' := by
  have hA : Blk ((w.alloc (.cells (bv V.testBit) 27)).alloc (.cells #[.int .u64 0, .int .u64 0, .int .u64 0] 23)) w.heap.size V.testBit := (Blk.new w _).old _
  have hC := blk_regrown hA
  have HC : Hid (∀ w', (∃ p : Regrown, w' = Sort.grow (redrawn ((w.alloc (.cells (bv V.testBit) 27)).alloc (.cells #[.int .u64 0, .int .u64 0, .int .u64 0] 23)) p.d) p.os) → Blk w' w.heap.size V.testBit) := hC
  clear hA hC
  go_enter Tryd.func16, Tryd.ntmps16
  go_wp2_with fail
  refine wp_region_tail 7 (by kernel_rfl) (by kernel_rfl) ?_
  simp only [List.take_succ_cons, List.take_zero, List.drop_succ_cons, List.drop_zero]
  refine wpQuiet_bits _ rfl rfl rfl HC.out ?_
  simp only [Act.put, List.setIfInBounds_toArray, List.set_cons_zero, List.set_cons_succ]
  go_big_quiet_step ((exact Calls.regrown_of (word_fn0 V _)))
  refine wpQuiet_bits _ rfl rfl rfl HC.out ?_
  simp only [Act.put, List.setIfInBounds_toArray, List.set_cons_zero, List.set_cons_succ]
  go_big_quiet_step ((exact Calls.regrown_of (word_fn64 V _)))
  refine wpQuiet_bits _ rfl rfl rfl HC.out ?_
  simp only [Act.put, List.setIfInBounds_toArray, List.set_cons_zero, List.set_cons_succ]
  go_big_quiet_step ((exact Calls.regrown_of (word_fn128 V _)))
  go_big_quiet_step (fail)
  refine wpQuiet_nil ?_
  rintro _ ⟨⟨d, os⟩, rfl⟩
  have hb := below_regrown ((w.alloc (.cells (bv V.testBit) 27)).alloc (.cells #[.int .u64 0, .int .u64 0, .int .u64 0] 23)) d os
  clear HC
  generalize Sort.grow (redrawn ((w.alloc (.cells (bv V.testBit) 27)).alloc (.cells #[.int .u64 0, .int .u64 0, .int .u64 0] 23)) d) os = w2 at hb ⊢
  have c0 : w2.cell? ⟨w.heap.size + 1, 0, none⟩ = some (.int .u64 0) := (hb.cell (p := ⟨w.heap.size + 1, 0, none⟩) (by simp)).trans (by simp [go_sem])
  have c1 : w2.cell? ⟨w.heap.size + 1, 1, none⟩ = some (.int .u64 0) := (hb.cell (p := ⟨w.heap.size + 1, 1, none⟩) (by simp)).trans (by simp [go_sem])
  have c2 : w2.cell? ⟨w.heap.size + 1, 2, none⟩ = some (.int .u64 0) := (hb.cell (p := ⟨w.heap.size + 1, 2, none⟩) (by simp)).trans (by simp [go_sem])
  have f0 : ∀ j, w2.frozen? ⟨w.heap.size + 1, j, none⟩ = false := fun j => (hb.frozen (p := ⟨w.heap.size + 1, j, none⟩) (by simp)).trans (by simp [go_sem])
  have hz : w.heap.size + 1 < w2.heap.size := by have := hb.size; simp at this; omega
  go_wp2
  exact bodyPost_ret (v := .agg #[.int .u64 (wrd V 0), .int .u64 (wrd V 64), .int .u64 (wrd V 128)]) (by simp [results, Tryd.results16, go_sem, c0, c1, c2]) rfl ⟨rfl, (by repeat' (first | with_reducible exact Below.refl _ _ | with_reducible refine Below.drew ?_ | with_reducible refine below_drewN ?_ _ | with_reducible refine Below.setCell ?_ ?_ _ | with_reducible refine Below.alloc ?_ ?_ _ | with_reducible refine Below.trans ?_ (hb.mono ?_) | omega | (simp; done) | (simp; omega)))⟩
end Go.Proofs.YtlgadaojekcjeaaDoor

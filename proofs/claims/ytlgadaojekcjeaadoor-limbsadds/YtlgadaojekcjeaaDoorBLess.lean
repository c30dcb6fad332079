/-
  The contract of Less: which of two rows of bits is the less number.
-/
import Derived.Test.YtlgadaojekcjeaaDoorBPow
namespace Go.Proofs.YtlgadaojekcjeaaDoor
open Go.RowKit

theorem high_step (x i : Nat) : x / 2 ^ i = 2 * (x / 2 ^ (i + 1)) + x / 2 ^ i % 2 := by
  rw [Nat.pow_succ, ← Nat.div_div_eq_div_mul]
  omega
theorem less_same (x y i : Nat) (h : x / 2 ^ (i + 1) = y / 2 ^ (i + 1)) (hb : x.testBit i = y.testBit i) : x / 2 ^ i = y / 2 ^ i := by
  rw [Plain.tb, Plain.tb] at hb
  rw [high_step x i, high_step y i, h]
  rcases Plain.bit01 x i with h1 | h1 <;> rcases Plain.bit01 y i with h2 | h2 <;> rw [h1, h2] at hb <;> simp at hb <;> omega
theorem less_diff (x y i : Nat) (h : x / 2 ^ (i + 1) = y / 2 ^ (i + 1)) (hx : x.testBit i = !y.testBit i) : decide (x < y) = y.testBit i := by
  have hx1 := high_step x i
  have hy1 := high_step y i
  have hp := Nat.two_pow_pos i
  have ex := Nat.div_add_mod x (2 ^ i)
  have ey := Nat.div_add_mod y (2 ^ i)
  have lx := Nat.mod_lt x hp
  have ly := Nat.mod_lt y hp
  rw [Plain.tb, Plain.tb] at hx
  rw [Plain.tb]
  rw [h] at hx1
  rcases Plain.bit01 x i with h1 | h1 <;> rcases Plain.bit01 y i with h2 | h2 <;> rw [h1, h2] at hx <;> simp at hx <;> rw [h1] at hx1 <;> rw [h2] at hy1 <;> rw [h2]
  · have e : y / 2 ^ i = x / 2 ^ i + 1 := by omega
    rw [e, Nat.mul_add] at ey
    simp
    omega
  · have e : x / 2 ^ i = y / 2 ^ i + 1 := by omega
    rw [e, Nat.mul_add] at ex
    simp
    omega

set_option maxHeartbeats 1000000 in
set_option maxRecDepth 100000 in
theorem less_any (x y : Nat) (hx : x < 2 ^ 256) (hy : y < 2 ^ 256) (w : World) : Calls Tryd.prog 15 #[.agg (bv x.testBit), .agg (bv y.testBit)] w fun e w' => e = .returned (.bool (decide (x < y))) ∧ Below w.heap.size w w' := by
  have hz : x / 2 ^ 256 = y / 2 ^ 256 := by rw [Nat.div_eq_of_lt hx, Nat.div_eq_of_lt hy]
  have HZ : Hid (x / 2 ^ 256 = y / 2 ^ 256) := hz
  obtain ⟨res, hres⟩ : ∃ res, res = decide (x < y) := ⟨_, rfl⟩
  rw [← hres]
  have HV : Hid (res = decide (x < y)) := hres
  clear hres hz hx hy
  go_enter Tryd.func15, Tryd.ntmps15
  go_wp2_with fail
  go_loopg [5] 256 (fun g i wr => ∃ k : Nat, k ≤ 256 ∧ Hid (g = k) ∧ i = .int .i64 ((k : Int) - 1) ∧ Hid (x / 2 ^ k = y / 2 ^ k) ∧ Blk wr w.heap.size x.testBit ∧ Blk wr (w.heap.size + 1) y.testBit ∧ Below w.heap.size w wr)
  case atStart =>
    refine ⟨256, by omega, rfl, rfl, HZ, (Blk.new w _).old _, ?_, ((Below.refl _ _).alloc (Nat.le_refl _) _).alloc (by simp) _⟩
    have := Blk.new (w.alloc (.cells (bv x.testBit) 27)) y.testBit
    simpa using this
  case round =>
    obtain ⟨k, hk, HG, rfl, HE, hA, hB, hW⟩ := hrel
    rcases Nat.eq_zero_or_pos k with h0 | h0
    · subst h0
      have e : res = false := by
        rw [HV.out]
        have := HE.out
        simp at this
        subst this
        simp
      clear HV HE HZ
      subst e
      go_wp2
      go_ret
      exact ⟨rfl, hW⟩
    · obtain ⟨j, rfl⟩ : ∃ j, k = j + 1 := ⟨k - 1, by omega⟩
      rw [show (((j + 1 : Nat) : Int) - 1) = (j : Int) by omega]
      have a1 := hA.cell j (by omega)
      have b1 := hB.cell j (by omega)
      have hj0 : (0 : Int) ≤ j := by omega
      have hj1 : (j : Int) < 256 := by omega
      obtain ⟨p, hp⟩ : ∃ p, x.testBit j = p := ⟨_, rfl⟩
      obtain ⟨q, hq⟩ : ∃ q, y.testBit j = q := ⟨_, rfl⟩
      rw [hp] at a1
      rw [hq] at b1
      by_cases hpq : p = q
      · have HE' : Hid (x / 2 ^ j = y / 2 ^ j) := less_same x y j HE.out (by rw [hp, hq, hpq])
        subst hpq
        clear hp hq HZ HV HE
        cases p
        all_goals go_wp2_with fail
        all_goals go_region
        all_goals go_wp2
        all_goals go_roundg j
        all_goals first | (have := HG.out; omega) | exact ⟨j, by omega, rfl, by go_num, HE', hA, hB, hW.drew⟩
      · have e : res = q := by rw [HV.out, less_diff x y j HE.out (by rw [hp, hq]; cases p <;> cases q <;> simp_all), hq]
        clear hp hq HZ HV HE
        subst e
        cases p <;> cases res <;> simp at hpq
        all_goals go_wp2_with fail
        all_goals go_region
        all_goals go_wp2
        all_goals go_ret
        all_goals exact ⟨rfl, hW.drew⟩
end Go.Proofs.YtlgadaojekcjeaaDoor

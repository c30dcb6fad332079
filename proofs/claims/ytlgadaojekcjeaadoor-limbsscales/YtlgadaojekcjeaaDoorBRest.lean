/-
  The document's Rest, and limbs.Rest.
-/
import Derived.Test.YtlgadaojekcjeaaDoorBSumV
import Derived.Test.YtlgadaojekcjeaaDoorBPow
import Derived.Test.YtlgadaojekcjeaaDoorDivide
namespace Go.Proofs.YtlgadaojekcjeaaDoor
open Go.RowKit

theorem rest_fin (V m j : Nat) (r t : Int) (hr : r = ((V / 2 ^ (j + 1) % m : Nat) : Int)) (b : Bool) (hb : V.testBit j = b) (h0 : 0 ≤ t) (h1 : t < m)
    (ht : 2 * r + (if b then 1 else 0) = t ∨ 2 * r + (if b then 1 else 0) = t + m) : t = ((V / 2 ^ j % m : Nat) : Int) := by
  obtain ⟨y, hy⟩ : ∃ y, y = V / 2 ^ j := ⟨_, rfl⟩
  have e1 : V / 2 ^ (j + 1) = y / 2 := by rw [hy, Nat.pow_succ, Nat.div_div_eq_div_mul]
  have e2 : (y % 2 = 1) = (b = true) := by
    rw [← hb, hy, Nat.testBit_eq_decide_div_mod_eq]; simp
  obtain ⟨u, hu⟩ : ∃ u, u = y / 2 % m := ⟨_, rfl⟩
  obtain ⟨t', rfl⟩ : ∃ t' : Nat, t = t' := ⟨t.toNat, by omega⟩
  rw [e1, ← hu] at hr
  rw [← hy]
  subst hr
  have hq : y / 2 = u + m * (y / 2 / m) := by rw [hu]; exact (Nat.mod_add_div (y / 2) m).symm
  have hc : ∃ c, y = t' + m * c := by
    have hb2 : y = 2 * (y / 2) + (if b then 1 else 0) := by
      cases b
      · have : ¬ y % 2 = 1 := by rw [e2]; simp
        simp; omega
      · have : y % 2 = 1 := by rw [e2]
        simp; omega
    have hm2 : m * (2 * (y / 2 / m)) = 2 * (m * (y / 2 / m)) := by rw [Nat.mul_left_comm]
    rcases ht with ht | ht
    · refine ⟨2 * (y / 2 / m), ?_⟩
      rw [hm2]
      cases b <;> simp at ht hb2 <;> omega
    · refine ⟨2 * (y / 2 / m) + 1, ?_⟩
      rw [Nat.mul_add, hm2, Nat.mul_one]
      cases b <;> simp at ht hb2 <;> omega
  obtain ⟨c, hc⟩ := hc
  rw [hc, Nat.add_mul_mod_self_left, Nat.mod_eq_of_lt (by omega)]

set_option maxHeartbeats 2000000 in
set_option maxRecDepth 100000 in
theorem rrest_walk (V m : Nat) (M R : Int) (hV : Hid (V < 2 ^ 256)) (HM : Hid (M = m)) (HR : Hid (R = ((V % m : Nat) : Int))) (hM0 : 0 < M) (hM : M < 18446744073709551616) (w : World) : Calls Tryd.prog 25 #[.agg (bv V.testBit), .int .u64 M] w fun e w' => e = .returned (.int .u64 R) ∧ Below w.heap.size w w' := by
  have hMb : (M == 0) = false := by simp; omega
  go_enter Tryd.func25, Tryd.ntmps25
  go_wp2_with fail
  go_loopg [5, 6] 256 (fun g r i wr => ∃ (k : Nat) (s : Int), k ≤ 256 ∧ k = g ∧ r = .int .u64 s ∧ i = .int .i64 ((k : Int) - 1) ∧ 0 ≤ s ∧ s < M ∧ Blk wr w.heap.size V.testBit ∧ Below w.heap.size w wr ∧ Hid (s = ((V / 2 ^ k % m : Nat) : Int)))
  case atStart =>
    refine ⟨256, 0, by omega, rfl, rfl, rfl, by omega, hM0, Blk.new w _, (Below.refl _ _).alloc (Nat.le_refl _) _, ?_⟩
    show (0 : Int) = _
    rw [Nat.div_eq_of_lt hV.out]
    simp
  case round =>
    obtain ⟨k, s, hk, rfl, rfl, rfl, s0, s1, hA, hW, HS⟩ := hrel
    by_cases hk0 : k = 0
    · subst hk0
      have e : s = R := by rw [HS.out, HR.out]; simp
      subst e
      go_wp2
      go_ret
      exact ⟨rfl, hW⟩
    · obtain ⟨j, rfl⟩ : ∃ j, k = j + 1 := ⟨k - 1, by omega⟩
      rw [show (((j + 1 : Nat) : Int) - 1) = (j : Int) by omega]
      have a1 := hA.cell j (by omega)
      have hj0 : (0 : Int) ≤ j := by omega
      have hj1 : (j : Int) < 256 := by omega
      obtain ⟨b, hb⟩ : ∃ b, V.testBit j = b := ⟨_, rfl⟩
      rw [hb] at a1
      have HB : Hid (V.testBit j = b) := hb
      clear hb
      have HF : Hid (∀ t : Int, 0 ≤ t → t < M → (2 * s + (if b then 1 else 0) = t ∨ 2 * s + (if b then 1 else 0) = t + M) → t = ((V / 2 ^ j % m : Nat) : Int)) :=
        fun t h0 h1 ht => rest_fin V m j s t HS.out b HB.out h0 (by rw [← HM.out]; exact h1) (by rw [← HM.out]; exact ht)
      by_cases h1 : M - s ≤ s
      · cases b
        · have h2 : ¬ s - (M - s) = M := by omega
          go_wp2
          go_roundg j
          case measure => omega
          case rel => exact ⟨j, s - (M - s), by omega, rfl, by go_num, by go_num, by omega, by omega, hA, hW, HF.out (s - (M - s)) (by omega) (by omega) (by simp; omega)⟩
        · by_cases h2 : s - (M - s) + 1 = M
          · omega
          · go_wp2
            go_roundg j
            case measure => omega
            case rel => exact ⟨j, s - (M - s) + 1, by omega, rfl, by go_num, by go_num, by omega, by omega, hA, hW, HF.out (s - (M - s) + 1) (by omega) (by omega) (by simp; omega)⟩
      · cases b
        · have h2 : ¬ s + s = M := by omega
          go_wp2
          go_roundg j
          case measure => omega
          case rel => exact ⟨j, s + s, by omega, rfl, by go_num, by go_num, by omega, by omega, hA, hW, HF.out (s + s) (by omega) (by omega) (by simp; omega)⟩
        · by_cases h2 : s + s + 1 = M
          · go_wp2
            go_roundg j
            case measure => omega
            case rel => exact ⟨j, 0, by omega, rfl, by go_num, by go_num, by omega, by omega, hA, hW, HF.out (0) (by omega) (by omega) (by simp; omega)⟩
          · go_wp2
            go_roundg j
            case measure => omega
            case rel => exact ⟨j, s + s + 1, by omega, rfl, by go_num, by go_num, by omega, by omega, hA, hW, HF.out (s + s + 1) (by omega) (by omega) (by simp; omega)⟩
end Go.Proofs.YtlgadaojekcjeaaDoor

/-
  What limbs' sums, differences and opposites are in terms of the document's bits.
-/
import Derived.Test.YtlgadaojekcjeaaDoorFns
import Derived.Test.YtlgadaojekcjeaaDoorBWord
import Derived.Test.YtlgadaojekcjeaaDoorBPow
namespace Go.Proofs.YtlgadaojekcjeaaDoor
open Go.RowKit

theorem three_wrd (s0 s1 s2 : Int) (h0 : Wd s0) (h1 : Wd s1) (h2 : Wd s2) (V k : Nat) (e : (V : Int) = val s0 s1 s2 + 6277101735386680763835789423207666416102355444464034512896 * k) : s0 = wrd V 0 ∧ s1 = wrd V 64 ∧ s2 = wrd V 128 := by
  obtain ⟨_, _⟩ := h0; obtain ⟨_, _⟩ := h1; obtain ⟨_, _⟩ := h2
  unfold wrd
  unfold val at e
  simp only [Nat.reducePow, Nat.div_one]
  refine ⟨?_, ?_, ?_⟩ <;> omega
theorem nat3_val {a0 a1 a2 : Int} (h0 : Wd a0) (h1 : Wd a1) (h2 : Wd a2) : ((nat3 a0 a1 a2 : Nat) : Int) = val a0 a1 a2 := Int.toNat_of_nonneg (val_pos h0 h1 h2).1

theorem add_bits (a0 a1 a2 b0 b1 b2 : Int) (ha0 : Wd a0) (ha1 : Wd a1) (ha2 : Wd a2) (hb0 : Wd b0) (hb1 : Wd b1) (hb2 : Wd b2) (w : World) :
    Calls Tryd.prog 13 #[.agg #[.int .u64 a0, .int .u64 a1, .int .u64 a2], .agg #[.int .u64 b0, .int .u64 b1, .int .u64 b2]] w fun e w' => e = .returned (.tuple #[.agg #[.int .u64 (wrd (nat3 a0 a1 a2 + nat3 b0 b1 b2) 0), .int .u64 (wrd (nat3 a0 a1 a2 + nat3 b0 b1 b2) 64), .int .u64 (wrd (nat3 a0 a1 a2 + nat3 b0 b1 b2) 128)], .bool ((nat3 a0 a1 a2 + nat3 b0 b1 b2).testBit 192)]) ∧ Below w.heap.size w w' := by
  obtain ⟨s0, s1, s2, c, hR, hC⟩ := add_fn a0 a1 a2 b0 b1 b2 ha0 ha1 ha2 hb0 hb1 hb2
  have hx := nat3_val ha0 ha1 ha2
  have hy := nat3_val hb0 hb1 hb2
  have px := val_pos ha0 ha1 ha2
  have py := val_pos hb0 hb1 hb2
  have hr := hR.round
  obtain ⟨k0, k1, k2, e⟩ := hR
  obtain ⟨e0, e1, e2⟩ := three_wrd s0 s1 s2 k0 k1 k2 (nat3 a0 a1 a2 + nat3 b0 b1 b2) (if c then 1 else 0) (by cases c <;> simp at e ⊢ <;> omega)
  have hb : c = (nat3 a0 a1 a2 + nat3 b0 b1 b2).testBit 192 := by
    rw [hr, Nat.testBit_eq_decide_div_mod_eq]
    simp only [Nat.reducePow, decide_eq_decide]
    omega
  rw [← e0, ← e1, ← e2, ← hb]
  exact hC w

theorem sub_bits (a0 a1 a2 b0 b1 b2 : Int) (ha0 : Wd a0) (ha1 : Wd a1) (ha2 : Wd a2) (hb0 : Wd b0) (hb1 : Wd b1) (hb2 : Wd b2) (w : World) :
    Calls Tryd.prog 14 #[.agg #[.int .u64 a0, .int .u64 a1, .int .u64 a2], .agg #[.int .u64 b0, .int .u64 b1, .int .u64 b2]] w fun e w' => e = .returned (.tuple #[.agg #[.int .u64 (wrd (nat3 a0 a1 a2 + (2 ^ 192 - nat3 b0 b1 b2) % 2 ^ 192) 0), .int .u64 (wrd (nat3 a0 a1 a2 + (2 ^ 192 - nat3 b0 b1 b2) % 2 ^ 192) 64), .int .u64 (wrd (nat3 a0 a1 a2 + (2 ^ 192 - nat3 b0 b1 b2) % 2 ^ 192) 128)], .bool (decide (nat3 a0 a1 a2 < nat3 b0 b1 b2))]) ∧ Below w.heap.size w w' := by
  obtain ⟨s0, s1, s2, c, hR, hC⟩ := sub_fn a0 a1 a2 b0 b1 b2 ha0 ha1 ha2 hb0 hb1 hb2
  have hx := nat3_val ha0 ha1 ha2
  have hy := nat3_val hb0 hb1 hb2
  have px := val_pos ha0 ha1 ha2
  have py := val_pos hb0 hb1 hb2
  have hr := hR.less ha0 ha1 ha2 hb0 hb1 hb2
  obtain ⟨k0, k1, k2, e⟩ := hR
  have hb : c = decide (nat3 a0 a1 a2 < nat3 b0 b1 b2) := by
    rw [hr]
    simp only [decide_eq_decide]
    omega
  have ps := val_pos k0 k1 k2
  obtain ⟨e0, e1, e2⟩ := three_wrd s0 s1 s2 k0 k1 k2 (nat3 a0 a1 a2 + (2 ^ 192 - nat3 b0 b1 b2) % 2 ^ 192) (if c then 0 else if nat3 b0 b1 b2 = 0 then 0 else 1) (by
    simp only [Nat.reducePow]
    by_cases hz : nat3 b0 b1 b2 = 0 <;> cases c <;> simp [hz] at e ⊢ <;> omega)
  rw [← e0, ← e1, ← e2, ← hb]
  exact hC w

theorem neg_bits (b0 b1 b2 : Int) (hb0 : Wd b0) (hb1 : Wd b1) (hb2 : Wd b2) (w : World) :
    Calls Tryd.prog 18 #[.agg #[.int .u64 b0, .int .u64 b1, .int .u64 b2]] w fun e w' => e = .returned (.agg #[.int .u64 (wrd ((2 ^ 192 - nat3 b0 b1 b2) % 2 ^ 192) 0), .int .u64 (wrd ((2 ^ 192 - nat3 b0 b1 b2) % 2 ^ 192) 64), .int .u64 (wrd ((2 ^ 192 - nat3 b0 b1 b2) % 2 ^ 192) 128)]) ∧ Below w.heap.size w w' := by
  obtain ⟨s0, s1, s2, c, hR, hC⟩ := neg_fn b0 b1 b2 hb0 hb1 hb2
  have hy := nat3_val hb0 hb1 hb2
  have py := val_pos hb0 hb1 hb2
  obtain ⟨k0, k1, k2, e⟩ := hR
  have ps := val_pos k0 k1 k2
  have v0 : val 0 0 0 = 0 := rfl
  rw [v0] at e
  obtain ⟨e0, e1, e2⟩ := three_wrd s0 s1 s2 k0 k1 k2 ((2 ^ 192 - nat3 b0 b1 b2) % 2 ^ 192) 0 (by
    simp only [Nat.reducePow]
    cases c <;> simp at e ⊢ <;> omega)
  rw [← e0, ← e1, ← e2]
  exact hC w

theorem cmp_bits (a0 a1 a2 b0 b1 b2 : Int) (ha0 : Wd a0) (ha1 : Wd a1) (ha2 : Wd a2) (hb0 : Wd b0) (hb1 : Wd b1) (hb2 : Wd b2) (w : World) :
    Calls Tryd.prog 19 #[.agg #[.int .u64 a0, .int .u64 a1, .int .u64 a2], .agg #[.int .u64 b0, .int .u64 b1, .int .u64 b2]] w fun e w' => e = .returned (.int .i64 (if nat3 a0 a1 a2 < nat3 b0 b1 b2 then -1 else if nat3 b0 b1 b2 < nat3 a0 a1 a2 then 1 else 0)) ∧ Below w.heap.size w w' := by
  have hx := nat3_val ha0 ha1 ha2
  have hy := nat3_val hb0 hb1 hb2
  have := cmp_fn a0 a1 a2 b0 b1 b2 ha0 ha1 ha2 hb0 hb1 hb2 w
  have e : cmpI (val a0 a1 a2) (val b0 b1 b2) = (if nat3 a0 a1 a2 < nat3 b0 b1 b2 then -1 else if nat3 b0 b1 b2 < nat3 a0 a1 a2 then 1 else 0) := by
    unfold cmpI
    rw [← hx, ← hy]
    split <;> split <;> (try split) <;> omega
  rw [← e]
  exact this
end Go.Proofs.YtlgadaojekcjeaaDoor

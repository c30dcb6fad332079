/-
  Plain laws of decimal numerals (no Go in sight).
-/
import Derived.Lib.ItoaNum
import Derived.Lib.ItoaMem
import Derived.Lib.Repeat
namespace Go.Proofs.YtlgadaojekcjeaaDoor.Plain

/-- The last k digits, noughts ahead. -/
def pad : Nat → Nat → List UInt8
  | 0, _ => []
  | k + 1, r => pad k (r / 10) ++ [UInt8.ofNat (48 + r % 10)]

theorem dec_small {u : Nat} (h : u < 10) : Lib.decDigits u = [UInt8.ofNat (48 + u)] := by rw [Lib.decDigits, dif_pos h]
theorem dec_big {u : Nat} (h : ¬ u < 10) : Lib.decDigits u = Lib.decDigits (u / 10) ++ [UInt8.ofNat (48 + u % 10)] := by rw [Lib.decDigits, dif_neg h]

theorem dec_join : ∀ (k q r : Nat), 0 < q → r < 10 ^ k → Lib.decDigits (q * 10 ^ k + r) = Lib.decDigits q ++ pad k r
  | 0, q, r, _, hr => by simp at hr; subst hr; simp [pad]
  | k + 1, q, r, hq, hr => by
    have hp : 1 ≤ 10 ^ k := Nat.one_le_pow _ _ (by decide)
    have h10 : q * 10 ^ (k + 1) = 10 * (q * 10 ^ k) := by rw [Nat.pow_succ, ← Nat.mul_assoc, Nat.mul_comm]
    have hq1 : 1 ≤ q * 10 ^ k := Nat.mul_pos hq hp
    rw [dec_big (by omega), show (q * 10 ^ (k + 1) + r) / 10 = q * 10 ^ k + r / 10 by omega, show (q * 10 ^ (k + 1) + r) % 10 = r % 10 by omega,
      dec_join k q (r / 10) hq (by rw [Nat.pow_succ] at hr; omega), pad, List.append_assoc]

theorem pad_zero : ∀ k, pad k 0 = List.replicate k 48
  | 0 => rfl
  | k + 1 => by rw [pad, pad_zero k, List.replicate_succ']; rfl

theorem pad_eq : ∀ (k r : Nat), 1 ≤ k → r < 10 ^ k → pad k r = List.replicate (k - Lib.nDigits r) 48 ++ Lib.decDigits r ∧ Lib.nDigits r ≤ k
  | 0, _, h, _ => by omega
  | k + 1, r, _, hr => by
    by_cases h : r < 10
    · rw [pad, show r / 10 = 0 by omega, pad_zero, dec_small h, Lib.nDigits_small h, Nat.mod_eq_of_lt h]
      exact ⟨rfl, by omega⟩
    · have hk : 1 ≤ k := by
        rcases Nat.eq_zero_or_pos k with h0 | h0
        · subst h0; simp at hr; omega
        · exact h0
      obtain ⟨e, le⟩ := pad_eq k (r / 10) hk (by rw [Nat.pow_succ] at hr; omega)
      rw [pad, e, dec_big h, Lib.nDigits_big h, List.append_assoc, show k + 1 - (Lib.nDigits (r / 10) + 1) = k - Lib.nDigits (r / 10) by omega]
      exact ⟨rfl, by omega⟩

theorem nDigits_le (k r : Nat) (hk : 1 ≤ k) (hr : r < 10 ^ k) : Lib.nDigits r ≤ k := (pad_eq k r hk hr).2
theorem bytes_append (a b : List UInt8) : (⟨a.toArray⟩ ++ ⟨b.toArray⟩ : ByteArray) = ⟨(a ++ b).toArray⟩ := by
  apply ByteArray.ext
  simp

theorem repeat_one (b : UInt8) : ∀ c, Lib.repeatL [b] c = List.replicate c b
  | 0 => rfl
  | c + 1 => by rw [Lib.repeatL, repeat_one b c]; rfl

/-- A step of Decimal: the last nineteen digits. -/
theorem dec_step (V q r : Nat) (hq : 0 < q) (hr : r < 10000000000000000000) (hV : V = q * 10000000000000000000 + r) :
    Lib.decDigits V = Lib.decDigits q ++ (Lib.repeatL [48] (19 - Lib.nDigits r) ++ Lib.decDigits r) ∧ Lib.nDigits r ≤ 19 := by
  have e : (10000000000000000000 : Nat) = 10 ^ 19 := by decide
  rw [e] at hr hV
  obtain ⟨h1, h2⟩ := pad_eq 19 r (by omega) hr
  rw [hV, dec_join 19 q r hq hr, h1, repeat_one]
  exact ⟨rfl, h2⟩
end Go.Proofs.YtlgadaojekcjeaaDoor.Plain

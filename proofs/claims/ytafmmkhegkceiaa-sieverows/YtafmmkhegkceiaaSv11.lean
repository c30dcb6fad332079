/-
  Contracts of the document's Order and Generator (layer 5).
-/
import Derived.Test.YtafmmkhegkceiaaSv10
namespace Go.Proofs.Ytafmmkhegkceiaa
set_option linter.unusedVariables false
open Go.RowKit

/-- The least exponent of a power that is 1. -/
structure IsOrd (g p n : Nat) : Prop where
  one : 1 ≤ n
  is : g ^ n % p = 1
  no : ∀ k, 1 ≤ k → k < n → g ^ k % p ≠ 1
theorem ex_ord {g p : Nat} (hp : Prm p) (hg : ¬ p ∣ g) : ∃ n, IsOrd g p n ∧ n ≤ p - 1 := by
  have h2 := hp.1
  obtain ⟨m, hm, ⟨h1, h3⟩, hl⟩ := least (P := fun n => 1 ≤ n ∧ g ^ n % p = 1) (p - 1) ⟨by omega, fermat hp hg⟩
  exact ⟨m, ⟨h1, h3, fun k hk hkl e => hl k hkl ⟨hk, e⟩⟩, hm⟩
theorem wrap_prod {x y s : Nat} (hs : x * y = s) (hx : x ≤ 4294967295) (hy : y ≤ 4294967295) : IntKind.u64.wrap ((x : Int) * (y : Int)) = (s : Int) := by
  have h1 : x * y ≤ 4294967295 * 4294967295 := Nat.mul_le_mul hx hy
  rw [← Int.natCast_mul, hs, IntKind.wrap_u64]
  omega
set_option maxHeartbeats 1000000 in
theorem order_any (g p n : Nat) (h3 : 3 ≤ p) (h6 : p ≤ 65536) (hg : g < p) (ho : IsOrd g p n) (hn : n ≤ p) : Ans 27 #[.int .u64 (g : Int), .int .u64 (p : Int)] (.int .u64 (n : Int)) := by
  intro w
  have HO : Hid (IsOrd g p n) := ho
  have hn1 := ho.one
  have hgm : (g : Int) % (p : Int) = (g : Int) := Int.emod_eq_of_lt (by omega) (by omega)
  clear ho
  go_enter Try.func27, Try.ntmps27
  go_wp2
  go_loopw [5, 6] (fun a b wr => ∃ k x : Nat, a = .int .u64 (k : Int) ∧ b = .int .u64 (x : Int) ∧ 1 ≤ k ∧ k ≤ n ∧ x < p ∧ Hid (g ^ k % p = x) ∧ wr = w) (fun a _ _ => n - (intOf a).toNat)
  case atStart => exact ⟨1, g, rfl, by go_num, by omega, by omega, hg, by unfold Hid; rw [Nat.pow_one, Nat.mod_eq_of_lt hg], rfl⟩
  case round =>
    obtain ⟨k, x, rfl, rfl, hk1, hkn, hx, HX, rfl⟩ := hrel
    by_cases hlt : k < n
    · have hx1 : x ≠ 1 := fun e => HO.out.no k hk1 hlt (HX.out.trans e)
      have hx1' : ((x : Int) != 1) = true := by simp; omega
      have hx1'' : ¬ (x : Int) = 1 := by omega
      obtain ⟨s, hs⟩ : ∃ s, x * g = s := ⟨_, rfl⟩
      have hw := wrap_prod hs (by omega) (by omega)
      have hsl : s < 18446744073709551616 := by
        have : x * g ≤ 65536 * 65536 := Nat.mul_le_mul (by omega) (by omega)
        omega
      obtain ⟨r, hr⟩ : ∃ r, s % p = r := ⟨_, rfl⟩
      have hr' : (s : Int) % (p : Int) = (r : Int) := by rw [← Int.natCast_emod, hr]
      have hrl : r < p := hr ▸ Nat.mod_lt _ (by omega)
      have HX2 : Hid (g ^ (k + 1) % p = r) := by
        unfold Hid; rw [Nat.pow_succ, Nat.mul_mod, HX.out, Nat.mod_eq_of_lt hg, hs, hr]
      clear hs hr HX
      go_wp2
      go_roundw
      case rel => exact ⟨k + 1, r, by go_num, by go_num, by omega, by omega, hrl, HX2, by first | rfl | trivial⟩
      case measure => simp [intOf]; omega
    · obtain rfl : k = n := by omega
      obtain rfl : x = 1 := HX.out.symm.trans HO.out.is
      go_wp2
      go_ret
      exact ⟨rfl, 0, rfl⟩
theorem rgen_none (p : Int) (HP : Ans 18 #[.int .u64 p] (.bool false)) : Ans 15 #[.int .u64 p] (.int .u64 0) := by
  intro w
  go_enter Try.func15, Try.ntmps15
  go_wp2_with (go_at_call 18; with_reducible refine Ans.use HP _ fun n1 => ?_)
  go_ret
  exact ⟨rfl, _, rfl⟩
set_option maxHeartbeats 1000000 in
theorem rgen_walk (p : Nat) (ho : Odd16 p) : Ans 15 #[.int .u64 (p : Int)] (.int .u64 (genOf p : Int)) := by
  intro w
  have ho2 := ho
  obtain ⟨pp, h3, h6⟩ := ho2
  have HPP : Hid (Prm p) := pp
  have HG : Hid (2 ≤ genOf p ∧ genOf p < p ∧ GenP (genOf p) p ∧ ∀ k, 2 ≤ k → k < genOf p → ¬ GenP k p) := genOf_spec ho
  have HP : Ans 18 #[.int .u64 (p : Int)] (.bool true) := (rodd_any p (by omega)).to (by rw [oddB_iff.2 ho])
  obtain ⟨G, hG⟩ : ∃ G, genOf p = G := ⟨_, rfl⟩
  rw [hG] at HG ⊢
  have hG1 := HG.out.1
  have hG2 := HG.out.2.1
  clear pp hG ho
  go_enter Try.func15, Try.ntmps15
  go_wp2_with (go_at_call 18; with_reducible refine Ans.use HP _ fun n1 => ?_)
  go_loopw [3] (fun x wr => ∃ k j : Nat, x = .int .u64 (k : Int) ∧ 2 ≤ k ∧ k ≤ G ∧ wr = w.drewN j) (fun x _ => G - (intOf x).toNat)
  case atStart => exact ⟨2, n1, rfl, by omega, hG1, rfl⟩
  case round =>
    obtain ⟨k, j, rfl, hk2, hkG, HW⟩ := hrel
    have hkp : ¬ p ∣ k := fun h => by have := Nat.le_of_dvd (by omega) h; omega
    obtain ⟨n, hO, hn⟩ := ex_ord HPP.out hkp
    have HC := order_any k p n h3 h6 (by omega) hO (by omega)
    have hiff := order_gen HPP.out h3 hkp hO.one hO.is hO.no
    by_cases hlt : k < G
    · have hne : ¬ n = p - 1 := fun e => HG.out.2.2.2 k hk2 hlt (hiff.1 e)
      have hne' : ((n : Int) == (p : Int) - 1) = false := by rw [beq_eq_false_iff_ne]; omega
      clear hiff hO hne
      go_wp2_with (go_at_call 27; with_reducible refine Ans.use HC _ fun n2 => ?_)
      go_roundw
      case rel => exact ⟨k + 1, j + n2, by go_num, by omega, by omega, by first | rfl | (rw [World.drewN_drewN])⟩
      case measure => simp [intOf]; omega
    · obtain rfl : k = G := by omega
      have he : n = p - 1 := hiff.2 HG.out.2.2.1
      have hne' : ((n : Int) == (p : Int) - 1) = true := by rw [beq_iff_eq]; omega
      clear hiff hO he
      go_wp2_with (go_at_call 27; with_reducible refine Ans.use HC _ fun n2 => ?_)
      go_ret
      exact ⟨rfl, j + n2, by first | rfl | (rw [World.drewN_drewN])⟩
/-- The document's Generator. -/
theorem rgen_any (p : Nat) (hn : p < 18446744073709551616) : Ans 15 #[.int .u64 (p : Int)] (.int .u64 (genOf p : Int)) := by
  by_cases ho : Odd16 p
  · exact rgen_walk p ho
  · rw [genOf_no ho]
    refine rgen_none (p : Int) ((rodd_any p hn).to ?_)
    congr 1
    cases hc : oddB p with
    | false => rfl
    | true => exact absurd (oddB_iff.1 hc) ho
end Go.Proofs.Ytafmmkhegkceiaa

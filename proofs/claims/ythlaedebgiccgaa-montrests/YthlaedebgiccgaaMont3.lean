/-
  The contract of a context's powers; what a nil context answers.
-/
import Derived.Test.YthlaedebgiccgaaMont2
namespace Go.Proofs.Ythlaedebgiccgaa
set_option linter.unusedVariables false
open Go.RowKit

theorem bitLen_le64 (e : Nat) (h : e < 18446744073709551616) : Lib.bitLen e ≤ 64 := Lib.bitLen_le e 64 (by omega) (by rw [show (2 : Nat) ^ 64 = 18446744073709551616 by decide]; exact h)
theorem bitLen_aux : ∀ (f e : Nat), e < 2 ^ f → e / 2 ^ Lib.bitLenAux f e = 0
  | 0, e, h => by
      have : e = 0 := by simpa using h
      subst this; simp
  | f + 1, e, h => by
      by_cases h0 : e = 0
      · subst h0; simp
      · have ih := bitLen_aux f (e / 2) (by rw [Nat.pow_succ] at h; omega)
        have : Lib.bitLenAux (f + 1) e = 1 + Lib.bitLenAux f (e / 2) := by simp [Lib.bitLenAux, h0]
        rw [this, Nat.add_comm, Nat.pow_succ, Nat.mul_comm, ← Nat.div_div_eq_div_mul]; exact ih
theorem bitLen_zero (e : Nat) (h : e < 18446744073709551616) : e / 2 ^ Lib.bitLen e = 0 := bitLen_aux 64 e (by rw [show (2 : Nat) ^ 64 = 18446744073709551616 by decide]; exact h)
theorem div_pow_succ (e k : Nat) : e / 2 ^ (k + 1) = e / 2 ^ k / 2 := by rw [Nat.pow_succ, ← Nat.div_div_eq_div_mul]

set_option maxHeartbeats 2000000 in
/-- Pow. -/
theorem mpow_any {w : World} {b m g : Nat} (C : Ctx w b m g) (x e : Nat) (hx : x < 18446744073709551616) (he : e < 18446744073709551616) :
    AnsW w 19 #[.pointer (some ⟨b, 0, none⟩), .int .u64 x, .int .u64 e] (.int .u64 ((up (dn x m ^ e) m : Nat) : Int)) := by
  intro n
  have c2 := C.c2
  have h1 := C.one
  have h2 := C.lt
  obtain ⟨o, ho⟩ : ∃ o, 18446744073709551616 % m = o := ⟨_, rfl⟩
  have hol : o < m := ho ▸ Nat.mod_lt _ (by omega)
  have HE : Hid (18446744073709551616 % m = o) := ho
  rw [ho] at c2
  clear ho
  obtain ⟨L, hL⟩ : ∃ L, Lib.bitLen e = L := ⟨_, rfl⟩
  have HL := len64_any e he
  have hL64 := bitLen_le64 e he
  have HZ : Hid (e / 2 ^ L = 0) := hL ▸ bitLen_zero e he
  rw [hL] at HL hL64
  clear hL
  go_enter Try.func19, Try.ntmps19
  go_wp2_with (go_at_call 32; with_reducible refine Ans.use HL _ fun n0 => ?_)
  go_loopw [1, 7, 17] (fun s t k W => ∃ y p i j : Nat, s = .int .u64 y ∧ t = .int .u64 p ∧ k = .int .i64 i ∧ i ≤ L ∧ y < 18446744073709551616 ∧ p < m ∧ Hid (p * dn y m ^ (e / 2 ^ i) % m = o * dn x m ^ e % m) ∧ W = w.drewN (n + j)) (fun _ _ k _ => L - (intOf k).toNat)
  case atStart => exact ⟨x, o, 0, n0, rfl, rfl, rfl, by omega, hx, hol, by unfold Hid; rw [Nat.pow_zero, Nat.div_one], rfl⟩
  case round =>
    obtain ⟨y, p, i, j, rfl, rfl, rfl, hi, hy, hp, HI, HW⟩ := hrel
    by_cases hlt : i < L
    · obtain ⟨f, hf⟩ : ∃ f, e / 2 ^ i = f := ⟨_, rfl⟩
      have hfe : f ≤ e := hf ▸ Nat.div_le_self _ _
      have hf' : e / 2 ^ (i + 1) = f / 2 := by rw [div_pow_succ, hf]
      have hb : bits .and .u64 ((e : Int) / 2 ^ i) 1 = ((f % 2 : Nat) : Int) := by
        rw [show (e : Int) / 2 ^ i = ((e / 2 ^ i : Nat) : Int) by simp, hf, and_one f (by omega) (by omega)]; simp
      rw [hf] at HI
      have HF : Hid (e / 2 ^ (i + 1) = f / 2) := hf'
      clear hf hf'
      obtain ⟨c, hc⟩ : ∃ c, dn (y * y) m = c := ⟨_, rfl⟩
      have HQ := mmul_any C y y hy hy
      rw [hc] at HQ
      have hcl : c < m := hc ▸ dn_lt _ _ (by omega)
      by_cases hbit : f % 2 = 1
      · obtain ⟨q, hq⟩ : ∃ q, dn (p * y) m = q := ⟨_, rfl⟩
        have HM := mmul_any C p y (by omega) hy
        have HS := mpow_odd p y f m hbit
        rw [hq, hc] at HS
        replace HS : Hid (q * dn c m ^ (e / 2 ^ (i + 1)) % m = o * dn x m ^ e % m) := by
          unfold Hid; rw [HF.out]; exact HS.trans HI.out
        rw [hq] at HM
        have hql : q < m := hq ▸ dn_lt _ _ (by omega)
        rw [hbit] at hb
        clear hq hc HI HF
        go_wp2_with (first | (go_at_call 13; with_reducible refine AnsW.use HM _ fun n1 => ?_) | (go_at_call 13; with_reducible refine AnsW.use HQ _ fun n2 => ?_))
        go_roundw
        case rel => exact ⟨c, q, i + 1, j + n1 + n2, rfl, rfl, by go_num, by omega, by omega, hql, HS, World.drewN_congr _ (by omega)⟩
        case measure => simp [intOf]; omega
      · have HS := mpow_even p y f m hbit
        rw [hc] at HS
        replace HS : Hid (p * dn c m ^ (e / 2 ^ (i + 1)) % m = o * dn x m ^ e % m) := by
          unfold Hid; rw [HF.out]; exact HS.trans HI.out
        rw [show f % 2 = 0 by omega] at hb
        clear hc HI HF
        go_wp2_with (go_at_call 13; with_reducible refine AnsW.use HQ _ fun n2 => ?_)
        go_roundw
        case rel => exact ⟨c, p, i + 1, j + n2, rfl, rfl, by go_num, by omega, by omega, hp, HS, World.drewN_congr _ (by omega)⟩
        case measure => simp [intOf]; omega
    · obtain rfl : i = L := by omega
      have HP : Hid (p = up (dn x m ^ e) m) := by
        have h := HI.out
        rw [HZ.out, Nat.pow_zero, Nat.mul_one, Nat.mod_eq_of_lt hp] at h
        unfold Hid up
        rw [h, ← HE.out, Nat.mod_mul_mod, Nat.mul_comm]
      clear HI
      go_wp2
      go_ret
      exact ⟨ret_int (by rw [HP.out]), j, rfl⟩

/-! ### Of a nil context 0 -/
theorem nil_modulus  (w : World) : AnsW w 11 #[.pointer none] (.int .u64 0) := by
  intro n
  go_enter Try.func11, Try.ntmps11
  go_wp2
  go_ret
  exact ⟨rfl, 0, rfl⟩
theorem nil_one  (w : World) : AnsW w 12 #[.pointer none] (.int .u64 0) := by
  intro n
  go_enter Try.func12, Try.ntmps12
  go_wp2
  go_ret
  exact ⟨rfl, 0, rfl⟩
theorem nil_mul (x y : Int) (w : World) : AnsW w 13 #[.pointer none, .int .u64 x, .int .u64 y] (.int .u64 0) := by
  intro n
  go_enter Try.func13, Try.ntmps13
  go_wp2
  go_ret
  exact ⟨rfl, 0, rfl⟩
theorem nil_in (x : Int) (w : World) : AnsW w 14 #[.pointer none, .int .u64 x] (.int .u64 0) := by
  intro n
  go_enter Try.func14, Try.ntmps14
  go_wp2
  go_ret
  exact ⟨rfl, 0, rfl⟩
theorem nil_out (x : Int) (w : World) : AnsW w 15 #[.pointer none, .int .u64 x] (.int .u64 0) := by
  intro n
  go_enter Try.func15, Try.ntmps15
  go_wp2
  go_ret
  exact ⟨rfl, 0, rfl⟩
theorem nil_add (x y : Int) (w : World) : AnsW w 16 #[.pointer none, .int .u64 x, .int .u64 y] (.int .u64 0) := by
  intro n
  go_enter Try.func16, Try.ntmps16
  go_wp2
  go_ret
  exact ⟨rfl, 0, rfl⟩
theorem nil_neg (x : Int) (w : World) : AnsW w 18 #[.pointer none, .int .u64 x] (.int .u64 0) := by
  intro n
  go_enter Try.func18, Try.ntmps18
  go_wp2
  go_ret
  exact ⟨rfl, 0, rfl⟩
theorem nil_pow (x y : Int) (w : World) : AnsW w 19 #[.pointer none, .int .u64 x, .int .u64 y] (.int .u64 0) := by
  intro n
  go_enter Try.func19, Try.ntmps19
  go_wp2
  go_ret
  exact ⟨rfl, 0, rfl⟩
theorem nil_sub (x y : Int) (w : World) : AnsW w 17 #[.pointer none, .int .u64 x, .int .u64 y] (.int .u64 0) :=
  msub_walk w _ x y 0 0 (nil_neg y w) (nil_add x 0 w)
end Go.Proofs.Ythlaedebgiccgaa

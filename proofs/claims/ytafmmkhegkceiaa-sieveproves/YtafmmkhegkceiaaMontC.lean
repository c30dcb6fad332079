/-
  Contracts of a context's calls One, Out, In, Mul, Pow, and of New: what they answer of every number, in a world that holds the context. (Mont2 to Mont4 of the templates, less what not every seat has.)
-/
import Derived.Test.YtafmmkhegkceiaaMont1
import Derived.Test.YtafmmkhegkceiaaNumP
namespace Go.Proofs.Ytafmmkhegkceiaa
set_option linter.unusedVariables false
open Go.RowKit

/-- The context of m lies there: m, what makes -1 with it, the rests of 2^64 and of its square. -/
structure Ctx (w : World) (b : Nat) (m g : Nat) : Prop where
  odd : m % 2 = 1
  one : 1 < m
  lt : m < 9223372036854775808
  gl : g < 18446744073709551616
  gg : (m * g + 1) % 18446744073709551616 = 0
  c0 : w.cell? ⟨b, 0, none⟩ = some (.int .u64 m)
  c1 : w.cell? ⟨b, 1, none⟩ = some (.int .u64 g)
  c2 : w.cell? ⟨b, 2, none⟩ = some (.int .u64 ((18446744073709551616 % m : Nat) : Int))
  c3 : w.cell? ⟨b, 3, none⟩ = some (.int .u64 ((18446744073709551616 * 18446744073709551616 % m : Nat) : Int))

theorem one_walk (w : World) (b : Nat) (o : Int) (c2 : w.cell? ⟨b, 2, none⟩ = some (.int .u64 o)) : AnsW w 58 #[.pointer (some ⟨b, 0, none⟩)] (.int .u64 o) := by
  intro n
  go_enter Try.func58, Try.ntmps58
  go_wp2
  go_ret
  exact ⟨rfl, 0, rfl⟩

/-! ### shrink -/
set_option maxHeartbeats 1000000 in
theorem shrink_walk (w : World) (b : Nat) (m g h l q a c s k t r : Int) (c0 : w.cell? ⟨b, 0, none⟩ = some (.int .u64 m)) (c1 : w.cell? ⟨b, 1, none⟩ = some (.int .u64 g))
    (hq : IntKind.u64.wrap (l * g) = q)
    (HM : Ans 71 #[.int .u64 q, .int .u64 m] (.tuple #[.int .u64 a, .int .u64 c]))
    (HA : ∀ w, (callFunc 85 #[.int .u64 l, .int .u64 c, .int .u64 0]).run Try.prog w = .ok (.value (.tuple #[.int .u64 s, .int .u64 k])) w)
    (ht : IntKind.u64.wrap (IntKind.u64.wrap (h + a) + k) = t)
    (HO : Ans 73 #[.int .u64 t, .int .u64 m] (.int .u64 r)) :
    AnsW w 76 #[.pointer (some ⟨b, 0, none⟩), .int .u64 h, .int .u64 l] (.int .u64 r) := by
  intro n
  go_enter Try.func76, Try.ntmps76
  go_wp2
  go_quiet ((go_at_call 71; with_reducible exact Ans.quiet HM))
  go_wp2_with (go_at_call 73; with_reducible refine Ans.use HO _ fun n2 => ?_)
  go_ret
  exact ⟨rfl, _, by rw [Nat.add_assoc]⟩
theorem wrap_small (x : Int) (h0 : 0 ≤ x) (h1 : x < 18446744073709551616) : IntKind.u64.wrap x = x := by rw [IntKind.wrap_u64]; omega
theorem wrap_nat (x : Nat) : IntKind.u64.wrap (x : Int) = ((x % 18446744073709551616 : Nat) : Int) := by rw [IntKind.wrap_u64]; omega
theorem mul_cut_lt (x m R : Nat) (hx : x < R) (hm : m ≤ R) (h0 : 0 < R) (hm0 : 0 < m) : x * m / R < m := by
  rw [Nat.div_lt_iff_lt_mul h0, Nat.mul_comm m]; exact Nat.mul_lt_mul_of_pos_right hx hm0
/-- shrink: the rest by 2^64. -/
theorem shrink_any {w : World} {b m g : Nat} (C : Ctx w b m g) (h l : Nat) (hh : h < m) (hl : l < 18446744073709551616) :
    AnsW w 76 #[.pointer (some ⟨b, 0, none⟩), .int .u64 h, .int .u64 l] (.int .u64 ((dn (h * 18446744073709551616 + l) m : Nat) : Int)) := by
  have h1 := C.one
  have h2 := C.lt
  have hql : l * g % 18446744073709551616 < 18446744073709551616 := Nat.mod_lt _ (by omega)
  obtain ⟨q, hq⟩ : ∃ q, q = l * g % 18446744073709551616 := ⟨_, rfl⟩
  rw [← hq] at hql
  have hq' : IntKind.u64.wrap ((l : Int) * g) = q := by rw [← Int.natCast_mul, wrap_nat, hq]
  have ha := mul_cut_lt q m 18446744073709551616 hql (by omega) (by omega) (by omega)
  have hab : q * m / 18446744073709551616 * 18446744073709551616 + q * m % 18446744073709551616 = q * m := by omega
  have hb : q * m % 18446744073709551616 < 18446744073709551616 := Nat.mod_lt _ (by omega)
  have HM := mul64_nat q m hql (by omega)
  generalize q * m / 18446744073709551616 = a at *
  generalize q * m % 18446744073709551616 = c at *
  have HA := add64n l c 0 (by omega)
  have hs : (l + c + 0) % 18446744073709551616 < 18446744073709551616 := Nat.mod_lt _ (by omega)
  have hsk : (l + c + 0) % 18446744073709551616 + 18446744073709551616 * ((l + c + 0) / 18446744073709551616) = l + c := by omega
  generalize (l + c + 0) % 18446744073709551616 = s at *
  generalize (l + c + 0) / 18446744073709551616 = k at *
  obtain ⟨hlt, e⟩ := shrink_math m g h l q a c s k C.odd h1 C.gg hh hl hq hab hb hs hsk
  have HO := once_if (h + a + k) m (by omega) (by omega)
  rw [e] at HO
  refine shrink_walk w b m g h l q a c s k ((h + a + k : Nat) : Int) _ C.c0 C.c1 hq' HM HA ?_ HO
  rw [wrap_small ((h : Int) + a) (by omega) (by omega), wrap_small _ (by omega) (by omega)]; omega

/-! ### Out, In, rest -/
theorem out_walk (w : World) (b : Nat) (x r : Int) (HS : AnsW w 76 #[.pointer (some ⟨b, 0, none⟩), .int .u64 0, .int .u64 x] (.int .u64 r)) :
    AnsW w 89 #[.pointer (some ⟨b, 0, none⟩), .int .u64 x] (.int .u64 r) := by
  intro n
  go_enter Try.func89, Try.ntmps89
  go_wp2_with (go_at_call 76; with_reducible refine AnsW.use HS _ fun n2 => ?_)
  go_ret
  exact ⟨rfl, _, rfl⟩
/-- Out. -/
theorem out_any {w : World} {b m g : Nat} (C : Ctx w b m g) (x : Nat) (hx : x < 18446744073709551616) :
    AnsW w 89 #[.pointer (some ⟨b, 0, none⟩), .int .u64 x] (.int .u64 ((dn x m : Nat) : Int)) := by
  have h1 := C.one
  have := shrink_any C 0 x (by omega) hx
  rw [Nat.zero_mul, Nat.zero_add] at this
  exact out_walk w b x _ this
set_option maxHeartbeats 1000000 in
theorem in_walk (w : World) (b : Nat) (a s h l r : Int) (c3 : w.cell? ⟨b, 3, none⟩ = some (.int .u64 s))
    (HM : Ans 71 #[.int .u64 a, .int .u64 s] (.tuple #[.int .u64 h, .int .u64 l]))
    (HS : AnsW w 76 #[.pointer (some ⟨b, 0, none⟩), .int .u64 h, .int .u64 l] (.int .u64 r)) :
    AnsW w 56 #[.pointer (some ⟨b, 0, none⟩), .int .u64 a] (.int .u64 r) := by
  intro n
  go_enter Try.func56, Try.ntmps56
  go_wp2_with (first | (go_at_call 76; with_reducible refine AnsW.use HS _ fun n2 => ?_) | (go_at_call 71; with_reducible refine Ans.use HM _ fun n1 => ?_))
  go_ret
  exact ⟨rfl, _, by rw [Nat.add_assoc]⟩
/-- In. -/
theorem in_any {w : World} {b m g : Nat} (C : Ctx w b m g) (a : Nat) (ha : a < 18446744073709551616) :
    AnsW w 56 #[.pointer (some ⟨b, 0, none⟩), .int .u64 a] (.int .u64 ((up a m : Nat) : Int)) := by
  have h1 := C.one
  have h2 := C.lt
  obtain ⟨s, hs⟩ : ∃ s, s = 18446744073709551616 * 18446744073709551616 % m := ⟨_, rfl⟩
  have hsl : s < m := by rw [hs]; exact Nat.mod_lt _ (by omega)
  have hh : a * s / 18446744073709551616 < m := by
    rw [Nat.div_lt_iff_lt_mul (by omega), Nat.mul_comm]
    exact Nat.lt_of_le_of_lt (Nat.mul_le_mul_left s (Nat.le_of_lt ha)) (Nat.mul_lt_mul_of_pos_right hsl (by omega))
  have e := dn_square a s m C.odd h1 hs
  have c3 := C.c3
  rw [← hs] at c3
  have HS := shrink_any C (a * s / 18446744073709551616) (a * s % 18446744073709551616) hh (Nat.mod_lt _ (by omega))
  rw [show a * s / 18446744073709551616 * 18446744073709551616 + a * s % 18446744073709551616 = a * s by omega, e] at HS
  exact in_walk w b a s _ _ _ c3 (mul64_nat a s ha (by omega)) HS
theorem rest_walk0 (w : World) (b : Nat) (a m : Int) (c0 : w.cell? ⟨b, 0, none⟩ = some (.int .u64 m)) (h : a < m) :
    AnsW w 86 #[.pointer (some ⟨b, 0, none⟩), .int .u64 a] (.int .u64 a) := by
  intro n
  go_enter Try.func86, Try.ntmps86
  go_wp2
  go_ret
  exact ⟨rfl, 0, rfl⟩
theorem rest_walk1 (w : World) (b : Nat) (a m o r : Int) (c0 : w.cell? ⟨b, 0, none⟩ = some (.int .u64 m)) (h : ¬ a < m)
    (HO : AnsW w 89 #[.pointer (some ⟨b, 0, none⟩), .int .u64 a] (.int .u64 o))
    (HI : AnsW w 56 #[.pointer (some ⟨b, 0, none⟩), .int .u64 o] (.int .u64 r)) :
    AnsW w 86 #[.pointer (some ⟨b, 0, none⟩), .int .u64 a] (.int .u64 r) := by
  intro n
  go_enter Try.func86, Try.ntmps86
  go_wp2_with (first | (go_at_call 89; with_reducible refine AnsW.use HO _ fun n1 => ?_) | (go_at_call 56; with_reducible refine AnsW.use HI _ fun n2 => ?_))
  go_ret
  exact ⟨rfl, _, by rw [Nat.add_assoc]⟩
/-- rest. -/
theorem rest_any {w : World} {b m g : Nat} (C : Ctx w b m g) (a : Nat) (ha : a < 18446744073709551616) :
    AnsW w 86 #[.pointer (some ⟨b, 0, none⟩), .int .u64 a] (.int .u64 ((a % m : Nat) : Int)) := by
  have h1 := C.one
  have h2 := C.lt
  by_cases h : a < m
  · rw [Nat.mod_eq_of_lt h]; exact rest_walk0 w b a m C.c0 (by omega)
  · have hd := dn_lt a m (by omega)
    rw [← up_dn a m C.odd h1]
    exact rest_walk1 w b a m _ _ C.c0 (by omega) (out_any C a ha) (in_any C _ (by omega))

/-! ### Mul -/
set_option maxHeartbeats 1000000 in
theorem mmul_walk (w : World) (b : Nat) (x y u h l r : Int)
    (HR : AnsW w 86 #[.pointer (some ⟨b, 0, none⟩), .int .u64 x] (.int .u64 u))
    (HM : Ans 71 #[.int .u64 u, .int .u64 y] (.tuple #[.int .u64 h, .int .u64 l]))
    (HS : AnsW w 76 #[.pointer (some ⟨b, 0, none⟩), .int .u64 h, .int .u64 l] (.int .u64 r)) :
    AnsW w 77 #[.pointer (some ⟨b, 0, none⟩), .int .u64 x, .int .u64 y] (.int .u64 r) := by
  intro n
  go_enter Try.func77, Try.ntmps77
  go_wp2_with (first | (go_at_call 86; with_reducible refine AnsW.use HR _ fun n0 => ?_) | (go_at_call 76; with_reducible refine AnsW.use HS _ fun n2 => ?_) | (go_at_call 71; with_reducible refine Ans.use HM _ fun n1 => ?_))
  go_ret
  exact ⟨rfl, _, by rw [Nat.add_assoc, Nat.add_assoc]⟩
/-- Mul. -/
theorem mmul_any {w : World} {b m g : Nat} (C : Ctx w b m g) (x y : Nat) (hx : x < 18446744073709551616) (hy : y < 18446744073709551616) :
    AnsW w 77 #[.pointer (some ⟨b, 0, none⟩), .int .u64 x, .int .u64 y] (.int .u64 ((dn (x * y) m : Nat) : Int)) := by
  have h1 := C.one
  have h2 := C.lt
  have hu := Nat.mod_lt x (show 0 < m by omega)
  have e : dn (x % m * y) m = dn (x * y) m := by rw [← dn_mod, Nat.mod_mul_mod, dn_mod]
  have HR := rest_any C x hx
  generalize x % m = u at *
  have hh : u * y / 18446744073709551616 < m := by
    rw [Nat.div_lt_iff_lt_mul (by omega)]
    exact Nat.lt_of_le_of_lt (Nat.mul_le_mul_left u (Nat.le_of_lt hy)) (Nat.mul_lt_mul_of_pos_right hu (by omega))
  have HS := shrink_any C (u * y / 18446744073709551616) (u * y % 18446744073709551616) hh (Nat.mod_lt _ (by omega))
  rw [show u * y / 18446744073709551616 * 18446744073709551616 + u * y % 18446744073709551616 = u * y by omega, e] at HS
  exact mmul_walk w b x y u _ _ _ HR (mul64_nat u y (by omega) hy) HS

/-! ### Pow -/
theorem bitLen_le64 (e : Nat) (h : e < 18446744073709551616) : Lib.bitLen e ≤ 64 := Lib.bitLen_le e 64 (by omega) (by rw [show (2 : Nat) ^ 64 = 18446744073709551616 by decide]; exact h)
theorem bitLen_aux : ∀ (f e : Nat), e < 2 ^ f → e / 2 ^ Lib.bitLenAux f e = 0
  | 0, e, h => by
      have : e = 0 := by simpa using h
      subst this; simp
  | f + 1, e, h => by
      by_cases h0 : e = 0
      · subst h0; simp
      · have ih := bitLen_aux f (e / 2) (by rw [Nat.pow_succ] at h; omega)
        have : Lib.bitLenAux (f + 1) e = 1 + Lib.bitLenAux f (e / 2) := by simp [Lib.bitLenAux, h0]
        rw [this, Nat.add_comm, Nat.pow_succ, Nat.mul_comm, ← Nat.div_div_eq_div_mul]; exact ih
theorem bitLen_zero (e : Nat) (h : e < 18446744073709551616) : e / 2 ^ Lib.bitLen e = 0 := bitLen_aux 64 e (by rw [show (2 : Nat) ^ 64 = 18446744073709551616 by decide]; exact h)
theorem div_pow_succ (e k : Nat) : e / 2 ^ (k + 1) = e / 2 ^ k / 2 := by rw [Nat.pow_succ, ← Nat.div_div_eq_div_mul]

set_option maxHeartbeats 2000000 in
/-- Pow. -/
theorem mpow_any {w : World} {b m g : Nat} (C : Ctx w b m g) (x e : Nat) (hx : x < 18446744073709551616) (he : e < 18446744073709551616) :
    AnsW w 57 #[.pointer (some ⟨b, 0, none⟩), .int .u64 x, .int .u64 e] (.int .u64 ((up (dn x m ^ e) m : Nat) : Int)) := by
  intro n
  have c2 := C.c2
  have h1 := C.one
  have h2 := C.lt
  obtain ⟨o, ho⟩ : ∃ o, 18446744073709551616 % m = o := ⟨_, rfl⟩
  have hol : o < m := ho ▸ Nat.mod_lt _ (by omega)
  have HE : Hid (18446744073709551616 % m = o) := ho
  rw [ho] at c2
  clear ho
  obtain ⟨L, hL⟩ : ∃ L, Lib.bitLen e = L := ⟨_, rfl⟩
  have HL := len64_any e he
  have hL64 := bitLen_le64 e he
  have HZ : Hid (e / 2 ^ L = 0) := hL ▸ bitLen_zero e he
  rw [hL] at HL hL64
  clear hL
  go_enter Try.func57, Try.ntmps57
  go_wp2_with (go_at_call 70; with_reducible refine Ans.use HL _ fun n0 => ?_)
  go_loopw [1, 7, 17] (fun s t k W => ∃ y p i j : Nat, s = .int .u64 y ∧ t = .int .u64 p ∧ k = .int .i64 i ∧ i ≤ L ∧ y < 18446744073709551616 ∧ p < m ∧ Hid (p * dn y m ^ (e / 2 ^ i) % m = o * dn x m ^ e % m) ∧ W = w.drewN (n + j)) (fun _ _ k _ => L - (intOf k).toNat)
  case atStart => exact ⟨x, o, 0, n0, rfl, rfl, rfl, by omega, hx, hol, by unfold Hid; rw [Nat.pow_zero, Nat.div_one], rfl⟩
  case round =>
    obtain ⟨y, p, i, j, rfl, rfl, rfl, hi, hy, hp, HI, HW⟩ := hrel
    by_cases hlt : i < L
    · obtain ⟨f, hf⟩ : ∃ f, e / 2 ^ i = f := ⟨_, rfl⟩
      have hfe : f ≤ e := hf ▸ Nat.div_le_self _ _
      have hf' : e / 2 ^ (i + 1) = f / 2 := by rw [div_pow_succ, hf]
      have hb : bits .and .u64 ((e : Int) / 2 ^ i) 1 = ((f % 2 : Nat) : Int) := by
        rw [show (e : Int) / 2 ^ i = ((e / 2 ^ i : Nat) : Int) by simp, hf, and_one f (by omega) (by omega)]; simp
      rw [hf] at HI
      have HF : Hid (e / 2 ^ (i + 1) = f / 2) := hf'
      clear hf hf'
      obtain ⟨c, hc⟩ : ∃ c, dn (y * y) m = c := ⟨_, rfl⟩
      have HQ := mmul_any C y y hy hy
      rw [hc] at HQ
      have hcl : c < m := hc ▸ dn_lt _ _ (by omega)
      by_cases hbit : f % 2 = 1
      · obtain ⟨q, hq⟩ : ∃ q, dn (p * y) m = q := ⟨_, rfl⟩
        have HM := mmul_any C p y (by omega) hy
        have HS := mpow_odd p y f m hbit
        rw [hq, hc] at HS
        replace HS : Hid (q * dn c m ^ (e / 2 ^ (i + 1)) % m = o * dn x m ^ e % m) := by
          unfold Hid; rw [HF.out]; exact HS.trans HI.out
        rw [hq] at HM
        have hql : q < m := hq ▸ dn_lt _ _ (by omega)
        rw [hbit] at hb
        clear hq hc HI HF
        go_wp2_with (first | (go_at_call 77; with_reducible refine AnsW.use HM _ fun n1 => ?_) | (go_at_call 77; with_reducible refine AnsW.use HQ _ fun n2 => ?_))
        go_roundw
        case rel => exact ⟨c, q, i + 1, j + n1 + n2, rfl, rfl, by go_num, by omega, by omega, hql, HS, World.drewN_congr _ (by omega)⟩
        case measure => simp [intOf]; omega
      · have HS := mpow_even p y f m hbit
        rw [hc] at HS
        replace HS : Hid (p * dn c m ^ (e / 2 ^ (i + 1)) % m = o * dn x m ^ e % m) := by
          unfold Hid; rw [HF.out]; exact HS.trans HI.out
        rw [show f % 2 = 0 by omega] at hb
        clear hc HI HF
        go_wp2_with (go_at_call 77; with_reducible refine AnsW.use HQ _ fun n2 => ?_)
        go_roundw
        case rel => exact ⟨c, p, i + 1, j + n2, rfl, rfl, by go_num, by omega, by omega, hp, HS, World.drewN_congr _ (by omega)⟩
        case measure => simp [intOf]; omega
    · obtain rfl : i = L := by omega
      have HP : Hid (p = up (dn x m ^ e) m) := by
        have h := HI.out
        rw [HZ.out, Nat.pow_zero, Nat.mul_one, Nat.mod_eq_of_lt hp] at h
        unfold Hid up
        rw [h, ← HE.out, Nat.mod_mul_mod, Nat.mul_comm]
      clear HI
      go_wp2
      go_ret
      exact ⟨ret_int (by rw [HP.out]), j, rfl⟩

/-! ### New -/
/-- The moduli that can be. -/
def Gd (m : Nat) : Prop := m % 2 = 1 ∧ 1 < m ∧ m < 9223372036854775808
set_option maxHeartbeats 1000000 in
theorem new_walk (w : World) (m g o s : Int) (h3 : 3 ≤ m) (h : (m % 2 == 0) = false) (h2 : m < 9223372036854775808)
    (HO : Ans 52 #[.int .u64 1, .int .u64 m, .int .i64 64] (.int .u64 o))
    (HG : Ans 53 #[.int .u64 m] (.int .u64 g))
    (HS : Ans 52 #[.int .u64 o, .int .u64 m, .int .i64 64] (.int .u64 s)) :
    Calls Try.prog 43 #[.int .u64 m] w fun e w' => e = .returned (.tuple #[.pointer (some ⟨w.heap.size, 0, none⟩), .int .i64 0]) ∧ ∃ n, w' = (w.drewN n).alloc (Obj.cells #[.int .u64 m, .int .u64 g, .int .u64 o, .int .u64 s] 84) := by
  go_enter Try.func43, Try.ntmps43
  go_wp2_with (first | (go_at_call 52; with_reducible refine Ans.use HO _ fun n1 => ?_) | (go_at_call 53; with_reducible refine Ans.use HG _ fun n2 => ?_) | (go_at_call 52; with_reducible refine Ans.use HS _ fun n3 => ?_))
  go_ret2
  exact ⟨rfl, _, rfl⟩

/-- A new context: a place where it lies; nothing old has turned. -/
def NewAns (x : Int) (m : Nat) : Prop := ∀ w, Calls Try.prog 43 #[.int .u64 x] w fun e w' => ∃ b g, e = .returned (.tuple #[.pointer (some ⟨b, 0, none⟩), .int .i64 0]) ∧ Ctx w' b m g ∧ ∀ w0, Grown w0 w → Grown w0 w'
theorem NewAns.use {x : Int} {m : Nat} (h : NewAns x m) (w : World) {R : Ending → World → Prop} (k : ∀ (b g : Nat) (W : World), Ctx W b m g → (∀ w0, Grown w0 w → Grown w0 W) → R (.returned (.tuple #[.pointer (some ⟨b, 0, none⟩), .int .i64 0])) W) : Calls Try.prog 43 #[.int .u64 x] w R :=
  (h w).mono fun _ _ ⟨b, g, he, hc, hg⟩ => by subst he; exact k b g _ hc hg

theorem alloc4 (w : World) (n : Nat) (a b c d : Value) (t : TypeId) :
    ((w.drewN n).alloc (Obj.cells #[a, b, c, d] t)).cell? ⟨w.heap.size, 0, none⟩ = some a ∧ ((w.drewN n).alloc (Obj.cells #[a, b, c, d] t)).cell? ⟨w.heap.size, 1, none⟩ = some b ∧ ((w.drewN n).alloc (Obj.cells #[a, b, c, d] t)).cell? ⟨w.heap.size, 2, none⟩ = some c ∧ ((w.drewN n).alloc (Obj.cells #[a, b, c, d] t)).cell? ⟨w.heap.size, 3, none⟩ = some d := by
  refine ⟨?_, ?_, ?_, ?_⟩ <;> simp [World.cell?, World.alloc, go_sem]
theorem new_any (m : Nat) (h : Gd m) : NewAns m m := by
  intro w
  obtain ⟨h1, h2, h3⟩ := h
  obtain ⟨g, hg, hgg, HG⟩ := against_any m (by omega) h1
  have HO := doubled_any 1 m 64 (by omega) h3 (by omega)
  rw [Nat.one_mul, show (2 : Nat) ^ 64 = 18446744073709551616 by decide] at HO
  have hol := Nat.mod_lt 18446744073709551616 (show 0 < m by omega)
  have HS := doubled_any (18446744073709551616 % m) m 64 hol h3 (by omega)
  rw [show (2 : Nat) ^ 64 = 18446744073709551616 by decide, Nat.mod_mul_mod] at HS
  refine (new_walk w m g _ _ (by omega) (by simp; omega) (by omega) HO HG HS).mono ?_
  rintro e w' ⟨rfl, n, rfl⟩
  obtain ⟨k0, k1, k2, k3⟩ := alloc4 w n (.int .u64 m) (.int .u64 g) (.int .u64 ((18446744073709551616 % m : Nat) : Int)) (.int .u64 ((18446744073709551616 * 18446744073709551616 % m : Nat) : Int)) 84
  refine ⟨w.heap.size, g, rfl, ⟨h1, h2, h3, hg, hgg, k0, k1, k2, k3⟩, fun w0 hw => ?_⟩
  exact Grown.alloc (w' := w.drewN n) hw _ _
theorem new_no (m : Int) (h0 : 0 ≤ m) (h3 : m < 18446744073709551616) (h : m < 3 ∨ (3 ≤ m ∧ (m % 2 == 0) = true) ∨ (3 ≤ m ∧ (m % 2 == 0) = false ∧ 9223372036854775808 ≤ m)) : Ans 43 #[.int .u64 m] (.tuple #[.pointer none, .int .i64 1]) := by
  intro w
  rcases h with h | ⟨h, h'⟩ | ⟨h, h', h''⟩
  all_goals
    go_enter Try.func43, Try.ntmps43
    go_wp2
    go_ret2
    exact ⟨rfl, 0, rfl⟩
theorem new_bad (m : Nat) (hm : m < 18446744073709551616) (h : ¬ Gd m) : Ans 43 #[.int .u64 m] (.tuple #[.pointer none, .int .i64 1]) := by
  unfold Gd at h
  refine new_no m (by omega) (by omega) ?_
  by_cases a : (m : Int) < 3
  · exact Or.inl a
  · by_cases b : m % 2 = 0
    · exact Or.inr (Or.inl ⟨by omega, by simp; omega⟩)
    · exact Or.inr (Or.inr ⟨by omega, by simp; omega, by omega⟩)
end Go.Proofs.Ytafmmkhegkceiaa

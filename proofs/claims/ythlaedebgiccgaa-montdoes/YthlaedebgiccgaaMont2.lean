/-
  Contracts of a context's calls: what they answer of every number, in a world that holds the context; of a nil one 0.
-/
import Derived.Test.YthlaedebgiccgaaMont1
import Derived.Test.YthlaedebgiccgaaNumP
namespace Go.Proofs.Ythlaedebgiccgaa
set_option linter.unusedVariables false
open Go.RowKit

/-- The context of m lies there: m, what makes -1 with it, the rests of 2^64 and of its square. -/
structure Ctx (w : World) (b : Nat) (m g : Nat) : Prop where
  odd : m % 2 = 1
  one : 1 < m
  lt : m < 9223372036854775808
  gl : g < 18446744073709551616
  gg : (m * g + 1) % 18446744073709551616 = 0
  c0 : w.cell? ⟨b, 0, none⟩ = some (.int .u64 m)
  c1 : w.cell? ⟨b, 1, none⟩ = some (.int .u64 g)
  c2 : w.cell? ⟨b, 2, none⟩ = some (.int .u64 ((18446744073709551616 % m : Nat) : Int))
  c3 : w.cell? ⟨b, 3, none⟩ = some (.int .u64 ((18446744073709551616 * 18446744073709551616 % m : Nat) : Int))

/-! ### What a context's fields are -/
theorem modulus_walk (w : World) (b : Nat) (m : Int) (c0 : w.cell? ⟨b, 0, none⟩ = some (.int .u64 m)) : AnsW w 11 #[.pointer (some ⟨b, 0, none⟩)] (.int .u64 m) := by
  intro n
  go_enter Try.func11, Try.ntmps11
  go_wp2
  go_ret
  exact ⟨rfl, 0, rfl⟩
theorem one_walk (w : World) (b : Nat) (o : Int) (c2 : w.cell? ⟨b, 2, none⟩ = some (.int .u64 o)) : AnsW w 12 #[.pointer (some ⟨b, 0, none⟩)] (.int .u64 o) := by
  intro n
  go_enter Try.func12, Try.ntmps12
  go_wp2
  go_ret
  exact ⟨rfl, 0, rfl⟩

/-! ### shrink -/
set_option maxHeartbeats 1000000 in
theorem shrink_walk (w : World) (b : Nat) (m g h l q a c s k t r : Int) (c0 : w.cell? ⟨b, 0, none⟩ = some (.int .u64 m)) (c1 : w.cell? ⟨b, 1, none⟩ = some (.int .u64 g))
    (hq : IntKind.u64.wrap (l * g) = q)
    (HM : Ans 29 #[.int .u64 q, .int .u64 m] (.tuple #[.int .u64 a, .int .u64 c]))
    (HA : ∀ w, (callFunc 34 #[.int .u64 l, .int .u64 c, .int .u64 0]).run Try.prog w = .ok (.value (.tuple #[.int .u64 s, .int .u64 k])) w)
    (ht : IntKind.u64.wrap (IntKind.u64.wrap (h + a) + k) = t)
    (HO : Ans 31 #[.int .u64 t, .int .u64 m] (.int .u64 r)) :
    AnsW w 28 #[.pointer (some ⟨b, 0, none⟩), .int .u64 h, .int .u64 l] (.int .u64 r) := by
  intro n
  go_enter Try.func28, Try.ntmps28
  go_wp2
  go_quiet ((go_at_call 29; with_reducible exact Ans.quiet HM))
  go_wp2_with (go_at_call 31; with_reducible refine Ans.use HO _ fun n2 => ?_)
  go_ret
  exact ⟨rfl, _, by rw [Nat.add_assoc]⟩
theorem wrap_small (x : Int) (h0 : 0 ≤ x) (h1 : x < 18446744073709551616) : IntKind.u64.wrap x = x := by rw [IntKind.wrap_u64]; omega
theorem wrap_nat (x : Nat) : IntKind.u64.wrap (x : Int) = ((x % 18446744073709551616 : Nat) : Int) := by rw [IntKind.wrap_u64]; omega
theorem mul_cut_lt (x m R : Nat) (hx : x < R) (hm : m ≤ R) (h0 : 0 < R) (hm0 : 0 < m) : x * m / R < m := by
  rw [Nat.div_lt_iff_lt_mul h0, Nat.mul_comm m]; exact Nat.mul_lt_mul_of_pos_right hx hm0
/-- shrink: the rest by 2^64. -/
theorem shrink_any {w : World} {b m g : Nat} (C : Ctx w b m g) (h l : Nat) (hh : h < m) (hl : l < 18446744073709551616) :
    AnsW w 28 #[.pointer (some ⟨b, 0, none⟩), .int .u64 h, .int .u64 l] (.int .u64 ((dn (h * 18446744073709551616 + l) m : Nat) : Int)) := by
  have h1 := C.one
  have h2 := C.lt
  have hql : l * g % 18446744073709551616 < 18446744073709551616 := Nat.mod_lt _ (by omega)
  obtain ⟨q, hq⟩ : ∃ q, q = l * g % 18446744073709551616 := ⟨_, rfl⟩
  rw [← hq] at hql
  have hq' : IntKind.u64.wrap ((l : Int) * g) = q := by rw [← Int.natCast_mul, wrap_nat, hq]
  have ha := mul_cut_lt q m 18446744073709551616 hql (by omega) (by omega) (by omega)
  have hab : q * m / 18446744073709551616 * 18446744073709551616 + q * m % 18446744073709551616 = q * m := by omega
  have hb : q * m % 18446744073709551616 < 18446744073709551616 := Nat.mod_lt _ (by omega)
  have HM := mul64_nat q m hql (by omega)
  generalize q * m / 18446744073709551616 = a at *
  generalize q * m % 18446744073709551616 = c at *
  have HA := add64n l c 0 (by omega)
  have hs : (l + c + 0) % 18446744073709551616 < 18446744073709551616 := Nat.mod_lt _ (by omega)
  have hsk : (l + c + 0) % 18446744073709551616 + 18446744073709551616 * ((l + c + 0) / 18446744073709551616) = l + c := by omega
  generalize (l + c + 0) % 18446744073709551616 = s at *
  generalize (l + c + 0) / 18446744073709551616 = k at *
  obtain ⟨hlt, e⟩ := shrink_math m g h l q a c s k C.odd h1 C.gg hh hl hq hab hb hs hsk
  have HO := once_if (h + a + k) m (by omega) (by omega)
  rw [e] at HO
  refine shrink_walk w b m g h l q a c s k ((h + a + k : Nat) : Int) _ C.c0 C.c1 hq' HM HA ?_ HO
  rw [wrap_small ((h : Int) + a) (by omega) (by omega), wrap_small _ (by omega) (by omega)]; omega

/-! ### Out, In, rest -/
theorem out_walk (w : World) (b : Nat) (x r : Int) (HS : AnsW w 28 #[.pointer (some ⟨b, 0, none⟩), .int .u64 0, .int .u64 x] (.int .u64 r)) :
    AnsW w 15 #[.pointer (some ⟨b, 0, none⟩), .int .u64 x] (.int .u64 r) := by
  intro n
  go_enter Try.func15, Try.ntmps15
  go_wp2_with (go_at_call 28; with_reducible refine AnsW.use HS _ fun n2 => ?_)
  go_ret
  exact ⟨rfl, _, rfl⟩
/-- Out. -/
theorem out_any {w : World} {b m g : Nat} (C : Ctx w b m g) (x : Nat) (hx : x < 18446744073709551616) :
    AnsW w 15 #[.pointer (some ⟨b, 0, none⟩), .int .u64 x] (.int .u64 ((dn x m : Nat) : Int)) := by
  have h1 := C.one
  have := shrink_any C 0 x (by omega) hx
  rw [Nat.zero_mul, Nat.zero_add] at this
  exact out_walk w b x _ this
set_option maxHeartbeats 1000000 in
theorem in_walk (w : World) (b : Nat) (a s h l r : Int) (c3 : w.cell? ⟨b, 3, none⟩ = some (.int .u64 s))
    (HM : Ans 29 #[.int .u64 a, .int .u64 s] (.tuple #[.int .u64 h, .int .u64 l]))
    (HS : AnsW w 28 #[.pointer (some ⟨b, 0, none⟩), .int .u64 h, .int .u64 l] (.int .u64 r)) :
    AnsW w 14 #[.pointer (some ⟨b, 0, none⟩), .int .u64 a] (.int .u64 r) := by
  intro n
  go_enter Try.func14, Try.ntmps14
  go_wp2_with (first | (go_at_call 28; with_reducible refine AnsW.use HS _ fun n2 => ?_) | (go_at_call 29; with_reducible refine Ans.use HM _ fun n1 => ?_))
  go_ret
  exact ⟨rfl, _, by rw [Nat.add_assoc]⟩
/-- In. -/
theorem in_any {w : World} {b m g : Nat} (C : Ctx w b m g) (a : Nat) (ha : a < 18446744073709551616) :
    AnsW w 14 #[.pointer (some ⟨b, 0, none⟩), .int .u64 a] (.int .u64 ((up a m : Nat) : Int)) := by
  have h1 := C.one
  have h2 := C.lt
  obtain ⟨s, hs⟩ : ∃ s, s = 18446744073709551616 * 18446744073709551616 % m := ⟨_, rfl⟩
  have hsl : s < m := by rw [hs]; exact Nat.mod_lt _ (by omega)
  have hh : a * s / 18446744073709551616 < m := by
    rw [Nat.div_lt_iff_lt_mul (by omega), Nat.mul_comm]
    exact Nat.lt_of_le_of_lt (Nat.mul_le_mul_left s (Nat.le_of_lt ha)) (Nat.mul_lt_mul_of_pos_right hsl (by omega))
  have e := dn_square a s m C.odd h1 hs
  have c3 := C.c3
  rw [← hs] at c3
  have HS := shrink_any C (a * s / 18446744073709551616) (a * s % 18446744073709551616) hh (Nat.mod_lt _ (by omega))
  rw [show a * s / 18446744073709551616 * 18446744073709551616 + a * s % 18446744073709551616 = a * s by omega, e] at HS
  exact in_walk w b a s _ _ _ c3 (mul64_nat a s ha (by omega)) HS
theorem rest_walk0 (w : World) (b : Nat) (a m : Int) (c0 : w.cell? ⟨b, 0, none⟩ = some (.int .u64 m)) (h : a < m) :
    AnsW w 30 #[.pointer (some ⟨b, 0, none⟩), .int .u64 a] (.int .u64 a) := by
  intro n
  go_enter Try.func30, Try.ntmps30
  go_wp2
  go_ret
  exact ⟨rfl, 0, rfl⟩
theorem rest_walk1 (w : World) (b : Nat) (a m o r : Int) (c0 : w.cell? ⟨b, 0, none⟩ = some (.int .u64 m)) (h : ¬ a < m)
    (HO : AnsW w 15 #[.pointer (some ⟨b, 0, none⟩), .int .u64 a] (.int .u64 o))
    (HI : AnsW w 14 #[.pointer (some ⟨b, 0, none⟩), .int .u64 o] (.int .u64 r)) :
    AnsW w 30 #[.pointer (some ⟨b, 0, none⟩), .int .u64 a] (.int .u64 r) := by
  intro n
  go_enter Try.func30, Try.ntmps30
  go_wp2_with (first | (go_at_call 15; with_reducible refine AnsW.use HO _ fun n1 => ?_) | (go_at_call 14; with_reducible refine AnsW.use HI _ fun n2 => ?_))
  go_ret
  exact ⟨rfl, _, by rw [Nat.add_assoc]⟩
/-- rest. -/
theorem rest_any {w : World} {b m g : Nat} (C : Ctx w b m g) (a : Nat) (ha : a < 18446744073709551616) :
    AnsW w 30 #[.pointer (some ⟨b, 0, none⟩), .int .u64 a] (.int .u64 ((a % m : Nat) : Int)) := by
  have h1 := C.one
  have h2 := C.lt
  by_cases h : a < m
  · rw [Nat.mod_eq_of_lt h]; exact rest_walk0 w b a m C.c0 (by omega)
  · have hd := dn_lt a m (by omega)
    rw [← up_dn a m C.odd h1]
    exact rest_walk1 w b a m _ _ C.c0 (by omega) (out_any C a ha) (in_any C _ (by omega))

/-! ### Mul -/
set_option maxHeartbeats 1000000 in
theorem mmul_walk (w : World) (b : Nat) (x y u h l r : Int)
    (HR : AnsW w 30 #[.pointer (some ⟨b, 0, none⟩), .int .u64 x] (.int .u64 u))
    (HM : Ans 29 #[.int .u64 u, .int .u64 y] (.tuple #[.int .u64 h, .int .u64 l]))
    (HS : AnsW w 28 #[.pointer (some ⟨b, 0, none⟩), .int .u64 h, .int .u64 l] (.int .u64 r)) :
    AnsW w 13 #[.pointer (some ⟨b, 0, none⟩), .int .u64 x, .int .u64 y] (.int .u64 r) := by
  intro n
  go_enter Try.func13, Try.ntmps13
  go_wp2_with (first | (go_at_call 30; with_reducible refine AnsW.use HR _ fun n0 => ?_) | (go_at_call 28; with_reducible refine AnsW.use HS _ fun n2 => ?_) | (go_at_call 29; with_reducible refine Ans.use HM _ fun n1 => ?_))
  go_ret
  exact ⟨rfl, _, by rw [Nat.add_assoc, Nat.add_assoc]⟩
/-- Mul. -/
theorem mmul_any {w : World} {b m g : Nat} (C : Ctx w b m g) (x y : Nat) (hx : x < 18446744073709551616) (hy : y < 18446744073709551616) :
    AnsW w 13 #[.pointer (some ⟨b, 0, none⟩), .int .u64 x, .int .u64 y] (.int .u64 ((dn (x * y) m : Nat) : Int)) := by
  have h1 := C.one
  have h2 := C.lt
  have hu := Nat.mod_lt x (show 0 < m by omega)
  have e : dn (x % m * y) m = dn (x * y) m := by rw [← dn_mod, Nat.mod_mul_mod, dn_mod]
  have HR := rest_any C x hx
  generalize x % m = u at *
  have hh : u * y / 18446744073709551616 < m := by
    rw [Nat.div_lt_iff_lt_mul (by omega)]
    exact Nat.lt_of_le_of_lt (Nat.mul_le_mul_left u (Nat.le_of_lt hy)) (Nat.mul_lt_mul_of_pos_right hu (by omega))
  have HS := shrink_any C (u * y / 18446744073709551616) (u * y % 18446744073709551616) hh (Nat.mod_lt _ (by omega))
  rw [show u * y / 18446744073709551616 * 18446744073709551616 + u * y % 18446744073709551616 = u * y by omega, e] at HS
  exact mmul_walk w b x y u _ _ _ HR (mul64_nat u y (by omega) hy) HS

/-! ### Add, Neg, Sub -/
set_option maxHeartbeats 1000000 in
theorem madd_walk (w : World) (b : Nat) (x y m u v r : Int) (c0 : w.cell? ⟨b, 0, none⟩ = some (.int .u64 m)) (u0 : 0 ≤ u) (u1 : u < 9223372036854775808) (v0 : 0 ≤ v) (v1 : v < 9223372036854775808)
    (HR : AnsW w 30 #[.pointer (some ⟨b, 0, none⟩), .int .u64 x] (.int .u64 u))
    (HT : AnsW w 30 #[.pointer (some ⟨b, 0, none⟩), .int .u64 y] (.int .u64 v))
    (HO : Ans 31 #[.int .u64 (u + v), .int .u64 m] (.int .u64 r)) :
    AnsW w 16 #[.pointer (some ⟨b, 0, none⟩), .int .u64 x, .int .u64 y] (.int .u64 r) := by
  intro n
  go_enter Try.func16, Try.ntmps16
  go_wp2
  go_quiet ((first | (go_at_call 30; with_reducible exact AnsW.quiet HR) | (go_at_call 30; with_reducible exact AnsW.quiet HT) | (go_at_call 31; with_reducible exact Ans.quiet HO)))
  go_wp2
  go_ret
  exact ⟨rfl, _, by rw [World.drewN_drewN]⟩
/-- Add. -/
theorem madd_any {w : World} {b m g : Nat} (C : Ctx w b m g) (x y : Nat) (hx : x < 18446744073709551616) (hy : y < 18446744073709551616) :
    AnsW w 16 #[.pointer (some ⟨b, 0, none⟩), .int .u64 x, .int .u64 y] (.int .u64 (((x + y) % m : Nat) : Int)) := by
  have h1 := C.one
  have h2 := C.lt
  have hu := Nat.mod_lt x (show 0 < m by omega)
  have hv := Nat.mod_lt y (show 0 < m by omega)
  have e : (x % m + y % m) % m = (x + y) % m := by rw [← Nat.add_mod]
  have HO := once_any (x % m + y % m) m (by omega) (by omega) (by omega)
  rw [e, Int.natCast_add] at HO
  exact madd_walk w b x y m _ _ _ C.c0 (by omega) (by omega) (by omega) (by omega) (rest_any C x hx) (rest_any C y hy) HO
set_option maxHeartbeats 1000000 in
theorem mneg_walk (w : World) (b : Nat) (x m u r : Int) (c0 : w.cell? ⟨b, 0, none⟩ = some (.int .u64 m)) (u0 : 0 ≤ u) (u1 : u < m) (m1 : m < 9223372036854775808)
    (HR : AnsW w 30 #[.pointer (some ⟨b, 0, none⟩), .int .u64 x] (.int .u64 u))
    (HO : Ans 31 #[.int .u64 (m - u), .int .u64 m] (.int .u64 r)) :
    AnsW w 18 #[.pointer (some ⟨b, 0, none⟩), .int .u64 x] (.int .u64 r) := by
  intro n
  go_enter Try.func18, Try.ntmps18
  go_wp2
  go_quiet ((first | (go_at_call 30; with_reducible exact AnsW.quiet HR) | (go_at_call 31; with_reducible exact Ans.quiet HO)))
  go_wp2
  go_ret
  exact ⟨rfl, _, by rw [World.drewN_drewN]⟩
/-- Neg. -/
theorem mneg_any {w : World} {b m g : Nat} (C : Ctx w b m g) (x : Nat) (hx : x < 18446744073709551616) :
    AnsW w 18 #[.pointer (some ⟨b, 0, none⟩), .int .u64 x] (.int .u64 ((negN x m : Nat) : Int)) := by
  have h1 := C.one
  have h2 := C.lt
  have hu := Nat.mod_lt x (show 0 < m by omega)
  have HO := once_any (m - x % m) m (by omega) (by omega) (by omega)
  rw [show ((m - x % m : Nat) : Int) = (m : Int) - (x % m : Nat) by omega] at HO
  exact mneg_walk w b x m _ _ C.c0 (by omega) (by omega) (by omega) (rest_any C x hx) HO
theorem msub_walk (w : World) (p : Value) (x y u r : Int)
    (HN : AnsW w 18 #[p, .int .u64 y] (.int .u64 u))
    (HA : AnsW w 16 #[p, .int .u64 x, .int .u64 u] (.int .u64 r)) :
    AnsW w 17 #[p, .int .u64 x, .int .u64 y] (.int .u64 r) := by
  intro n
  go_enter Try.func17, Try.ntmps17
  go_wp2_with (first | (go_at_call 18; with_reducible refine AnsW.use HN _ fun n1 => ?_) | (go_at_call 16; with_reducible refine AnsW.use HA _ fun n2 => ?_))
  go_ret
  exact ⟨rfl, _, by rw [Nat.add_assoc]⟩
/-- Sub. -/
theorem msub_any {w : World} {b m g : Nat} (C : Ctx w b m g) (x y : Nat) (hx : x < 18446744073709551616) (hy : y < 18446744073709551616) :
    AnsW w 17 #[.pointer (some ⟨b, 0, none⟩), .int .u64 x, .int .u64 y] (.int .u64 (((x + negN y m) % m : Nat) : Int)) := by
  have h1 := C.one
  have h2 := C.lt
  have := negN_lt y m (by omega)
  exact msub_walk w _ x y _ _ (mneg_any C y hy) (madd_any C x _ hx (by omega))
end Go.Proofs.Ythlaedebgiccgaa

/-
  Contracts of package limbs' sums and differences, of Of, Int and Neg: the walks. No condition but that limbs are words.
-/
import Derived.Test.YtlgadaojekcjeaaDoorProg
import Derived.WalkKit
import Derived.WalkSpells
import Derived.WalkLawsBesides
import Derived.Shelf.Spec.BitsCarry
import Derived.Deep.RegionHeld3
namespace Go.Proofs.YtlgadaojekcjeaaDoor
open Go.RowKit Go.Shelf

/-- A word. -/
def Wd (x : Int) : Prop := 0 ≤ x ∧ x < 18446744073709551616
/-- What three words are together. -/
def val (a b c : Int) : Int := a + 18446744073709551616 * b + 340282366920938463463374607431768211456 * c

theorem bcell {W w1 : World} (hb : Below W.heap.size W w1) : (∀ b o, b < W.heap.size → w1.cell? ⟨b, o, none⟩ = W.cell? ⟨b, o, none⟩) ∧ (∀ b o, b < W.heap.size → w1.frozen? ⟨b, o, none⟩ = W.frozen? ⟨b, o, none⟩) :=
  ⟨fun b o h => hb.cell (p := ⟨b, o, none⟩) h, fun b o h => hb.frozen (p := ⟨b, o, none⟩) h⟩

theorem add64n (x y c : Nat) (hc : c ≤ 1) (w : World) :
    (callFunc 34 #[.int .u64 x, .int .u64 y, .int .u64 c]).run Tryd.prog w =
      .ok (.value (.tuple #[.int .u64 (((x + y + c) % 18446744073709551616 : Nat) : Int), .int .u64 (((x + y + c) / 18446744073709551616 : Nat) : Int)])) w := by
  rw [run_callFunc_extern Tryd.func34 (by kernel_rfl) (by kernel_rfl) (by kernel_rfl) (e := add64Entry) (by kernel_rfl), run_add64 x y c (by omega) (by omega) (by omega) (by omega)]
  simp only [Result.andThen]
  congr 5 <;> omega

theorem sub64n (x y b : Nat) (hb : b ≤ 1) (w : World) :
    (callFunc 35 #[.int .u64 x, .int .u64 y, .int .u64 b]).run Tryd.prog w =
      .ok (.value (.tuple #[.int .u64 (((x + 18446744073709551616 - y - b) % 18446744073709551616 : Nat) : Int), .int .u64 ((if x < y + b then 1 else 0 : Nat) : Int)])) w := by
  rw [run_callFunc_extern Tryd.func35 (by kernel_rfl) (by kernel_rfl) (by kernel_rfl) (e := sub64Entry) (by kernel_rfl), run_sub64 x y b hb]
  rfl

theorem part22 (xs : Array Value) (i : Nat) (v : Value) (h : xs[i]? = some v) (w : World) : (part 22 xs i).run Tryd.prog w = .ok v w := by
  simp [part, isAgg, run_underlying Tryd.underlying22, h]
theorem size22 (w : World) : (sizeOf 22).run Tryd.prog w = .ok 1 w := by kernel_rfl
theorem eq3d (d : Nat) (a0 a1 a2 b0 b1 b2 : Int) (t : TypeId) (ht : Tryd.prog.underlying t = some (.array 3 22)) (w : World) :
    (Op.equalIn (d + 1 + 1) t (.agg #[.int .u64 a0, .int .u64 a1, .int .u64 a2]) (.agg #[.int .u64 b0, .int .u64 b1, .int .u64 b2])).run Tryd.prog w = .ok (a0 == b0 && (a1 == b1 && a2 == b2)) w := by
  have h22 := fun (a b : Int) (w : World) => run_equalIn_int (P := Tryd.prog) w d 22 .u64 .u64 a b Tryd.underlying22
  rw [Op.equalIn]
  simp only [Sem.run_bind, run_underlying ht, Result.andThen_ok, size22]
  simp [Std.Legacy.Range.forIn_eq_forIn_range', List.range', h22, part22]
  by_cases e0 : a0 = b0 <;> by_cases e1 : a1 = b1 <;> by_cases e2 : a2 = b2 <;> simp [e0, e1, e2]
/-- Two arrays of three words are the same if their words are. -/
theorem eq24 (a0 a1 a2 b0 b1 b2 : Int) (w : World) :
    (Op.equalIn 10000 24 (.agg #[.int .u64 a0, .int .u64 a1, .int .u64 a2]) (.agg #[.int .u64 b0, .int .u64 b1, .int .u64 b2])).run Tryd.prog w = .ok (a0 == b0 && (a1 == b1 && a2 == b2)) w :=
  eq3d 9998 a0 a1 a2 b0 b1 b2 24 Tryd.underlying24 w
theorem eq23 (a0 a1 a2 b0 b1 b2 : Int) (w : World) :
    (Op.equalIn 10000 23 (.agg #[.int .u64 a0, .int .u64 a1, .int .u64 a2]) (.agg #[.int .u64 b0, .int .u64 b1, .int .u64 b2])).run Tryd.prog w = .ok (a0 == b0 && (a1 == b1 && a2 == b2)) w :=
  eq3d 9998 a0 a1 a2 b0 b1 b2 23 Tryd.underlying23 w
theorem guard24 : Tryd.prog.eqGuardType Tryd.prog.depth 24 = false := by kernel_rfl
theorem guard23 : Tryd.prog.eqGuardType Tryd.prog.depth 23 = false := by kernel_rfl

/-- bits.Add64: a word and a carry. -/
theorem add64 (x y c : Int) (hx : Wd x) (hy : Wd y) (hc : c = 0 ∨ c = 1) :
    ∃ s k : Int, Wd s ∧ (k = 0 ∨ k = 1) ∧ s + 18446744073709551616 * k = x + y + c ∧
      ∀ w, (callFunc 34 #[.int .u64 x, .int .u64 y, .int .u64 c]).run Tryd.prog w = .ok (.value (.tuple #[.int .u64 s, .int .u64 k])) w := by
  obtain ⟨hx0, hx1⟩ := hx
  obtain ⟨hy0, hy1⟩ := hy
  obtain ⟨x, rfl⟩ := Int.eq_ofNat_of_zero_le hx0
  obtain ⟨y, rfl⟩ := Int.eq_ofNat_of_zero_le hy0
  obtain ⟨c, rfl⟩ := Int.eq_ofNat_of_zero_le (show 0 ≤ c by omega)
  exact ⟨_, _, ⟨by omega, by omega⟩, by omega, by omega, fun w => add64n x y c (by omega) w⟩

/-- bits.Sub64: a word and a borrow. -/
theorem sub64 (x y c : Int) (hx : Wd x) (hy : Wd y) (hc : c = 0 ∨ c = 1) :
    ∃ s k : Int, Wd s ∧ (k = 0 ∨ k = 1) ∧ s - 18446744073709551616 * k = x - y - c ∧
      ∀ w, (callFunc 35 #[.int .u64 x, .int .u64 y, .int .u64 c]).run Tryd.prog w = .ok (.value (.tuple #[.int .u64 s, .int .u64 k])) w := by
  obtain ⟨hx0, hx1⟩ := hx
  obtain ⟨hy0, hy1⟩ := hy
  obtain ⟨x, rfl⟩ := Int.eq_ofNat_of_zero_le hx0
  obtain ⟨y, rfl⟩ := Int.eq_ofNat_of_zero_le hy0
  obtain ⟨c, rfl⟩ := Int.eq_ofNat_of_zero_le (show 0 ≤ c by omega)
  exact ⟨_, _, ⟨by omega, by omega⟩, by split <;> omega, by split <;> omega, fun w => sub64n x y c (by omega) w⟩

set_option maxHeartbeats 1000000 in
theorem add_walk (a0 a1 a2 b0 b1 b2 s0 s1 s2 c1 c2 c3 : Int) (w : World)
    (h0 : ∀ w, (callFunc 34 #[.int .u64 a0, .int .u64 b0, .int .u64 0]).run Tryd.prog w = .ok (.value (.tuple #[.int .u64 s0, .int .u64 c1])) w)
    (h1 : ∀ w, (callFunc 34 #[.int .u64 a1, .int .u64 b1, .int .u64 c1]).run Tryd.prog w = .ok (.value (.tuple #[.int .u64 s1, .int .u64 c2])) w)
    (h2 : ∀ w, (callFunc 34 #[.int .u64 a2, .int .u64 b2, .int .u64 c2]).run Tryd.prog w = .ok (.value (.tuple #[.int .u64 s2, .int .u64 c3])) w) :
    Calls Tryd.prog 13 #[.agg #[.int .u64 a0, .int .u64 a1, .int .u64 a2], .agg #[.int .u64 b0, .int .u64 b1, .int .u64 b2]] w fun e w' => e = .returned (.tuple #[.agg #[.int .u64 s0, .int .u64 s1, .int .u64 s2], .bool (c3 != 0)]) ∧ Below w.heap.size w w' := by
  go_enter Tryd.func13, Tryd.ntmps13
  go_wp2_with fail
  refine wp_loop_rounds 4 ?_
  rw [rounds_succ]
  go_wp2
  go_region
  go_wp2
  rw [rounds_succ]
  go_wp2
  go_region
  go_wp2
  rw [rounds_succ]
  go_wp2
  go_region
  go_wp2
  rw [rounds_succ]
  go_wp2
  exact bodyPost_ret (v := .tuple #[.agg #[.int .u64 s0, .int .u64 s1, .int .u64 s2], .bool (c3 != 0)]) (by simp [results, Tryd.results13, go_sem]) rfl ⟨rfl, (by repeat' (first | with_reducible exact Below.refl _ _ | with_reducible refine Below.drew ?_ | with_reducible refine below_drewN ?_ _ | with_reducible refine Below.setCell ?_ ?_ _ | with_reducible refine Below.alloc ?_ ?_ _ | omega | (simp; done) | (simp; omega)))⟩

set_option maxHeartbeats 1000000 in
theorem sub_walk (a0 a1 a2 b0 b1 b2 s0 s1 s2 c1 c2 c3 : Int) (w : World)
    (h0 : ∀ w, (callFunc 35 #[.int .u64 a0, .int .u64 b0, .int .u64 0]).run Tryd.prog w = .ok (.value (.tuple #[.int .u64 s0, .int .u64 c1])) w)
    (h1 : ∀ w, (callFunc 35 #[.int .u64 a1, .int .u64 b1, .int .u64 c1]).run Tryd.prog w = .ok (.value (.tuple #[.int .u64 s1, .int .u64 c2])) w)
    (h2 : ∀ w, (callFunc 35 #[.int .u64 a2, .int .u64 b2, .int .u64 c2]).run Tryd.prog w = .ok (.value (.tuple #[.int .u64 s2, .int .u64 c3])) w) :
    Calls Tryd.prog 14 #[.agg #[.int .u64 a0, .int .u64 a1, .int .u64 a2], .agg #[.int .u64 b0, .int .u64 b1, .int .u64 b2]] w fun e w' => e = .returned (.tuple #[.agg #[.int .u64 s0, .int .u64 s1, .int .u64 s2], .bool (c3 != 0)]) ∧ Below w.heap.size w w' := by
  go_enter Tryd.func14, Tryd.ntmps14
  go_wp2_with fail
  refine wp_loop_rounds 4 ?_
  rw [rounds_succ]
  go_wp2
  go_region
  go_wp2
  rw [rounds_succ]
  go_wp2
  go_region
  go_wp2
  rw [rounds_succ]
  go_wp2
  go_region
  go_wp2
  rw [rounds_succ]
  go_wp2
  exact bodyPost_ret (v := .tuple #[.agg #[.int .u64 s0, .int .u64 s1, .int .u64 s2], .bool (c3 != 0)]) (by simp [results, Tryd.results14, go_sem]) rfl ⟨rfl, (by repeat' (first | with_reducible exact Below.refl _ _ | with_reducible refine Below.drew ?_ | with_reducible refine below_drewN ?_ _ | with_reducible refine Below.setCell ?_ ?_ _ | with_reducible refine Below.alloc ?_ ?_ _ | omega | (simp; done) | (simp; omega)))⟩

/-- What Add answers: the sum, and whether it went round. -/
def AddR (a0 a1 a2 b0 b1 b2 s0 s1 s2 : Int) (c : Bool) : Prop :=
  Wd s0 ∧ Wd s1 ∧ Wd s2 ∧ val s0 s1 s2 + (if c then 6277101735386680763835789423207666416102355444464034512896 else 0) = val a0 a1 a2 + val b0 b1 b2
/-- What Sub answers: the difference, and whether it went round. -/
def SubR (a0 a1 a2 b0 b1 b2 s0 s1 s2 : Int) (c : Bool) : Prop :=
  Wd s0 ∧ Wd s1 ∧ Wd s2 ∧ val s0 s1 s2 - (if c then 6277101735386680763835789423207666416102355444464034512896 else 0) = val a0 a1 a2 - val b0 b1 b2

theorem add_any (a0 a1 a2 b0 b1 b2 : Int) (ha0 : Wd a0) (ha1 : Wd a1) (ha2 : Wd a2) (hb0 : Wd b0) (hb1 : Wd b1) (hb2 : Wd b2) (w : World) :
    Calls Tryd.prog 13 #[.agg #[.int .u64 a0, .int .u64 a1, .int .u64 a2], .agg #[.int .u64 b0, .int .u64 b1, .int .u64 b2]] w fun e w' => ∃ s0 s1 s2 c, e = .returned (.tuple #[.agg #[.int .u64 s0, .int .u64 s1, .int .u64 s2], .bool c]) ∧ AddR a0 a1 a2 b0 b1 b2 s0 s1 s2 c ∧ Below w.heap.size w w' := by
  obtain ⟨s0, c1, w0, k1, e0, h0⟩ := add64 a0 b0 0 ha0 hb0 (Or.inl rfl)
  obtain ⟨s1, c2, w1, k2, e1, h1⟩ := add64 a1 b1 c1 ha1 hb1 k1
  obtain ⟨s2, c3, w2, k3, e2, h2⟩ := add64 a2 b2 c2 ha2 hb2 k2
  refine (add_walk a0 a1 a2 b0 b1 b2 s0 s1 s2 c1 c2 c3 w h0 h1 h2).mono fun e w' ⟨he, hb⟩ => ⟨s0, s1, s2, _, he, ⟨w0, w1, w2, ?_⟩, hb⟩
  unfold val
  rcases k3 with rfl | rfl <;> simp <;> omega

theorem sub_any (a0 a1 a2 b0 b1 b2 : Int) (ha0 : Wd a0) (ha1 : Wd a1) (ha2 : Wd a2) (hb0 : Wd b0) (hb1 : Wd b1) (hb2 : Wd b2) (w : World) :
    Calls Tryd.prog 14 #[.agg #[.int .u64 a0, .int .u64 a1, .int .u64 a2], .agg #[.int .u64 b0, .int .u64 b1, .int .u64 b2]] w fun e w' => ∃ s0 s1 s2 c, e = .returned (.tuple #[.agg #[.int .u64 s0, .int .u64 s1, .int .u64 s2], .bool c]) ∧ SubR a0 a1 a2 b0 b1 b2 s0 s1 s2 c ∧ Below w.heap.size w w' := by
  obtain ⟨s0, c1, w0, k1, e0, h0⟩ := sub64 a0 b0 0 ha0 hb0 (Or.inl rfl)
  obtain ⟨s1, c2, w1, k2, e1, h1⟩ := sub64 a1 b1 c1 ha1 hb1 k1
  obtain ⟨s2, c3, w2, k3, e2, h2⟩ := sub64 a2 b2 c2 ha2 hb2 k2
  refine (sub_walk a0 a1 a2 b0 b1 b2 s0 s1 s2 c1 c2 c3 w h0 h1 h2).mono fun e w' ⟨he, hb⟩ => ⟨s0, s1, s2, _, he, ⟨w0, w1, w2, ?_⟩, hb⟩
  unfold val
  rcases k3 with rfl | rfl <;> simp <;> omega

theorem wd0 : Wd 0 := ⟨by omega, by omega⟩

set_option maxHeartbeats 1000000 in
/-- limbs.Neg. -/
theorem neg_any (a0 a1 a2 : Int) (ha0 : Wd a0) (ha1 : Wd a1) (ha2 : Wd a2) (w : World) :
    Calls Tryd.prog 18 #[.agg #[.int .u64 a0, .int .u64 a1, .int .u64 a2]] w fun e w' => ∃ s0 s1 s2 c, e = .returned (.agg #[.int .u64 s0, .int .u64 s1, .int .u64 s2]) ∧ SubR 0 0 0 a0 a1 a2 s0 s1 s2 c ∧ Below w.heap.size w w' := by
  go_enter Tryd.func18, Tryd.ntmps18
  go_wp2_with fail
  refine (sub_any 0 0 0 a0 a1 a2 wd0 wd0 wd0 ha0 ha1 ha2 _).mono ?_
  rintro e w1 ⟨s0, s1, s2, c, rfl, hR, hb⟩
  obtain ⟨hc, hf⟩ := bcell hb
  have hz : w.heap.size + 1 < w1.heap.size := by have := hb.size; simp at this; omega
  go_wp2
  exact bodyPost_ret (v := .agg #[.int .u64 s0, .int .u64 s1, .int .u64 s2]) (by simp [results, Tryd.results18, go_sem, hc, hz]) rfl ⟨s0, s1, s2, c, rfl, hR, (by repeat' (first | with_reducible exact Below.refl _ _ | with_reducible refine Below.drew ?_ | with_reducible refine below_drewN ?_ _ | with_reducible refine Below.setCell ?_ ?_ _ | with_reducible refine Below.alloc ?_ ?_ _ | with_reducible refine Below.trans ?_ (hb.mono ?_) | omega | (simp; done) | (simp; omega)))⟩

/-- A number with a sign. -/
def Sg (x : Int) : Prop := -9223372036854775808 ≤ x ∧ x < 9223372036854775808
/-- What Of answers: the number's lowest word, and its sign. -/
def ofLo (n : Int) : Int := IntKind.u64.wrap n
def ofSg (n : Int) : Int := IntKind.u64.wrap (n / 9223372036854775808)
theorem ofLo_eq (n : Int) : ofLo n = n % 18446744073709551616 := by
  simp [ofLo, IntKind.wrap, IntKind.signed, IntKind.bits]
theorem ofSg_eq (n : Int) (h : Sg n) : ofSg n = if n < 0 then 18446744073709551615 else 0 := by
  obtain ⟨h0, h1⟩ := h
  simp [ofSg, IntKind.wrap, IntKind.signed, IntKind.bits]
  split <;> omega
theorem ofLo_wd (n : Int) : Wd (ofLo n) := by rw [ofLo_eq]; exact ⟨by omega, by omega⟩
theorem ofSg_wd (n : Int) (h : Sg n) : Wd (ofSg n) := by rw [ofSg_eq n h]; split <;> exact ⟨by omega, by omega⟩

theorem of_any (n : Int) (w : World) :
    Calls Tryd.prog 30 #[.int .i64 n] w fun e w' => e = .returned (.agg #[.int .u64 (ofLo n), .int .u64 (ofSg n), .int .u64 (ofSg n)]) ∧ Below w.heap.size w w' := by
  unfold ofLo ofSg
  go_enter Tryd.func30, Tryd.ntmps30
  go_wp2
  exact bodyPost_ret (v := .agg #[.int .u64 (IntKind.u64.wrap n), .int .u64 (IntKind.u64.wrap (n / 9223372036854775808)), .int .u64 (IntKind.u64.wrap (n / 9223372036854775808))]) (by simp [results, Tryd.results30, go_sem]) rfl ⟨rfl, (by repeat' (first | with_reducible exact Below.refl _ _ | with_reducible refine Below.drew ?_ | with_reducible refine below_drewN ?_ _ | with_reducible refine Below.setCell ?_ ?_ _ | with_reducible refine Below.alloc ?_ ?_ _ | omega | (simp; done) | (simp; omega)))⟩

/-- What Int answers: the number with a sign, if it is one of 64 bits. -/
def intN (a0 a1 a2 : Int) : Int := if ofSg (wrap64 a0) = a1 ∧ a1 = a2 then wrap64 a0 else 0
def intB (a0 a1 a2 : Int) : Bool := decide (ofSg (wrap64 a0) = a1 ∧ a1 = a2)
theorem sg_wrap (a : Int) : Sg (wrap64 a) := by
  simp only [Sg, wrap64]
  omega
theorem ofLo_wrap (a : Int) (h : Wd a) : ofLo (wrap64 a) = a := by
  obtain ⟨h0, h1⟩ := h
  rw [ofLo_eq]
  simp only [wrap64]
  omega

attribute [local go_sem] eq24 guard24
set_option maxHeartbeats 1000000 in
theorem int_yes (a0 a1 a2 n : Int) (e0 : (ofLo n == a0) = true) (e1 : (ofSg n == a1) = true) (e2 : (ofSg n == a2) = true) (HG : Hid (wrap64 a0 = n)) (w : World) :
    Calls Tryd.prog 29 #[.agg #[.int .u64 a0, .int .u64 a1, .int .u64 a2]] w fun e w' => e = .returned (.tuple #[.int .i64 n, .bool true]) ∧ Below w.heap.size w w' := by
  go_enter Tryd.func29, Tryd.ntmps29
  go_wp2_with fail
  rw [HG.out]
  go_region_held3 (fun w' => w'.cell? ⟨w.heap.size, 0, none⟩ = some (.int .u64 a0) ∧ w'.cell? ⟨w.heap.size, 1, none⟩ = some (.int .u64 a1) ∧ w'.cell? ⟨w.heap.size, 2, none⟩ = some (.int .u64 a2)) (simp [go_sem, *])
    ((go_at_call 30; refine (of_any n _).mono ?_; rintro e w1 ⟨rfl, hb⟩; obtain ⟨hc, hf⟩ := bcell hb))
  all_goals go_wp2
  all_goals go_ret2
  all_goals exact ⟨rfl, (by repeat' (first | with_reducible exact Below.refl _ _ | with_reducible refine Below.drew ?_ | with_reducible refine below_drewN ?_ _ | with_reducible refine Below.setCell ?_ ?_ _ | with_reducible refine Below.alloc ?_ ?_ _ | with_reducible refine Below.trans ?_ (hb.mono ?_) | omega | (simp; done) | (simp; omega)))⟩
set_option maxHeartbeats 1000000 in
theorem int_no1 (a0 a1 a2 n : Int) (e0 : (ofLo n == a0) = true) (e1 : (ofSg n == a1) = false) (HG : Hid (wrap64 a0 = n)) (w : World) :
    Calls Tryd.prog 29 #[.agg #[.int .u64 a0, .int .u64 a1, .int .u64 a2]] w fun e w' => e = .returned (.tuple #[.int .i64 0, .bool false]) ∧ Below w.heap.size w w' := by
  go_enter Tryd.func29, Tryd.ntmps29
  go_wp2_with fail
  rw [HG.out]
  go_region_held3 (fun w' => w'.cell? ⟨w.heap.size, 0, none⟩ = some (.int .u64 a0) ∧ w'.cell? ⟨w.heap.size, 1, none⟩ = some (.int .u64 a1) ∧ w'.cell? ⟨w.heap.size, 2, none⟩ = some (.int .u64 a2)) (simp [go_sem, *])
    ((go_at_call 30; refine (of_any n _).mono ?_; rintro e w1 ⟨rfl, hb⟩; obtain ⟨hc, hf⟩ := bcell hb))
  all_goals go_wp2
  all_goals go_ret2
  all_goals exact ⟨rfl, (by repeat' (first | with_reducible exact Below.refl _ _ | with_reducible refine Below.drew ?_ | with_reducible refine below_drewN ?_ _ | with_reducible refine Below.setCell ?_ ?_ _ | with_reducible refine Below.alloc ?_ ?_ _ | with_reducible refine Below.trans ?_ (hb.mono ?_) | omega | (simp; done) | (simp; omega)))⟩
set_option maxHeartbeats 1000000 in
theorem int_no2 (a0 a1 a2 n : Int) (e0 : (ofLo n == a0) = true) (e1 : (ofSg n == a1) = true) (e2 : (ofSg n == a2) = false) (HG : Hid (wrap64 a0 = n)) (w : World) :
    Calls Tryd.prog 29 #[.agg #[.int .u64 a0, .int .u64 a1, .int .u64 a2]] w fun e w' => e = .returned (.tuple #[.int .i64 0, .bool false]) ∧ Below w.heap.size w w' := by
  go_enter Tryd.func29, Tryd.ntmps29
  go_wp2_with fail
  rw [HG.out]
  go_region_held3 (fun w' => w'.cell? ⟨w.heap.size, 0, none⟩ = some (.int .u64 a0) ∧ w'.cell? ⟨w.heap.size, 1, none⟩ = some (.int .u64 a1) ∧ w'.cell? ⟨w.heap.size, 2, none⟩ = some (.int .u64 a2)) (simp [go_sem, *])
    ((go_at_call 30; refine (of_any n _).mono ?_; rintro e w1 ⟨rfl, hb⟩; obtain ⟨hc, hf⟩ := bcell hb))
  all_goals go_wp2
  all_goals go_ret2
  all_goals exact ⟨rfl, (by repeat' (first | with_reducible exact Below.refl _ _ | with_reducible refine Below.drew ?_ | with_reducible refine below_drewN ?_ _ | with_reducible refine Below.setCell ?_ ?_ _ | with_reducible refine Below.alloc ?_ ?_ _ | with_reducible refine Below.trans ?_ (hb.mono ?_) | omega | (simp; done) | (simp; omega)))⟩

theorem int_any (a0 a1 a2 : Int) (ha0 : Wd a0) (w : World) :
    Calls Tryd.prog 29 #[.agg #[.int .u64 a0, .int .u64 a1, .int .u64 a2]] w fun e w' => e = .returned (.tuple #[.int .i64 (intN a0 a1 a2), .bool (intB a0 a1 a2)]) ∧ Below w.heap.size w w' := by
  have e0 : (ofLo (wrap64 a0) == a0) = true := by rw [ofLo_wrap a0 ha0]; simp
  by_cases h1 : ofSg (wrap64 a0) = a1
  · by_cases h2 : ofSg (wrap64 a0) = a2
    · have eN : intN a0 a1 a2 = wrap64 a0 := by unfold intN; rw [if_pos ⟨h1, h1.symm.trans h2⟩]
      have eB : intB a0 a1 a2 = true := decide_eq_true ⟨h1, h1.symm.trans h2⟩
      rw [eN, eB]
      exact int_yes a0 a1 a2 _ e0 (by simp [h1]) (by simp [h2]) rfl w
    · have hn : ¬ (ofSg (wrap64 a0) = a1 ∧ a1 = a2) := fun h => h2 (h.1.trans h.2)
      have eN : intN a0 a1 a2 = 0 := by unfold intN; rw [if_neg hn]
      have eB : intB a0 a1 a2 = false := decide_eq_false hn
      rw [eN, eB]
      exact int_no2 a0 a1 a2 _ e0 (by simp [h1]) (by simp [h2]) rfl w
  · have hn : ¬ (ofSg (wrap64 a0) = a1 ∧ a1 = a2) := fun h => h1 h.1
    have eN : intN a0 a1 a2 = 0 := by unfold intN; rw [if_neg hn]
    have eB : intB a0 a1 a2 = false := decide_eq_false hn
    rw [eN, eB]
    exact int_no1 a0 a1 a2 _ e0 (by simp [h1]) rfl w
end Go.Proofs.YtlgadaojekcjeaaDoor

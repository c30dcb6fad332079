/-
  What the document tells (alive) of layer 15, and what ints answers of two rows that are the same. No condition.
-/
import Derived.Test.YtpjfapibjihbbaaGreatDoorF44
import Derived.Test.YtpjfapibjihbbaaGreatDoorF43
import Derived.Test.YtpjfapibjihbbaaGreatDoorF42
namespace Go.Proofs.YtpjfapibjihbbaaGreatDoor
set_option linter.unusedVariables false
open Go.RowKit

theorem zsame_get {xs : List Int} {k : Nat} {x y : Int} (hx : xs[k]? = some x) (hy : xs[k]? = some y) : x = y := by rw [hx] at hy; exact Option.some.inj hy
set_option maxHeartbeats 1000000 in
theorem zsame_yes (W : World) (A : Option Addr) (C : Nat) (zs : List Int) (B : Option Addr) (D L : Nat) (hX : ZAt W A C zs) (hY : ZAt W B D zs) (hL : zs.length = L) : AnsB W 11 #[.slice A L C, .slice B L D] (.bool true) := by
  intro w hw
  have hlx := hX.len
  rw [hL] at hlx
  have HL : Hid (zs.length = L) := hL
  clear hL
  go_enter Tryz.func11, Tryz.ntmps11
  go_wp2
  go_loopw [13] (fun v wr => ∃ k : Nat, v = .int .i64 k ∧ k ≤ L ∧ Below w.heap.size w wr) (fun v _ => L - (intOf v).toNat)
  case atStart => exact ⟨0, rfl, by omega, Below.refl _ _⟩
  case round =>
    obtain ⟨k, rfl, hk, hB⟩ := hrel
    by_cases hlt : k < L
    · obtain ⟨x, hx⟩ : ∃ x, zs[k]? = some x := ⟨_, List.getElem?_eq_getElem (by rw [HL.out]; exact hlt)⟩
      obtain ⟨b, o, rfl, hb, c0, _⟩ := hX.get k x hx
      obtain ⟨b2, o2, rfl, hb2, d0, _⟩ := hY.get k x hx
      have hBW := hw.trans (hB.mono hw.size)
      have c0' := ((bcell hBW).1 b (o + k) hb).trans c0
      have d0' := ((bcell hBW).1 b2 (o2 + k) hb2).trans d0
      have HB : Hid (Below w.heap.size w wr) := hB
      have t1 : (x != x) = false := by simp
      clear c0 d0 hx hBW hB
      go_wp2
      go_region
      all_goals go_wp2
      all_goals go_roundw
      case rel => exact ⟨k + 1, by go_num, by omega, below_dN HB.out _⟩
      case measure => simp [intOf]; omega
    · obtain rfl : k = L := by omega
      go_wp2
      go_ret
      exact ⟨rfl, hB⟩
theorem lit_six (w : World) (a b c d e f : Nat) (ha : a ≤ 9) (hb : b ≤ 9) (hc : c ≤ 9) (hd : d ≤ 9) (he : e ≤ 9) (hf : f ≤ 9) :
    ZAt (w.alloc (.cells #[.int .i64 (a : Int), .int .i64 (b : Int), .int .i64 (c : Int), .int .i64 (d : Int), .int .i64 (e : Int), .int .i64 (f : Int)] 3)) (some ⟨w.heap.size, 0, none⟩) 6 (ints [a, b, c, d, e, f]) := by
  have h : ∀ k, (w.alloc (.cells #[.int .i64 (a : Int), .int .i64 (b : Int), .int .i64 (c : Int), .int .i64 (d : Int), .int .i64 (e : Int), .int .i64 (f : Int)] 3)).cell? ⟨w.heap.size, k, none⟩ = (#[Value.int .i64 (a : Int), .int .i64 (b : Int), .int .i64 (c : Int), .int .i64 (d : Int), .int .i64 (e : Int), .int .i64 (f : Int)] : Array Value)[k]? := fun k => by rw [World.cell?_alloc_at _ _ _ _ rfl]
  refine ⟨Nat.le_refl _, by unfold maxLen; omega, fun i x hx => ⟨w.heap.size, 0, rfl, by simp, ?_, ?_⟩⟩
  · rw [Nat.zero_add, h]
    match i, hx with
    | 0, hx => cases hx; rfl
    | 1, hx => cases hx; rfl
    | 2, hx => cases hx; rfl
    | 3, hx => cases hx; rfl
    | 4, hx => cases hx; rfl
    | 5, hx => cases hx; rfl
    | i + 6, hx => simp [ints] at hx
  · match i, hx with
    | 0, hx => cases hx; exact i64_small (by omega)
    | 1, hx => cases hx; exact i64_small (by omega)
    | 2, hx => cases hx; exact i64_small (by omega)
    | 3, hx => cases hx; exact i64_small (by omega)
    | 4, hx => cases hx; exact i64_small (by omega)
    | 5, hx => cases hx; exact i64_small (by omega)
    | i + 6, hx => simp [ints] at hx
theorem NewRow.useL {W : World} {f : FuncId} {args : Array Value} {l : List Int} {n : Nat} (h : NewRow W f args l) (hl : l.length = n) {w : World} (hw : Below W.heap.size W w) {R : Ending → World → Prop} (k : ∀ A1 C1 w', ZAt w' A1 C1 l → Below w.heap.size w w' → R (.returned (.slice A1 n C1)) w') : Calls Tryz.prog f args w R := by
  subst hl
  exact h.use hw k
set_option maxHeartbeats 1000000 in
theorem alive15_walk (W : World)
    (HI : ∀ (w : World) {R : Ending → World → Prop}, Below W.heap.size W w → (∀ A C w', ZAt w' A C (ints [0, 2, 4, 3, 5, 1]) → Below w.heap.size w w' → R (.returned (.slice A 6 C)) w') → Calls Tryz.prog 12 #[.int .i64 2, .int .i64 3] w R)
    (HO : ∀ (w : World) {R : Ending → World → Prop}, Below W.heap.size W w → (∀ A C w', ZAt w' A C (ints [0, 4, 2, 3, 1, 5]) → Below w.heap.size w w' → R (.returned (.slice A 6 C)) w') → Calls Tryz.prog 13 #[.int .i64 2, .int .i64 3] w R)
    (HV : ∀ (W : World) (A : Option Addr) (C : Nat) {R : Ending → World → Prop}, ZAt W A C (ints [0, 2, 4, 3, 5, 1]) → (∀ w', Below W.heap.size W w' → R (.returned (.bool true)) w') →
      Calls Tryz.prog 11 #[.slice A 6 C, .slice (some ⟨W.heap.size, 0, none⟩) 6 6] (W.alloc (.cells #[.int .i64 0, .int .i64 2, .int .i64 4, .int .i64 3, .int .i64 5, .int .i64 1] 3)) R)
    (HV2 : ∀ (W : World) (A : Option Addr) (C : Nat) {R : Ending → World → Prop}, ZAt W A C (ints [0, 4, 2, 3, 1, 5]) → (∀ w', Below W.heap.size W w' → R (.returned (.bool true)) w') →
      Calls Tryz.prog 11 #[.slice A 6 C, .slice (some ⟨W.heap.size, 0, none⟩) 6 6] (W.alloc (.cells #[.int .i64 0, .int .i64 4, .int .i64 2, .int .i64 3, .int .i64 1, .int .i64 5] 3)) R)
    (HF : Ans 14 #[.int .i64 6, .int .i64 2] (.bool true)) : AnsB W 5 #[] (.bool true) := by
  intro w hw
  go_enter Tryz.func5, Tryz.ntmps5
  go_wp2_with (first
    | (go_at_call 12; with_reducible refine HI _ hw fun A1 C1 w1 hZ1 hb1 => ?_; have hw1 := bb hw hb1)
    | (go_at_call 11; with_reducible refine HV _ _ _ hZ1 fun w2 hb2 => ?_; have hw2 := bb hw1 hb2)
    | (go_at_call 13; with_reducible refine HO _ hw2 fun A3 C3 w3 hZ3 hb3 => ?_; have hw3 := bb hw2 hb3)
    | (go_at_call 11; with_reducible refine HV2 _ _ _ hZ3 fun w4 hb4 => ?_; have hw4 := bb hw3 hb4)
    | (go_at_call 14; with_reducible refine Ans.use HF _ fun n5 => ?_))
  go_ret
  exact ⟨rfl, bb hb1 (bb hb2 (bb hb3 (bb hb4 (below_drewN _ _))))⟩
theorem tab23 : Tab 2 3 := ⟨by omega, by omega, by omega, by decide⟩
theorem alive15 (W : World) : AnsB W 5 #[] (.bool true) := by
  have e1 : inL 2 3 = [0, 2, 4, 3, 5, 1] := by decide
  have e2 : ouL 2 3 = [0, 4, 2, 3, 1, 5] := by decide
  refine alive15_walk W (fun w R hw k => ?_) (fun w R hw k => ?_) (fun W A C R hU k => ?_) (fun W A C R hU k => ?_) ?_
  · have h := in_yes W tab23
    rw [e1] at h
    exact NewRow.useL h rfl hw k
  · have h := out_yes W tab23
    rw [e2] at h
    exact NewRow.useL h rfl hw k
  · have hB := below_alloc W (.cells #[.int .i64 0, .int .i64 2, .int .i64 4, .int .i64 3, .int .i64 5, .int .i64 1] 3)
    exact AnsB.use (zsame_yes _ A C _ _ 6 6 (hU.below hB) (lit_six W 0 2 4 3 5 1 (by omega) (by omega) (by omega) (by omega) (by omega) (by omega)) rfl) (Below.refl _ _) fun w' hb => k w' (bb hB hb)
  · have hB := below_alloc W (.cells #[.int .i64 0, .int .i64 4, .int .i64 2, .int .i64 3, .int .i64 1, .int .i64 5] 3)
    exact AnsB.use (zsame_yes _ A C _ _ 6 6 (hU.below hB) (lit_six W 0 4 2 3 1 5 (by omega) (by omega) (by omega) (by omega) (by omega) (by omega)) rfl) (Below.refl _ _) fun w' hb => k w' (bb hB hb)
  · exact (cfit_any 6 2 (by omega)).to (by rw [show fitQ 6 2 = true by decide])
end Go.Proofs.YtpjfapibjihbbaaGreatDoor
/-
  Plain mathematics of layer 15: by rows and by columns the transform, and the inverse one, of a list whose length has two coprime parts. No condition.
-/
namespace Go.Proofs.YtpjfapibjihbbaaGreatDoor
set_option linter.unusedVariables false

theorem cpart_div {p a b : Nat} (ha : 1 ≤ a) (hb : 1 ≤ b) (hd : p % (a * b) = 0) : p / (a * b) * a = p / b := by
  obtain ⟨q, rfl⟩ := Nat.dvd_of_mod_eq_zero hd
  rw [Nat.mul_div_cancel_left q (Nat.mul_pos (by omega) (by omega)), show a * b * q = b * (q * a) by ac_rfl, Nat.mul_div_cancel_left _ (by omega)]
theorem cpart_mod {p a b : Nat} (hd : p % (a * b) = 0) : p % b = 0 := Nat.mod_eq_zero_of_dvd (Nat.dvd_trans (Nat.dvd_mul_left b a) (Nat.dvd_of_mod_eq_zero hd))
theorem cpart_exp {a b : Nat} (ha : 1 ≤ a) (hb : 1 ≤ b) : (a * b - 1) * a % (a * b) = a * (b - 1) % (a * b) := by
  obtain ⟨a, rfl⟩ : ∃ a', a = a' + 1 := ⟨a - 1, by omega⟩
  obtain ⟨b, rfl⟩ : ∃ b', b = b' + 1 := ⟨b - 1, by omega⟩
  have e : ((a + 1) * (b + 1) - 1) * (a + 1) = (a + 1) * (b + 1 - 1) + (a + 1) * (b + 1) * a := by
    have h1 : (a + 1) * (b + 1) - 1 = (a + 1) * b + a := by rw [Nat.mul_add]; omega
    rw [h1, Nat.add_sub_cancel, Nat.mul_add (a + 1) b 1, Nat.mul_one, Nat.add_mul ((a + 1) * b) a (a + 1), Nat.mul_add ((a + 1) * b) a 1, Nat.mul_one, Nat.add_mul ((a + 1) * b) (a + 1) a, Nat.mul_comm (a + 1) a]
    omega
  rw [e, Nat.add_mul_mod_self_left]
/-- The root of the rows' order, of the columns'. -/
theorem twR_part {x : En} (hF : Fld x) {a b : Nat} (ha : 1 ≤ a) (hb : 1 ≤ b) (hd : (x.p - 1) % (a * b) = 0) (i : Bool) : twR x (a * b) i ^ a % x.p = twR x b i % x.p := by
  have hr : rootN x.p x.g (a * b) ^ a % x.p = rootN x.p x.g b := by
    unfold rootN
    rw [← Nat.pow_mod, ← Nat.pow_mul, cpart_div ha hb hd]
  have ho := twR_ord hF (Nat.mul_pos (show 0 < a by omega) (show 0 < b by omega)) hd false
  cases i
  · show rootN x.p x.g (a * b) ^ a % x.p = rootN x.p x.g b % x.p
    rw [hr]; unfold rootN; rw [Nat.mod_mod]
  · show (rootN x.p x.g (a * b) ^ (a * b - 1) % x.p) ^ a % x.p = rootN x.p x.g b ^ (b - 1) % x.p % x.p
    have ho' : OrdN (rootN x.p x.g (a * b)) x.p (a * b) := ho
    rw [← Nat.pow_mod, ← Nat.pow_mul, Nat.mod_mod, ← hr, ← Nat.pow_mod, ← Nat.pow_mul, ho'.mod, cpart_exp ha hb, ← ho'.mod]
theorem invN_part (x : En) (a b : Nat) : invN x b * invN x a % x.p = invN x (a * b) % x.p := by
  unfold invN
  rw [← Nat.mul_mod, ← Nat.mul_pow, Nat.mul_comm b a, Nat.mod_mod]
theorem tS_mulr (w n c : Nat) (X : Nat → Nat) (k : Nat) : tS w n (fun j => X j * c) k = tS w n X k * c := by
  unfold tS
  rw [← sN_mulr]
  exact sN_ext fun j _ => by rw [Nat.mul_right_comm]
/-- A list by its places. -/
def mkL (n : Nat) (f : Nat → Nat) : List Nat := (List.range n).map f
theorem mkL_len (n : Nat) (f : Nat → Nat) : (mkL n f).length = n := by simp [mkL]
theorem mkL_get {n j : Nat} (f : Nat → Nat) (h : j < n) : (mkL n f)[j]? = some (f j) := by unfold mkL; rw [List.getElem?_map, List.getElem?_range h]; rfl
theorem mkL_at {n j : Nat} (f : Nat → Nat) (h : j < n) : atL (mkL n f) j = f j := atL_of (mkL_get f h)
theorem mkL_ext {n : Nat} {f g : Nat → Nat} (h : ∀ j, j < n → f j = g j) : mkL n f = mkL n g := List.map_congr_left fun j hj => h j (List.mem_range.1 hj)
theorem mkL_all {xs : List Nat} {n : Nat} (hl : xs.length = n) : mkL n (atL xs) = xs := list_ext (by rw [mkL_len, hl]) fun k hk => by rw [mkL_len] at hk; exact mkL_at _ hk
/-- Row i of the table, of the list. -/
def rowX (a b : Nat) (xs : List Nat) (i : Nat) : List Nat := mkL b fun j => atL xs (inS a b (i * b + j))
/-- Column j of the rows' transforms. -/
def colX (x : En) (v : Bool) (a b : Nat) (xs : List Nat) (j : Nat) : List Nat := mkL a fun i => dV x v (rowX a b xs i) j
/-- Rows, then columns: the transform. -/
theorem dV_parts {x : En} (hF : Fld x) {a b : Nat} {xs : List Nat} (ha : 1 ≤ a) (hb : 1 ≤ b) (hc : Nat.Coprime a b) (hl : xs.length = a * b) (hd : (x.p - 1) % (a * b) = 0) (v : Bool) (k : Nat) :
    dV x v (colX x v a b xs (k % b)) (k % a) = dV x v xs k := by
  have hb1 := twR_part hF ha hb hd v
  have ha1 : twR x (a * b) v ^ b % x.p = twR x a v % x.p := by
    have := twR_part hF hb ha (by rw [Nat.mul_comm]; exact hd) v
    rwa [Nat.mul_comm b a] at this
  have ho := twR_ord hF (Nat.mul_pos (show 0 < a by omega) (show 0 < b by omega)) hd v
  have hg := good_thomas ha hb hc ho (atL xs) k
  have hi := invN_part x a b
  have hrl : ∀ i, (rowX a b xs i).length = b := fun i => mkL_len _ _
  have hcl : ∀ j, (colX x v a b xs j).length = a := fun j => mkL_len _ _
  -- a row's transform, without the scale
  have hrow : ∀ i, i < a → tS (twR x b v) b (atL (rowX a b xs i)) (k % b) % x.p = tS (twR x (a * b) v ^ a) b (fun j => atL xs ((b * i + a * j) % (a * b))) (k % b) % x.p := fun i _ => by
    rw [tS_base hb1, tS_ext fun j hj => ?_]
    show atL (mkL b fun j => atL xs (inS a b (i * b + j))) j = _
    rw [mkL_at _ hj, inS_at hj]
  cases v
  · show (if false = true then _ else _) = (if false = true then _ else _)
    rw [if_neg (by decide), if_neg (by decide), hcl, hl, ← hg, ← tS_base ha1]
    refine tS_cong (fun i hi => ?_) _
    show atL (mkL a fun i => dV x false (rowX a b xs i) (k % b)) i % x.p = _
    rw [mkL_at _ hi, ← hrow i hi]
    show (if false = true then _ else _) % x.p = _
    rw [if_neg (by decide), hrl, Nat.mod_mod]
  · show (if true = true then _ else _) = (if true = true then _ else _)
    rw [if_pos rfl, if_pos rfl, hcl, hl]
    have e : tS (twR x a true) a (atL (colX x true a b xs (k % b))) (k % a) % x.p = tS (twR x (a * b) true) (a * b) (atL xs) k * invN x b % x.p := by
      rw [← Nat.mod_mul_mod, ← hg, Nat.mod_mul_mod, ← tS_mulr, ← tS_base ha1]
      refine tS_cong (fun i hi => ?_) _
      show atL (mkL a fun i => dV x true (rowX a b xs i) (k % b)) i % x.p = _
      rw [mkL_at _ hi, ← Nat.mod_mul_mod, ← hrow i hi]
      show (if true = true then _ else _) % x.p = _
      rw [if_pos rfl, hrl, Nat.mod_mod]
    rw [e, Nat.mod_mul_mod, Nat.mul_assoc, Nat.mul_mod, hi, ← Nat.mul_mod, Nat.mod_mul_mod]
end Go.Proofs.YtpjfapibjihbbaaGreatDoor
/-
  What coprime's check, line and pick answer. No condition but that the field, the rows and the program's four factors lie there.
-/
namespace Go.Proofs.YtpjfapibjihbbaaGreatDoor
set_option linter.unusedVariables false
open Go.RowKit

/-! ### check -/
/-- Which error a list has. -/
def ck4 (p : Nat) (xs : List Nat) (a : Int) : Int := if ckD p (xs.length : Int) 1024 ≠ 0 then ckD p (xs.length : Int) 1024 else if fitQ (xs.length : Int) a = false then 11 else if goodB p xs = false then 9 else 0
/-- A part of a number. -/
theorem fit_yes {n : Nat} {a : Int} (h : fitQ (n : Int) a = true) : ∃ i j : Nat, a = i ∧ i * j = n ∧ 2 ≤ i ∧ 2 ≤ j ∧ Nat.Coprime i j := by
  unfold fitQ at h
  simp only [Bool.and_eq_true, decide_eq_true_eq, beq_iff_eq] at h
  obtain ⟨⟨⟨h1, h2⟩, h3⟩, h4⟩ := h
  obtain ⟨i, rfl⟩ := Int.eq_ofNat_of_zero_le (show 0 ≤ a by omega)
  have hd : i ∣ n := Nat.dvd_of_mod_eq_zero (by omega)
  obtain ⟨j, rfl⟩ := hd
  rw [← Int.natCast_ediv, Int.toNat_natCast, Int.toNat_natCast, Nat.mul_div_cancel_left j (by omega)] at h4
  refine ⟨i, j, rfl, rfl, by omega, ?_, h4⟩
  rcases (show j = 0 ∨ j = 1 ∨ 2 ≤ j by omega) with e | e | e
  · subst e; rw [Nat.mul_zero] at h2; omega
  · subst e; rw [Nat.mul_one] at h2; omega
  · exact e
theorem ck4_ok {p : Nat} {xs : List Nat} {a : Int} (h : ck4 p xs a = 0) : ∃ i j : Nat, a = i ∧ i * j = xs.length ∧ 2 ≤ i ∧ 2 ≤ j ∧ Nat.Coprime i j ∧ 1 ≤ xs.length ∧ xs.length ≤ 1024 ∧ (p - 1) % xs.length = 0 ∧ (∀ y ∈ xs, y < p) ∧ ckD p (xs.length : Int) 1024 = 0 ∧ goodB p xs = true := by
  unfold ck4 at h
  by_cases h0 : ckD p (xs.length : Int) 1024 = 0
  · rw [if_neg (by omega)] at h
    obtain ⟨h1, h2, h3⟩ := ckD_ok h0
    cases hf : fitQ (xs.length : Int) a
    · rw [hf, if_pos rfl] at h; cases h
    · rw [hf, if_neg (by decide)] at h
      cases hg : goodB p xs
      · rw [hg, if_pos rfl] at h; cases h
      · obtain ⟨i, j, q1, q2, q3, q4, q5⟩ := fit_yes hf
        exact ⟨i, j, q1, q2, q3, q4, q5, h1, by omega, h3, goodB_iff.1 hg, h0, rfl⟩
  · rw [if_pos h0] at h; exact absurd h h0
theorem chc_err (w : World) (v : Option Addr) (A : Option Addr) (n C : Nat) (a : Int) (e : Int) (he : (e != 0) = true) (hlen : (n : Int) ≤ 9223372036854775807) (HC : AnsW w 43 #[.pointer v, .int .i64 (n : Int), .int .i64 1024] (.int .i64 e)) : AnsW w 20 #[.pointer v, .slice A n C, .int .i64 a] (.int .i64 e) := by
  intro n0
  go_enter Tryz.func20, Tryz.ntmps20
  go_wp2_with (go_at_call 43; with_reducible refine AnsW.use HC _ fun n1 => ?_)
  go_ret
  exact ⟨rfl, _, rfl⟩
theorem chc_kind (w : World) (v : Option Addr) (A : Option Addr) (n C : Nat) (a : Int) (hlen : (n : Int) ≤ 9223372036854775807) (HC : AnsW w 43 #[.pointer v, .int .i64 (n : Int), .int .i64 1024] (.int .i64 0)) (HF : AnsW w 14 #[.int .i64 (n : Int), .int .i64 a] (.bool false)) : AnsW w 20 #[.pointer v, .slice A n C, .int .i64 a] (.int .i64 11) := by
  intro n0
  go_enter Tryz.func20, Tryz.ntmps20
  go_wp2_with (first
    | (go_at_call 43; with_reducible refine AnsW.use HC _ fun n1 => ?_)
    | (go_at_call 14; with_reducible refine AnsW.use HF _ fun n2 => ?_))
  go_ret
  exact ⟨rfl, _, by rw [Nat.add_assoc]⟩
theorem chc_good (w : World) (v : Option Addr) (A : Option Addr) (n C : Nat) (a : Int) (g : Bool) (e : Int) (heg : e = if g then 0 else 9) (hlen : (n : Int) ≤ 9223372036854775807) (HC : AnsW w 43 #[.pointer v, .int .i64 (n : Int), .int .i64 1024] (.int .i64 0)) (HF : AnsW w 14 #[.int .i64 (n : Int), .int .i64 a] (.bool true)) (HG : AnsW w 44 #[.pointer v, .slice A n C] (.bool g)) : AnsW w 20 #[.pointer v, .slice A n C, .int .i64 a] (.int .i64 e) := by
  intro n0
  cases g
  · subst heg
    go_enter Tryz.func20, Tryz.ntmps20
    go_wp2_with (first
      | (go_at_call 43; with_reducible refine AnsW.use HC _ fun n1 => ?_)
      | (go_at_call 14; with_reducible refine AnsW.use HF _ fun n2 => ?_)
      | (go_at_call 44; with_reducible refine AnsW.use HG _ fun n3 => ?_))
    go_ret
    exact ⟨rfl, _, by rw [Nat.add_assoc, Nat.add_assoc]⟩
  · subst heg
    go_enter Tryz.func20, Tryz.ntmps20
    go_wp2_with (first
      | (go_at_call 43; with_reducible refine AnsW.use HC _ fun n1 => ?_)
      | (go_at_call 14; with_reducible refine AnsW.use HF _ fun n2 => ?_)
      | (go_at_call 44; with_reducible refine AnsW.use HG _ fun n3 => ?_))
    go_ret
    exact ⟨rfl, _, by rw [Nat.add_assoc, Nat.add_assoc]⟩
theorem chc_any {W : World} {b : Nat} {x : En} (F : FieldAt W b x) {A : Option Addr} {C : Nat} {xs : List Nat} (hU : UAt W A C xs) (a : Int) : AnsW W 20 #[pt b, .slice A xs.length C, .int .i64 a] (.int .i64 (ck4 x.p xs a)) := by
  have hlen := hU.len
  have HC := dftck_any F (xs.length : Int) 1024 (by omega)
  have HD := dftgood_any F hU
  have HF := (cfit_any (xs.length : Int) a (by omega)).toW W
  unfold ck4
  by_cases h : ckD x.p (xs.length : Int) 1024 = 0
  · rw [h] at HC
    rw [if_neg (by omega)]
    cases hf : fitQ (xs.length : Int) a
    · rw [hf] at HF
      rw [if_pos rfl]
      exact chc_kind W _ A _ C a hlen HC HF
    · rw [hf] at HF
      rw [if_neg (by decide)]
      exact chc_good W _ A _ C a (goodB x.p xs) _ (by cases goodB x.p xs <;> rfl) hlen HC HF HD
  · rw [if_pos h]
    exact chc_err W _ A _ C a _ (by simp only [bne_iff_ne, ne_eq]; exact h) hlen HC

/-! ### line -/
theorem line_small (W : World) (v : Option Addr) (A : Option Addr) (n C : Nat) (i : Bool) (rs l : List Nat) (hl : l.length = n) (h1 : 1 ≤ n) (hlen : (n : Int) ≤ 9223372036854775807) (HR : RadY W 65 (n : Int) rs) (HM : ∀ w, Below W.heap.size W w → OwnT w 66 #[.pointer v, .slice A n C, .bool i] l) : OwnR W 45 #[.pointer v, .slice A n C, .bool i] l := by
  intro w hw
  rw [hl]
  go_enter Tryz.func45, Tryz.ntmps45
  go_wp2_with (first
    | (go_at_call 65; with_reducible refine RadY.use HR hw fun R2 E2 w2 hZ2 hb2 => ?_; have HM2 := HM w2 (bb hw hb2))
    | (go_at_call 66; with_reducible refine OwnT.useG HM2 hl h1 (Below.refl _ _) fun g3 C3 w3 hO3 hb3 => ?_))
  go_ret
  exact ⟨_, _, rfl, hO3.base hb2.size, bb hb2 hb3⟩
theorem line_great (W : World) (v : Option Addr) (A : Option Addr) (n C : Nat) (i : Bool) (l : List Nat) (hl : l.length = n) (h1 : 1 ≤ n) (hlen : (n : Int) ≤ 9223372036854775807) (HR : RadN W 65 (n : Int)) (HM : ∀ w, Below W.heap.size W w → OwnT w 67 #[.pointer v, .slice A n C, .bool i] l) : OwnR W 45 #[.pointer v, .slice A n C, .bool i] l := by
  intro w hw
  have HR' : AnsB W 65 #[.int .i64 (n : Int)] (.tuple #[.slice none 0 0, .bool false]) := HR
  rw [hl]
  go_enter Tryz.func45, Tryz.ntmps45
  go_wp2_with (first
    | (go_at_call 65; with_reducible refine AnsB.use HR' hw fun w2 hb2 => ?_; have HM2 := HM w2 (bb hw hb2))
    | (go_at_call 67; with_reducible refine OwnT.useG HM2 hl h1 (Below.refl _ _) fun g3 C3 w3 hO3 hb3 => ?_))
  go_ret
  exact ⟨_, _, rfl, hO3.base hb2.size, bb hb2 hb3⟩
/-- A row's transform. -/
theorem line_any {W : World} {b : Nat} {x : En} (F : FieldAt W b x) (hF : Fld x) (hG : FacG W) {A : Option Addr} {C : Nat} {xs : List Nat} (hU : UAt W A C xs) (h1 : 1 ≤ xs.length) (hn : xs.length ≤ 1024) (hd : (x.p - 1) % xs.length = 0) (hg : ∀ y ∈ xs, y < x.p) (i : Bool) : OwnR W 45 #[pt b, .slice A xs.length C, .bool i] (dT x i xs) := by
  have hlen := hU.len
  cases hr : radV (xs.length : Int) with
  | none => exact line_great W _ A _ C i _ (dT_len _ _ _) h1 hlen (rad_no hG hr) fun w hw => run_yes (F.below hw) hF (hU.below hw) h1 hn hd hg i
  | some rs =>
    refine line_small W _ A _ C i rs _ (dT_len _ _ _) h1 hlen (rad_yes hG hr) fun w hw => runm_ok (F.below hw) hF (hG.below hw) (hU.below hw) ?_ i
    unfold ck3
    rw [if_neg (by rw [ckD_yes h1 (by omega) hd]; decide), hr, if_neg (isNone_s _), goodB_iff.2 hg, if_neg (by decide)]

/-! ### pick -/
set_option maxRecDepth 100000 in
set_option maxHeartbeats 2000000 in
/-- The numbers at these places. -/
theorem pick_walk (W : World) (b o C : Nat) (xs : List Nat) (n : Nat) (b2 o2 D : Nat) (m : Nat) (s : Nat → Nat) (hU : UAt W (some ⟨b, o, none⟩) C xs) (hl : xs.length = n) (hZ : ZAt W (some ⟨b2, o2, none⟩) D (ints (mkL m s))) (hs : ∀ k, k < m → s k < n) (hm : m ≤ 4096) :
    OwnR W 21 #[.slice (some ⟨b, o, none⟩) n C, .slice (some ⟨b2, o2, none⟩) m D] (mkL m fun k => atL xs (s k)) := by
  intro w hw
  rw [mkL_len]
  obtain ⟨ii, hii, hzi, hsi, hbi⟩ := info_parts infoWd
  have hlen : (m : Int) ≤ 9223372036854775807 := by omega
  have hU' := hU.below hw
  have hZ' := hZ.below hw
  have HS : Hid (∀ k, k < m → s k < n) := hs
  have HM : Hid (m ≤ 4096) := hm
  have HXL : Hid (xs.length = n) := hl
  clear hU hZ hs hl
  go_enter Tryz.func21, Tryz.ntmps21
  go_wp2_with (at_make; refine Hid.out ?_)
  unfold Hid
  refine wpList_make_full _ rfl _ _ 26 rfl w.heap.size 22 ii _ 1 Tryz.underlying26 hii hzi hsi .i64 .i64 (m : Int) (m : Int) m rfl rfl rfl rfl (by have := HM.out; rw [hbi]; omega) (by have := HM.out; unfold maxLen; omega) (Nat.le_refl _) ?_
  intro w1 hR hG1
  have hB1 : Below w.heap.size w w1 := (Below.refl _ _).grown hG1 (Nat.le_refl _) (fun k ek => by cases ek)
  obtain ⟨gc, hgc⟩ : ∃ gc, w.heap.size = gc := ⟨_, rfl⟩
  have hR2 : OwnU w1 w.heap.size (some ⟨w.heap.size, 0, none⟩) m (wfl 0 m 0 fun k => atL xs (s k)) := by
    unfold OwnU
    rw [wfl_len, wfl_zero]
    have e : (madeCells (Value.int .u64 0).cells (m * 1)).toList = ucells (List.replicate m 0) := by
      rw [made_list rfl]; simp [ucells]
    rw [← e]; exact hR
  have HGC : Hid (w.heap.size = gc) := hgc
  have HR2 : Hid (OwnU w1 w.heap.size (some ⟨gc, 0, none⟩) m (wfl 0 m 0 fun k => atL xs (s k))) := by unfold Hid; rw [← hgc]; exact hR2
  rw [show (Value.slice (some ⟨w.heap.size, 0, none⟩) m m) = .slice (some ⟨gc, 0, none⟩) m m by rw [hgc]]
  clear hR hR2 hG1 hgc
  go_wp2
  go_loopw [13] (fun v wr => ∃ k : Nat, v = .int .i64 (k : Int) ∧ k ≤ m ∧ Hid (OwnU wr w.heap.size (some ⟨gc, 0, none⟩) m (wfl 0 m k fun k => atL xs (s k))) ∧ Below w.heap.size w wr) (fun v _ => m - (intOf v).toNat)
  case atStart => exact ⟨0, rfl, by omega, HR2, hB1⟩
  case round =>
    clear HR2 hB1
    obtain ⟨k, rfl, hk, HO, hB⟩ := hrel
    by_cases hlt : k < m
    · obtain ⟨q, hq⟩ : ∃ q, s k = q := ⟨_, rfl⟩
      have hqn : q < n := by rw [← hq]; exact HS.out k hlt
      obtain ⟨b4, o4, hA4, _, cz⟩ := (hZ'.below hB).nat (i := k) (d := q) (by rw [mkL_get _ hlt, hq])
      simp only [Option.some.injEq, Addr.mk.injEq, and_true] at hA4
      obtain ⟨rfl, rfl⟩ := hA4
      obtain ⟨y, hy⟩ : ∃ y, xs[q]? = some y := ⟨_, List.getElem?_eq_getElem (by rw [HXL.out]; exact hqn)⟩
      have cx := ((hU'.below hB).at hy).1
      obtain ⟨g', hg', _, _, hck, hfz⟩ := HO.out.get (wfl_get 0 (fun k => atL xs (s k)) hlt)
      cases hg'
      have HO3 : Hid (OwnU (wr.setCell ⟨gc, k, none⟩ (.int .u64 (y : Int))) w.heap.size (some ⟨gc, 0, none⟩) m (wfl 0 m (k + 1) fun k => atL xs (s k))) := by
        unfold Hid
        rw [← wfl_set]
        show OwnU _ _ _ _ (List.set _ k (atL xs (s k)))
        rw [hq, atL_of hy]
        exact HO.out.set k y
      have hB3 : Below w.heap.size w (wr.setCell ⟨gc, k, none⟩ (.int .u64 (y : Int))) := hB.setCell (p := ⟨gc, k, none⟩) (by rw [HGC.out]; exact Nat.le_refl _) _
      clear hy HO hB hq
      go_wp2
      go_roundw
      case rel => exact ⟨k + 1, by go_num, by omega, HO3, hB3⟩
      case measure => simp [intOf]; omega
    · obtain rfl : k = m := by omega
      have HO4 : Hid (OwnU wr w.heap.size (some ⟨gc, 0, none⟩) k (mkL k fun k => atL xs (s k))) := by
        have := HO.out
        rw [wfl_all] at this
        exact this
      clear HO
      go_wp2
      go_ret
      exact ⟨_, _, rfl, HO4.out, hB⟩
end Go.Proofs.YtpjfapibjihbbaaGreatDoor
/-
  What coprime's turn answers: the rows of a table, each transformed, as the columns of another one. No condition but that the rows lie there.
-/
namespace Go.Proofs.YtpjfapibjihbbaaGreatDoor
set_option linter.unusedVariables false
open Go.RowKit

/-- The first i rows are turned, of the next one j numbers. -/
def trS (r : Nat) (T : Nat → Nat → Nat) (i j m : Nat) : Nat := if m % r < i ∨ (m % r = i ∧ m / r < j) then T (m % r) (m / r) else 0
theorem trS_zero (r : Nat) (T : Nat → Nat → Nat) (m : Nat) : trS r T 0 0 m = 0 := by
  unfold trS
  generalize m / r = q
  generalize m % r = t
  rw [if_neg (by omega)]
theorem trS_row {r c n : Nat} (hn : r * c = n) (T : Nat → Nat → Nat) (i : Nat) {m : Nat} (hm : m < n) : trS r T i c m = trS r T (i + 1) 0 m := by
  have hlt : m / r < c := Nat.div_lt_of_lt_mul (by rw [hn]; exact hm)
  unfold trS
  generalize m / r = q at *
  generalize m % r = t at *
  by_cases h : t < i ∨ (t = i ∧ q < c)
  · rw [if_pos h, if_pos (by omega)]
  · rw [if_neg h, if_neg (by omega)]
theorem trS_all {r : Nat} (h1 : 1 ≤ r) (T : Nat → Nat → Nat) (m : Nat) : trS r T r 0 m = T (m % r) (m / r) := by
  unfold trS; rw [if_pos (.inl (Nat.mod_lt _ (by omega)))]
theorem trS_set {r c n i j : Nat} (hn : r * c = n) (hi : i < r) (hj : j < c) (T : Nat → Nat → Nat) : (mkL n (trS r T i j)).set (j * r + i) (T i j) = mkL n (trS r T i (j + 1)) := by
  have hmod : (j * r + i) % r = i := by rw [Nat.add_comm, Nat.add_mul_mod_self_right, Nat.mod_eq_of_lt hi]
  have hdiv : (j * r + i) / r = j := by rw [Nat.add_comm, Nat.add_mul_div_right _ _ (by omega), Nat.div_eq_of_lt hi, Nat.zero_add]
  apply List.ext_getElem?
  intro m
  rw [List.getElem?_set, mkL_len]
  by_cases h : m < n
  · rw [mkL_get _ h, mkL_get _ h]
    by_cases e : j * r + i = m
    · subst e
      rw [if_pos rfl, if_pos h]
      unfold trS
      rw [hmod, hdiv, if_pos (by omega)]
    · rw [if_neg e]
      have hne : ¬ (m % r = i ∧ m / r = j) := fun ⟨e1, e2⟩ => e (by rw [← e1, ← e2, Nat.mul_comm]; exact Nat.div_add_mod m r)
      unfold trS
      generalize m / r = q at *
      generalize m % r = t at *
      by_cases h2 : t < i ∨ (t = i ∧ q < j)
      · rw [if_pos h2, if_pos (by omega)]
      · rw [if_neg h2, if_neg (by omega)]
  · rw [List.getElem?_eq_none (by rw [mkL_len]; omega), List.getElem?_eq_none (by rw [mkL_len]; omega)]
    by_cases e : j * r + i = m
    · rw [if_pos e, if_neg (by rw [e]; exact h)]
    · rw [if_neg e]
theorem divB {x n q : Nat} (h : x / n = q) : Int.tdiv (x : Int) (n : Int) = (q : Int) := by rw [← h]; rfl
theorem raw_at {b i j K : Nat} (hK : i * b + j = K) (hK1 : K ≤ 1024) : wrap64 (wrap64 ((i : Int) * (b : Int)) + (j : Int)) = (K : Int) := by
  rw [mulW (a := i) (b := b) rfl (by omega), wrSum (by omega) (by omega), ← hK]; rfl
theorem UAt.part {w : World} {b o C : Nat} {xs : List Nat} (h : UAt w (some ⟨b, o, none⟩) C xs) {s c : Nat} (hs : s + c ≤ xs.length) : UAt w (some ⟨b, o + s, none⟩) (C - s) (mkL c fun j => atL xs (s + j)) := by
  have hcap := h.cap
  refine ⟨(fun e => by cases e), by rw [mkL_len]; omega, by have := h.max; omega, fun i y hy => ?_⟩
  have hi : i < c := by have := (List.getElem?_eq_some_iff.1 hy).1; rwa [mkL_len] at this
  rw [mkL_get _ hi] at hy
  cases hy
  obtain ⟨c0, hl, hb⟩ := h.at (i := s + i) (x := atL xs (s + i)) (by rw [List.getElem?_eq_getElem (by omega)]; unfold atL; rw [List.getD_eq_getElem?_getD, List.getElem?_eq_getElem (by omega)]; rfl)
  exact ⟨b, o + s, rfl, hb, by rw [Nat.add_assoc]; exact c0, hl⟩
set_option maxRecDepth 100000 in
set_option maxHeartbeats 2000000 in
theorem turn_walk (W : World) (v : Option Addr) (b o C n r c : Nat) (hn : r * c = n) (h1 : 1 ≤ r) (hc1 : 1 ≤ c) (hn2 : n ≤ 1024) (hcap : n ≤ C) (i : Bool) (T : Nat → Nat → Nat) (hT : ∀ k j, k < r → j < c → T k j < 18446744073709551616)
    (HL : ∀ w k, Below W.heap.size W w → k < r → OwnR w 45 #[.pointer v, .slice (some ⟨b, o + k * c, none⟩) c (C - k * c), .bool i] (mkL c (T k))) :
    OwnR W 22 #[.pointer v, .slice (some ⟨b, o, none⟩) n C, .int .i64 (c : Int), .bool i] (mkL n fun m => T (m % r) (m / r)) := by
  intro w hw
  rw [mkL_len]
  obtain ⟨ii, hii, hzi, hsi, hbi⟩ := info_parts infoWd
  have hlen : (n : Int) ≤ 9223372036854775807 := by omega
  have hdiv : n / c = r := by rw [← hn]; exact Nat.mul_div_cancel _ (by omega)
  have hq := divB hdiv
  have hc0 : ¬ (c : Int) = 0 := by omega
  have hrn : r ≤ 1024 := by have := Nat.mul_le_mul_left r hc1; omega
  have hcn : c ≤ 1024 := by have := Nat.mul_le_mul_right c h1; omega
  have hrw : wrap64 (r : Int) = (r : Int) := wrN (by omega)
  have HL' : Hid (∀ (w1 : World) (k : Nat) {R : Ending → World → Prop}, Below W.heap.size W w1 → k < r → (∀ g C1 w', OwnU w' w1.heap.size (some ⟨g, 0, none⟩) C1 (mkL c (T k)) → Below w1.heap.size w1 w' → R (.returned (.slice (some ⟨g, 0, none⟩) c C1)) w') → Calls Tryz.prog 45 #[.pointer v, .slice (some ⟨b, o + k * c, none⟩) c (C - k * c), .bool i] w1 R) :=
    fun w1 k R hw1 hk q => OwnR.useG (HL w1 k hw1 hk) (mkL_len _ _) hc1 (Below.refl _ _) q
  have HN : Hid (r * c = n ∧ 1 ≤ r ∧ 1 ≤ c) := ⟨hn, h1, hc1⟩
  have HW : Hid (Below W.heap.size W w) := hw
  have HT : Hid (∀ k j, k < r → j < c → T k j < 18446744073709551616) := hT
  clear hn h1 hc1 HL hT hw hdiv
  go_enter Tryz.func22, Tryz.ntmps22
  go_wp2_with (at_make; refine Hid.out ?_)
  unfold Hid
  refine wpList_make_full _ rfl _ _ 26 rfl w.heap.size 22 ii _ 1 Tryz.underlying26 hii hzi hsi .i64 .i64 (n : Int) (n : Int) n rfl rfl rfl rfl (by rw [hbi]; omega) (by unfold maxLen; omega) (Nat.le_refl _) ?_
  intro w1 hR hG1
  have hB1 : Below w.heap.size w w1 := (Below.refl _ _).grown hG1 (Nat.le_refl _) (fun k ek => by cases ek)
  obtain ⟨gc, hgc⟩ : ∃ gc, w.heap.size = gc := ⟨_, rfl⟩
  have hR2 : OwnU w1 w.heap.size (some ⟨w.heap.size, 0, none⟩) n (mkL n (trS r T 0 0)) := by
    unfold OwnU
    rw [mkL_len]
    have e : (madeCells (Value.int .u64 0).cells (n * 1)).toList = ucells (mkL n (trS r T 0 0)) := by
      rw [made_list rfl, mkL_ext (g := fun _ => 0) fun j _ => trS_zero r T j]
      unfold mkL ucells
      rw [List.map_const', List.length_range]; simp
    rw [← e]; exact hR
  have HGC : Hid (w.heap.size = gc) := hgc
  have HR2 : Hid (OwnU w1 w.heap.size (some ⟨gc, 0, none⟩) n (mkL n (trS r T 0 0))) := by unfold Hid; rw [← hgc]; exact hR2
  rw [show (Value.slice (some ⟨w.heap.size, 0, none⟩) n n) = .slice (some ⟨gc, 0, none⟩) n n by rw [hgc]]
  clear hR hR2 hG1 hgc hq
  go_wp2
  go_loopw [23] (fun v wr => ∃ k : Nat, v = .int .i64 (k : Int) ∧ k ≤ r ∧ Hid (OwnU wr w.heap.size (some ⟨gc, 0, none⟩) n (mkL n (trS r T k 0))) ∧ Below w.heap.size w wr) (fun v _ => r - (intOf v).toNat)
  case atStart => exact ⟨0, rfl, by omega, HR2, hB1⟩
  case round =>
    clear HR2 hB1
    obtain ⟨k, rfl, hk, HO, hB⟩ := hrel
    by_cases hlt : k < r
    · obtain ⟨s, hs⟩ : ∃ s, k * c = s := ⟨_, rfl⟩
      have hsn : s + c ≤ n := by
        have h1 := Nat.mul_le_mul_right c (show k + 1 ≤ r by omega)
        rw [Nat.add_mul, Nat.one_mul, HN.out.1] at h1
        omega
      have hst := mulW hs (by omega)
      have HLk : Hid (∀ {R : Ending → World → Prop}, (∀ g C1 w', OwnU w' wr.heap.size (some ⟨g, 0, none⟩) C1 (mkL c (T k)) → Below wr.heap.size wr w' → R (.returned (.slice (some ⟨g, 0, none⟩) c C1)) w') → Calls Tryz.prog 45 #[.pointer v, .slice (some ⟨b, o + s, none⟩) c (C - s), .bool i] wr R) := by
        intro R q
        have := HL'.out wr k (R := R) (bb HW.out hB) hlt q
        rw [hs] at this
        exact this
      clear hs
      go_wp2_with (go_at_call 45; with_reducible refine HLk.out fun g3 C3 w3 hO3 hb3 => ?_)
      have hrc : 1 ≤ n := by
        have := Nat.mul_le_mul HN.out.2.1 HN.out.2.2
        rw [HN.out.1] at this; omega
      obtain ⟨gx, egx, _, hgl, _, _⟩ := HO.out.get (mkL_get (trS r T k 0) (show 0 < n by omega))
      cases egx
      have hg3 := hO3.ge.1
      have hne : g3 ≠ gc := by omega
      have HRW : Hid (OwnU w3 w.heap.size (some ⟨g3, 0, none⟩) C3 (mkL c (T k))) := hO3.base hB.size
      have HO3 : Hid (OwnU w3 w.heap.size (some ⟨gc, 0, none⟩) n (mkL n (trS r T k 0))) := HO.out.below hb3
      have hB3 : Below w.heap.size w w3 := bb hB hb3
      clear HO hO3 hb3 hB HLk hgl hg3
      go_loopw [39] (fun v wi => ∃ j : Nat, v = .int .i64 (j : Int) ∧ j ≤ c ∧ Hid (OwnU wi w.heap.size (some ⟨g3, 0, none⟩) C3 (mkL c (T k))) ∧ Hid (OwnU wi w.heap.size (some ⟨gc, 0, none⟩) n (mkL n (trS r T k j))) ∧ Below w.heap.size w wi) (fun v _ => c - (intOf v).toNat)
      case atStart => exact ⟨0, rfl, by omega, HRW, HO3, hB3⟩
      case round =>
        clear HRW HO3 hB3
        obtain ⟨j, rfl, hj, HRW, HO, hB⟩ := hrel
        by_cases hlj : j < c
        · obtain ⟨q, hq⟩ : ∃ q, j * r + k = q := ⟨_, rfl⟩
          have hqn : q < n := by
            have := place_lt hlj hlt
            rw [Nat.mul_comm c r, HN.out.1, hq] at this
            exact this
          obtain ⟨g1, eg1, _, _, hc3, _⟩ := HRW.out.get (mkL_get (T k) hlj)
          cases eg1
          obtain ⟨g2, eg2, _, _, hck, hfz⟩ := HO.out.get (mkL_get (trS r T k j) hqn)
          cases eg2
          obtain ⟨y, hy⟩ : ∃ y, T k j = y := ⟨_, rfl⟩
          rw [hy] at hc3
          have HO4 : Hid (OwnU (wr.setCell ⟨gc, q, none⟩ (.int .u64 (y : Int))) w.heap.size (some ⟨gc, 0, none⟩) n (mkL n (trS r T k (j + 1)))) := by
            unfold Hid
            rw [← trS_set HN.out.1 hlt hlj T, hq, hy]
            exact HO.out.set q y
          have HRW2 : Hid (OwnU (wr.setCell ⟨gc, q, none⟩ (.int .u64 (y : Int))) w.heap.size (some ⟨g3, 0, none⟩) C3 (mkL c (T k))) := by
            unfold Hid OwnU
            exact own_other HRW.out (by show some g3 ≠ some gc; simpa using hne) q _
          have hB4 : Below w.heap.size w (wr.setCell ⟨gc, q, none⟩ (.int .u64 (y : Int))) := hB.setCell (p := ⟨gc, q, none⟩) (by rw [HGC.out]; exact Nat.le_refl _) _
          have hraw := raw_at hq (show q ≤ 1024 by omega)
          clear HO HRW hB hy hq
          go_wp2
          go_roundw
          case rel => exact ⟨j + 1, by go_num, by omega, HRW2, HO4, hB4⟩
          case measure => simp [intOf]; omega
        · obtain rfl : j = c := by omega
          have HO4 : Hid (OwnU wr w.heap.size (some ⟨gc, 0, none⟩) n (mkL n (trS r T (k + 1) 0))) := by
            unfold Hid
            rw [← mkL_ext fun m hm => trS_row HN.out.1 T k hm]
            exact HO.out
          clear HO HRW
          go_wp2
          go_roundw
          case rel => exact ⟨k + 1, by go_num, by omega, HO4, hB⟩
          case measure => simp [intOf]; omega
    · obtain rfl : k = r := by omega
      have HO4 : Hid (OwnU wr w.heap.size (some ⟨gc, 0, none⟩) n (mkL n fun m => T (m % k) (m / k))) := by
        have := HO.out
        rw [mkL_ext (n := n) (f := trS k T k 0) (g := fun m => T (m % k) (m / k)) fun m _ => trS_all HN.out.2.1 T m] at this
        exact this
      clear HO
      go_wp2
      go_ret
      exact ⟨_, _, rfl, HO4.out, hB⟩
end Go.Proofs.YtpjfapibjihbbaaGreatDoor

/-
  What coprime's Run answers: the transform; or which error. No condition but that the field, the row and the program's four factors lie there.
-/
import Derived.Test.YtpjfapibjihbbaaGreatDoorF45
import Derived.Test.YtpjfapibjihbbaaGreatDoorF33
import Derived.Test.YtpjfapibjihbbaaGreatDoorF26
import Derived.Test.YtpjfapibjihbbaaGreatDoorF18
namespace Go.Proofs.YtpjfapibjihbbaaGreatDoor
set_option linter.unusedVariables false
open Go.RowKit

theorem inS_row {a b m : Nat} (hb : 1 ≤ b) : inS a b (m / b * b + m % b) = inS a b m := by rw [Nat.mul_comm, Nat.div_add_mod]
/-- What pick, turn, turn, pick come to. -/
theorem turned_row {a b : Nat} {xs : List Nat} {k : Nat} (hk : k < a) : (mkL b fun j => atL (mkL (a * b) fun m => atL xs (inS a b m)) (k * b + j)) = rowX a b xs k :=
  mkL_ext fun j hj => mkL_at _ (place_lt hk hj)
theorem turned_col {a b : Nat} (x : En) (v : Bool) {xs : List Nat} {j : Nat} (hj : j < b) : (mkL a fun i => atL (mkL (a * b) fun m => dV x v (rowX a b xs (m % a)) (m / a)) (j * a + i)) = colX x v a b xs j := by
  refine mkL_ext fun i hi => ?_
  rw [mkL_at _ (by rw [Nat.mul_comm a b]; exact place_lt hj hi)]
  rw [show (j * a + i) % a = i by rw [Nat.add_comm, Nat.add_mul_mod_self_right, Nat.mod_eq_of_lt hi], show (j * a + i) / a = j by rw [Nat.add_comm, Nat.add_mul_div_right _ _ (by omega), Nat.div_eq_of_lt hi, Nat.zero_add]]
theorem turned_all {x : En} (hF : Fld x) {a b : Nat} {xs : List Nat} (ha : 1 ≤ a) (hb : 1 ≤ b) (hc : Nat.Coprime a b) (hl : xs.length = a * b) (hd : (x.p - 1) % (a * b) = 0) (v : Bool) :
    (mkL (a * b) fun k => atL (mkL (a * b) fun m => dV x v (colX x v a b xs (m % b)) (m / b)) (ouS a b k)) = dT x v xs := by
  unfold dT
  rw [hl]
  refine mkL_ext fun k hk => ?_
  rw [mkL_at _ (ouS_lt ha hb k), ouS_mod, ouS_div hb]
  exact dV_parts hF ha hb hc hl hd v k

theorem runc_err (W : World) (v : Option Addr) (A : Option Addr) (n C : Nat) (a : Int) (i : Bool) (e : Int) (he : (e != 0) = true) (HC : ∀ w, Below W.heap.size W w → AnsW w 20 #[.pointer v, .slice A n C, .int .i64 a] (.int .i64 e)) : AnsB W 7 #[.pointer v, .slice A n C, .int .i64 a, .bool i] (.tuple #[.slice none 0 0, .int .i64 e]) := by
  intro w hw
  have HC1 := HC w hw
  go_enter Tryz.func7, Tryz.ntmps7
  go_wp2_with (go_at_call 20; with_reducible refine AnsW.use0 HC1 fun n1 => ?_)
  go_ret2
  exact ⟨rfl, below_drewN _ _⟩
set_option maxHeartbeats 2000000 in
theorem runc_walk (W : World) (v : Option Addr) (A : Option Addr) (n C a b : Nat) (i : Bool) (h1 : 1 ≤ n) (hn : n ≤ 1024) (hab : n / a = b) (ha : ¬ (a : Int) = 0) (hbl : b ≤ 1024) (is os ps ts us l : List Nat)
    (his : is.length = n) (hos : os.length = n) (hps : ps.length = n) (hts : ts.length = n) (hus : us.length = n) (hls : l.length = n)
    (h64 : (∀ y ∈ ps, y < 18446744073709551616) ∧ (∀ y ∈ ts, y < 18446744073709551616) ∧ (∀ y ∈ us, y < 18446744073709551616))
    (HC : ∀ w, Below W.heap.size W w → AnsW w 20 #[.pointer v, .slice A n C, .int .i64 (a : Int)] (.int .i64 0))
    (HI : NewRow W 12 #[.int .i64 (a : Int), .int .i64 (b : Int)] (ints is))
    (HO : NewRow W 13 #[.int .i64 (a : Int), .int .i64 (b : Int)] (ints os))
    (HP : ∀ w b2 o2 D, Below W.heap.size W w → ZAt w (some ⟨b2, o2, none⟩) D (ints is) → OwnR w 21 #[.slice A n C, .slice (some ⟨b2, o2, none⟩) n D] ps)
    (HT : ∀ w g D, Below W.heap.size W w → UAt w (some ⟨g, 0, none⟩) D ps → OwnR w 22 #[.pointer v, .slice (some ⟨g, 0, none⟩) n D, .int .i64 (b : Int), .bool i] ts)
    (HU : ∀ w g D, Below W.heap.size W w → UAt w (some ⟨g, 0, none⟩) D ts → OwnR w 22 #[.pointer v, .slice (some ⟨g, 0, none⟩) n D, .int .i64 (a : Int), .bool i] us)
    (HQ : ∀ w g D b2 o2 E, Below W.heap.size W w → UAt w (some ⟨g, 0, none⟩) D us → ZAt w (some ⟨b2, o2, none⟩) E (ints os) → OwnR w 21 #[.slice (some ⟨g, 0, none⟩) n D, .slice (some ⟨b2, o2, none⟩) n E] l) :
    OwnT W 7 #[.pointer v, .slice A n C, .int .i64 (a : Int), .bool i] l := by
  intro w hw
  rw [hls]
  have HC1 := HC w hw
  have hq := divB hab
  have hbw : wrap64 (b : Int) = (b : Int) := wrN (by omega)
  have hlen : (n : Int) ≤ 9223372036854775807 := by omega
  have hil : (ints is).length = n := by rw [ints_len, his]
  have hol : (ints os).length = n := by rw [ints_len, hos]
  have HI' : Hid (∀ (w1 : World) {R : Ending → World → Prop}, Below W.heap.size W w1 → (∀ g o C1 w', ZAt w' (some ⟨g, o, none⟩) C1 (ints is) → Below w1.heap.size w1 w' → R (.returned (.slice (some ⟨g, o, none⟩) n C1)) w') → Calls Tryz.prog 12 #[.int .i64 (a : Int), .int .i64 (b : Int)] w1 R) :=
    fun w1 R hw1 k => NewRow.useL HI hil hw1 fun A1 C1 w' q1 q2 => by
      obtain ⟨g, o, rfl, _, _⟩ := q1.nat (i := 0) (List.getElem?_eq_getElem (show 0 < is.length by omega))
      exact k g o C1 w' q1 q2
  have HO' : Hid (∀ (w1 : World) {R : Ending → World → Prop}, Below W.heap.size W w1 → (∀ g o C1 w', ZAt w' (some ⟨g, o, none⟩) C1 (ints os) → Below w1.heap.size w1 w' → R (.returned (.slice (some ⟨g, o, none⟩) n C1)) w') → Calls Tryz.prog 13 #[.int .i64 (a : Int), .int .i64 (b : Int)] w1 R) :=
    fun w1 R hw1 k => NewRow.useL HO hol hw1 fun A1 C1 w' q1 q2 => by
      obtain ⟨g, o, rfl, _, _⟩ := q1.nat (i := 0) (List.getElem?_eq_getElem (show 0 < os.length by omega))
      exact k g o C1 w' q1 q2
  have HN : Hid (1 ≤ n) := h1
  have HL : Hid (ps.length = n ∧ ts.length = n ∧ us.length = n ∧ l.length = n) := ⟨hps, hts, hus, hls⟩
  have HS := (show Hid _ from h64)
  have HP' := (show Hid _ from HP)
  have HT' := (show Hid _ from HT)
  have HU' := (show Hid _ from HU)
  have HQ' := (show Hid _ from HQ)
  have HW : Hid (Below W.heap.size W w) := hw
  clear HC HI HO HP HT HU HQ h64 his hos hps hts hus hls hil hol h1 hab hw
  go_enter Tryz.func7, Tryz.ntmps7
  go_wp2_with (first
    | (go_at_call 20; with_reducible refine AnsW.use0 HC1 fun n1 => ?_; have hw1 := bb HW.out (below_drewN w n1))
    | (go_at_call 12; with_reducible refine HI'.out _ hw1 fun g2 o2 C2 w2 hZ2 hb2 => ?_; have hw2 := bb hw1 hb2; have HP2 := HP'.out w2 g2 o2 C2 hw2 hZ2)
    | (go_at_call 21; with_reducible refine OwnR.useG HP2 HL.out.1 HN.out (Below.refl _ _) fun g3 C3 w3 hO3 hb3 => ?_; have hw3 := bb hw2 hb3; have HT3 := HT'.out w3 g3 C3 hw3 (hO3.words HS.out.1))
    | (go_at_call 22; with_reducible refine OwnR.useG HT3 HL.out.2.1 HN.out (Below.refl _ _) fun g4 C4 w4 hO4 hb4 => ?_; have hw4 := bb hw3 hb4; have HU4 := HU'.out w4 g4 C4 hw4 (hO4.words HS.out.2.1))
    | (go_at_call 22; with_reducible refine OwnR.useG HU4 HL.out.2.2.1 HN.out (Below.refl _ _) fun g5 C5 w5 hO5 hb5 => ?_; have hw5 := bb hw4 hb5; have hU5 := hO5.words HS.out.2.2)
    | (go_at_call 13; with_reducible refine HO'.out _ hw5 fun g6 o6 C6 w6 hZ6 hb6 => ?_; have hw6 := bb hw5 hb6; have HQ6 := HQ'.out w6 g5 C5 g6 o6 C6 hw6 (hU5.below hb6) hZ6)
    | (go_at_call 21; with_reducible refine OwnR.useG HQ6 HL.out.2.2.2 HN.out (Below.refl _ _) fun g7 C7 w7 hO7 hb7 => ?_))
  go_ret2
  have hB6 : Below w.heap.size w w6 := bb (below_drewN w n1) (bb hb2 (bb hb3 (bb hb4 (bb hb5 hb6))))
  exact ⟨_, _, rfl, hO7.base hB6.size, bb hB6 hb7⟩
/-- Run, of a list that is transformed. -/
theorem runc_ok {W : World} {b : Nat} {x : En} (F : FieldAt W b x) (hF : Fld x) (hG : FacG W) {A : Option Addr} {C : Nat} {xs : List Nat} (hU : UAt W A C xs) {a : Int} (hk : ck4 x.p xs a = 0) (i : Bool) : OwnT W 7 #[pt b, .slice A xs.length C, .int .i64 a, .bool i] (dT x i xs) := by
  obtain ⟨a, c, rfl, hac, ha2, hc2, hcop, h1, hn, hd, hg, hck, hgb⟩ := ck4_ok hk
  obtain ⟨h3, hodd, hlt⟩ := hF.num
  have hT : Tab a c := ⟨ha2, hc2, by omega, hcop⟩
  obtain ⟨hal, hcl⟩ := hT.le
  have hda : (x.p - 1) % (a * c) = 0 := by rw [hac]; exact hd
  have hdc : (x.p - 1) % c = 0 := cpart_mod hda
  have hda' : (x.p - 1) % a = 0 := cpart_mod (a := c) (by rw [Nat.mul_comm]; exact hda)
  have h64 : ∀ {y}, y < x.p → y < 18446744073709551616 := fun h => by omega
  have hxs : ∀ k, k < xs.length → atL xs k < x.p := fun k hk => hg _ (atL_mem hk)
  obtain ⟨ba, oa, rfl⟩ := hU.addr h1
  have hcapU := hU.cap
  have hall := turned_all hF (show 1 ≤ a by omega) (show 1 ≤ c by omega) hcop hac.symm hda i
  have hin : ∀ m, inS a c m < a * c := fun m => inS_lt (by omega) (by omega) m
  have hrow : ∀ k, k < a → ∀ y ∈ rowX a c xs k, y < x.p := fun k hk y hy => by
    obtain ⟨j, hj, rfl⟩ := List.mem_map.1 hy
    exact hxs _ (by rw [← hac]; exact hin _)
  have hcol : ∀ j, ∀ y ∈ colX x i a c xs j, y < x.p := fun j y hy => by
    obtain ⟨k, hk, rfl⟩ := List.mem_map.1 hy
    exact dV_lt hF i _ _
  refine runc_walk W _ _ xs.length C a c i h1 hn (by rw [← hac]; exact Nat.mul_div_cancel_left c (by omega)) (by omega) (by omega) (inL a c) (ouL a c)
    (mkL (a * c) fun m => atL xs (inS a c m)) (mkL (a * c) fun m => dV x i (rowX a c xs (m % a)) (m / a)) (mkL (a * c) fun m => dV x i (colX x i a c xs (m % c)) (m / c)) (dT x i xs)
    (by rw [inL_len, hac]) (by rw [ouL_len, hac]) (by rw [mkL_len, hac]) (by rw [mkL_len, hac]) (by rw [mkL_len, hac]) (dT_len _ _ _)
    ⟨fun y hy => ?_, fun y hy => ?_, fun y hy => ?_⟩
    (fun w hw => (chc_any (F.below hw) (hU.below hw) (a : Int)).to (by rw [hk])) (in_yes W hT) (out_yes W hT)
    (fun w b2 o2 D hw hZ => ?_) (fun w g D hw hV => ?_) (fun w g D hw hV => ?_) (fun w g D b2 o2 E hw hV hZ => ?_)
  · obtain ⟨m, _, rfl⟩ := List.mem_map.1 hy
    exact h64 (hxs _ (by rw [← hac]; exact hin _))
  · obtain ⟨m, _, rfl⟩ := List.mem_map.1 hy
    exact h64 (dV_lt hF i _ _)
  · obtain ⟨m, _, rfl⟩ := List.mem_map.1 hy
    exact h64 (dV_lt hF i _ _)
  · rw [← hac]
    have := pick_walk w ba oa C xs (a * c) b2 o2 D (a * c) (inS a c) (hU.below hw) hac.symm hZ (fun k _ => hin k) (by omega)
    exact this
  · rw [← hac]
    have hcap : a * c ≤ D := by have := hV.cap; rw [mkL_len] at this; exact this
    refine turn_walk w _ g 0 D (a * c) a c rfl (by omega) (by omega) (by omega) hcap i (fun k j => dV x i (rowX a c xs k) j) (fun k j _ _ => h64 (dV_lt hF i _ _)) fun w1 k hw1 hk => ?_
    have hp := (hV.below hw1).part (s := k * c) (c := c) (by rw [mkL_len]; have := Nat.mul_le_mul_right c (show k + 1 ≤ a by omega); rw [Nat.add_mul, Nat.one_mul] at this; exact this)
    rw [turned_row hk] at hp
    have hl := line_any (F.below (bb hw hw1)) hF (hG.below (bb hw hw1)) hp (by rw [show (rowX a c xs k).length = c from mkL_len _ _]; omega) (by rw [show (rowX a c xs k).length = c from mkL_len _ _]; omega) (by rw [show (rowX a c xs k).length = c from mkL_len _ _]; exact hdc) (hrow k hk) i
    rw [show (rowX a c xs k).length = c from mkL_len _ _] at hl
    unfold dT at hl
    rw [show (rowX a c xs k).length = c from mkL_len _ _] at hl
    exact hl
  · rw [← hac]
    have hcap : a * c ≤ D := by have := hV.cap; rw [mkL_len] at this; exact this
    refine turn_walk w _ g 0 D (a * c) c a (Nat.mul_comm c a) (by omega) (by omega) (by omega) hcap i (fun j k => dV x i (colX x i a c xs j) k) (fun k j _ _ => h64 (dV_lt hF i _ _)) fun w1 j hw1 hj => ?_
    have hp := (hV.below hw1).part (s := j * a) (c := a) (by rw [mkL_len, Nat.mul_comm a c]; have := Nat.mul_le_mul_right a (show j + 1 ≤ c by omega); rw [Nat.add_mul, Nat.one_mul] at this; exact this)
    rw [turned_col x i hj] at hp
    have hl := line_any (F.below (bb hw hw1)) hF (hG.below (bb hw hw1)) hp (by rw [show (colX x i a c xs j).length = a from mkL_len _ _]; omega) (by rw [show (colX x i a c xs j).length = a from mkL_len _ _]; omega) (by rw [show (colX x i a c xs j).length = a from mkL_len _ _]; exact hda') (hcol j) i
    rw [show (colX x i a c xs j).length = a from mkL_len _ _] at hl
    unfold dT at hl
    rw [show (colX x i a c xs j).length = a from mkL_len _ _] at hl
    exact hl
  · rw [← hac, ← hall]
    exact pick_walk w g 0 D _ (a * c) b2 o2 E (a * c) (ouS a c) hV (mkL_len _ _) hZ (fun k _ => ouS_lt (by omega) (by omega) k) (by omega)
theorem runc_bad {W : World} {b : Nat} {x : En} (F : FieldAt W b x) {A : Option Addr} {C : Nat} {xs : List Nat} (hU : UAt W A C xs) {a : Int} (hk : ck4 x.p xs a ≠ 0) (i : Bool) : AnsB W 7 #[pt b, .slice A xs.length C, .int .i64 a, .bool i] (.tuple #[.slice none 0 0, .int .i64 (ck4 x.p xs a)]) :=
  runc_err W _ A _ C a i _ (by simp only [bne_iff_ne, ne_eq]; exact hk) fun w hw => chc_any (F.below hw) (hU.below hw) a
theorem runc_nil (W : World) (A : Option Addr) (n C : Nat) (a : Int) (i : Bool) (hlen : (n : Int) ≤ 9223372036854775807) : AnsB W 7 #[.pointer none, .slice A n C, .int .i64 a, .bool i] (.tuple #[.slice none 0 0, .int .i64 2]) :=
  runc_err W none A n C a i 2 (by decide) fun w _ => chc_err w none A n C a 2 (by decide) hlen (ck_nil w _ _)
end Go.Proofs.YtpjfapibjihbbaaGreatDoor
/-
  What the document tells (alive) of layer 11, and what same and fit answer, for its statements. No condition.
-/
namespace Go.Proofs.YtpjfapibjihbbaaGreatDoor
set_option linter.unusedVariables false
open Go.RowKit

/-! ### same -/
theorem same_get {xs ys : List Nat} {k : Nat} (hl : xs.length = ys.length) (h : xs.take k = ys.take k) {x y : Nat} (hx : xs[k]? = some x) (hy : ys[k]? = some y) (e : x = y) : xs.take (k + 1) = ys.take (k + 1) := by
  rw [List.take_add_one, List.take_add_one, hx, hy, h, e]
set_option maxHeartbeats 1000000 in
theorem same_any (W : World) (A : Option Addr) (C : Nat) (xs : List Nat) (B : Option Addr) (D : Nat) (ys : List Nat) (hX : UAt W A C xs) (hY : UAt W B D ys) : AnsB W 8 #[.slice A xs.length C, .slice B ys.length D] (.bool (decide (xs = ys))) := by
  intro w hw
  have hlx := hX.len
  obtain ⟨L, hL⟩ : ∃ L, xs.length = L := ⟨_, rfl⟩
  obtain ⟨M, hM⟩ : ∃ M, ys.length = M := ⟨_, rfl⟩
  have HL : Hid (xs.length = L) := hL
  have HM : Hid (ys.length = M) := hM
  rw [hL] at hlx
  rw [hL, hM]
  clear hL hM
  by_cases hLM : L = M
  · subst hLM
    go_enter Tryz.func8, Tryz.ntmps8
    go_wp2
    go_loopw [13] (fun v wr => ∃ k : Nat, v = .int .i64 k ∧ k ≤ L ∧ Hid (xs.take k = ys.take k) ∧ Below w.heap.size w wr) (fun v _ => L - (intOf v).toNat)
    case atStart => exact ⟨0, rfl, by omega, rfl, Below.refl _ _⟩
    case round =>
      obtain ⟨k, rfl, hk, HI, hB⟩ := hrel
      by_cases hlt : k < L
      · obtain ⟨x, hx⟩ : ∃ x, xs[k]? = some x := ⟨_, List.getElem?_eq_getElem (by rw [HL.out]; exact hlt)⟩
        obtain ⟨y, hy⟩ : ∃ y, ys[k]? = some y := ⟨_, List.getElem?_eq_getElem (by rw [HM.out]; exact hlt)⟩
        obtain ⟨b, o, rfl, hb, c0, _⟩ := hX.get k x hx
        obtain ⟨b2, o2, rfl, hb2, d0, _⟩ := hY.get k y hy
        have hBW := hw.trans (hB.mono hw.size)
        have c0' := ((bcell hBW).1 b (o + k) hb).trans c0
        have d0' := ((bcell hBW).1 b2 (o2 + k) hb2).trans d0
        have HB : Hid (Below w.heap.size w wr) := hB
        by_cases he : x = y
        · have HS : Hid (xs.take (k + 1) = ys.take (k + 1)) := same_get (by rw [HL.out, HM.out]) HI.out hx hy he
          have t1 : ((x : Int) != (y : Int)) = false := by simp [he]
          have t2 : ¬ (x : Int) ≠ (y : Int) := by simp [he]
          subst he
          clear c0 d0 hx hy HI hBW hB
          go_wp2
          go_region
          all_goals go_wp2
          all_goals go_roundw
          case rel => exact ⟨k + 1, by go_num, by omega, HS, below_dN HB.out _⟩
          case measure => simp [intOf]; omega
        · have HR : Hid (decide (xs = ys) = false) := by
            unfold Hid; rw [decide_eq_false_iff_not]; intro e; rw [e, hy] at hx; cases hx; exact he rfl
          have t1 : ((x : Int) != (y : Int)) = true := by simp; omega
          have t2 : ¬ (x : Int) = (y : Int) := by omega
          clear c0 d0 hx hy HI hBW hB he
          go_wp2
          go_region
          all_goals go_wp2
          all_goals go_ret
          all_goals exact ⟨ret_b HR.out.symm, below_dN HB.out _⟩
      · obtain rfl : k = L := by omega
        have HR : Hid (decide (xs = ys) = true) := by
          unfold Hid; rw [decide_eq_true_iff]; have := HI.out
          rw [← HL.out, List.take_length, HL.out, ← HM.out, List.take_length] at this
          exact this
        clear HI
        go_wp2
        go_ret
        exact ⟨ret_b HR.out.symm, hB⟩
  · have HR : Hid (decide (xs = ys) = false) := by
      unfold Hid; rw [decide_eq_false_iff_not]; intro e; apply hLM; rw [← HL.out, ← HM.out, e]
    have t1 : ¬ (L : Int) = (M : Int) := by omega
    go_enter Tryz.func8, Tryz.ntmps8
    go_wp2
    go_ret
    exact ⟨ret_b HR.out.symm, Below.refl _ _⟩
/-- .. of two that are the same, their lengths letters. -/
theorem same_yes {W : World} {A : Option Addr} {C : Nat} {B : Option Addr} {D : Nat} {xs : List Nat} {n : Nat} (hX : UAt W A C xs) (hY : UAt W B D xs) (hl : xs.length = n) : AnsB W 8 #[.slice A n C, .slice B n D] (.bool true) := by
  have := same_any W A C xs B D xs hX hY
  rw [decide_eq_true rfl, hl] at this
  exact this

/-! ### alive -/
theorem lit_words (w : World) (a b c d : Nat) (ha : a < 18446744073709551616) (hb : b < 18446744073709551616) (hc : c < 18446744073709551616) (hd : d < 18446744073709551616) : UAt (w.alloc (.cells #[.int .u64 (a : Int), .int .u64 (b : Int), .int .u64 (c : Int), .int .u64 (d : Int)] 22)) (some ⟨w.heap.size, 0, none⟩) 4 [a, b, c, d] := by
  obtain ⟨t0, t1, t2, t3⟩ := four_cells w (.int .u64 (a : Int)) (.int .u64 (b : Int)) (.int .u64 (c : Int)) (.int .u64 (d : Int)) 22
  refine ⟨fun h => (by cases h), Nat.le_refl _, by unfold maxLen; omega, fun i x hx => ⟨w.heap.size, 0, rfl, by simp, ?_, ?_⟩⟩
  · rw [Nat.zero_add]
    match i, hx with
    | 0, hx => cases hx; exact t0
    | 1, hx => cases hx; exact t1
    | 2, hx => cases hx; exact t2
    | 3, hx => cases hx; exact t3
    | i + 4, hx => simp at hx
  · match i, hx with
    | 0, hx => cases hx; exact ha
    | 1, hx => cases hx; exact hb
    | 2, hx => cases hx; exact hc
    | 3, hx => cases hx; exact hd
    | i + 4, hx => simp at hx
theorem gen5 : genOf 5 = 2 := by
  obtain ⟨h1, h2, h3, h4⟩ := genOf_spec odd5
  have g2 : GenP 2 5 := by
    intro q hq
    obtain ⟨pq, dq⟩ := (mem_pf (by omega)).1 hq
    have h5 := pq.1
    have h6 := Nat.le_of_dvd (by omega) dq
    have key : ∀ q, q < 5 → 2 ≤ q → 2 ^ ((5 - 1) / q) % 5 ≠ 1 := by
      have hp := pq
      intro q hq h2
      have : q = 2 ∨ q = 3 ∨ q = 4 := by omega
      rcases this with rfl | rfl | rfl <;> decide
    exact key q (by omega) h5
  by_cases e3 : 2 < genOf 5
  · exact absurd g2 (h4 2 (by omega) e3)
  · omega
theorem fld5 : Fld (enOf 5) := small_fld odd5
theorem root5 : twR (enOf 5) 4 false = 2 := by
  show rootN 5 (genOf 5) 4 = 2
  rw [gen5]; rfl
theorem p5 : (enOf 5).p = 5 := rfl
theorem dT5 : dT (enOf 5) false [1, 2, 3, 4] = [0, 4, 3, 2] := by
  have e : ∀ k, dV (enOf 5) false [1, 2, 3, 4] k = tS 2 4 (atL [1, 2, 3, 4]) k % 5 := fun k => by
    unfold dV
    rw [if_neg (by decide)]
    show tS (twR (enOf 5) 4 false) 4 _ k % 5 = _
    rw [root5]
  show (List.range 4).map (dV (enOf 5) false [1, 2, 3, 4]) = _
  rw [show (List.range 4).map (dV (enOf 5) false [1, 2, 3, 4]) = (List.range 4).map (fun k => tS 2 4 (atL [1, 2, 3, 4]) k % 5) from List.map_congr_left fun k _ => e k]
  decide
/-! ### fit -/
/-! ### fit: walks -/
end Go.Proofs.YtpjfapibjihbbaaGreatDoor
/-
  Which fault a list has, as the document of layer 15 says it. No condition but that the row lies there.
-/
namespace Go.Proofs.YtpjfapibjihbbaaGreatDoor
set_option linter.unusedVariables false
open Go.RowKit

theorem flc_err (W : World) (p : Int) (A : Option Addr) (n C : Nat) (a : Int) (e : Int) (he : (e != 0) = true) (hlen : (n : Int) ≤ 9223372036854775807) (HC : Ans 23 #[.int .u64 p, .int .i64 (n : Int), .int .i64 1024] (.int .i64 e)) : AnsB W 9 #[.int .u64 p, .slice A n C, .int .i64 a] (.int .i64 e) := by
  intro w hw
  go_enter Tryz.func9, Tryz.ntmps9
  go_wp2_with (go_at_call 23; with_reducible refine Ans.use HC _ fun n1 => ?_)
  go_ret
  exact ⟨rfl, below_drewN _ _⟩
theorem flc_kind (W : World) (p : Int) (A : Option Addr) (n C : Nat) (a : Int) (hlen : (n : Int) ≤ 9223372036854775807) (HC : Ans 23 #[.int .u64 p, .int .i64 (n : Int), .int .i64 1024] (.int .i64 0)) (HF : Ans 24 #[.int .i64 (n : Int), .int .i64 a] (.bool false)) : AnsB W 9 #[.int .u64 p, .slice A n C, .int .i64 a] (.int .i64 11) := by
  intro w hw
  go_enter Tryz.func9, Tryz.ntmps9
  go_wp2_with (first
    | (go_at_call 23; with_reducible refine Ans.use HC _ fun n1 => ?_)
    | (go_at_call 24; with_reducible refine Ans.use HF _ fun n2 => ?_))
  go_ret
  exact ⟨rfl, below_drewN _ _⟩
theorem flc_good (W : World) (p : Int) (A : Option Addr) (n C : Nat) (a : Int) (g : Bool) (e : Int) (heg : e = if g then 0 else 9) (hlen : (n : Int) ≤ 9223372036854775807) (HC : Ans 23 #[.int .u64 p, .int .i64 (n : Int), .int .i64 1024] (.int .i64 0)) (HF : Ans 24 #[.int .i64 (n : Int), .int .i64 a] (.bool true)) (HG : ∀ w, Below W.heap.size W w → AnsW w 25 #[.int .u64 p, .slice A n C] (.bool g)) : AnsB W 9 #[.int .u64 p, .slice A n C, .int .i64 a] (.int .i64 e) := by
  intro w hw
  have HG1 := HG w hw
  cases g
  · subst heg
    go_enter Tryz.func9, Tryz.ntmps9
    go_wp2_with (first
      | (go_at_call 23; with_reducible refine Ans.use HC _ fun n1 => ?_)
      | (go_at_call 24; with_reducible refine Ans.use HF _ fun n2 => ?_)
      | (go_at_call 25; with_reducible refine AnsW.use HG1 _ fun n3 => ?_))
    go_ret
    exact ⟨rfl, below_drewN w _⟩
  · subst heg
    go_enter Tryz.func9, Tryz.ntmps9
    go_wp2_with (first
      | (go_at_call 23; with_reducible refine Ans.use HC _ fun n1 => ?_)
      | (go_at_call 24; with_reducible refine Ans.use HF _ fun n2 => ?_)
      | (go_at_call 25; with_reducible refine AnsW.use HG1 _ fun n3 => ?_))
    go_ret
    exact ⟨rfl, below_drewN w _⟩
theorem faultc_any {p : Nat} (h2 : 2 ≤ p) (hp : p < 18446744073709551616) {W : World} {A : Option Addr} {C : Nat} {xs : List Nat} (hU : UAt W A C xs) (a : Int) : AnsB W 9 #[.int .u64 (p : Int), .slice A xs.length C, .int .i64 a] (.int .i64 (ck4 p xs a)) := by
  have hlen := hU.len
  have HC := dcheck_any p (by omega) (by omega) (xs.length : Int) 1024 (by omega)
  have HG := fun w (hw : Below W.heap.size W w) => dgood_any w p A C xs (hU.below hw)
  unfold ck4
  by_cases h : ckD p (xs.length : Int) 1024 = 0
  · have hl := (ckD_ok h).2.1
    have HF := dfit_any (xs.length : Int) a (by omega)
    rw [h] at HC
    rw [if_neg (by omega)]
    cases hf : fitQ (xs.length : Int) a
    · rw [hf] at HF
      rw [if_pos rfl]
      exact flc_kind W _ A _ C a hlen HC HF
    · rw [hf] at HF
      rw [if_neg (by decide)]
      exact flc_good W _ A _ C a (goodB p xs) _ (by cases goodB p xs <;> rfl) hlen HC HF HG
  · rw [if_pos h]
    exact flc_err W _ A _ C a _ (by simp only [bne_iff_ne, ne_eq]; exact h) hlen HC
/-- The transform's list has no fault, by either part. -/
theorem ck4_dT {x : En} (hF : Fld x) {i : Bool} {xs : List Nat} {a : Int} (h : ck4 x.p xs a = 0) : ck4 x.p (dT x i xs) a = 0 := by
  obtain ⟨_, _, _, _, _, _, _, _, _, _, _, hk, _⟩ := ck4_ok h
  unfold ck4 at h ⊢
  rw [dT_len, if_neg (by omega)]
  rw [if_neg (by omega)] at h
  cases hf : fitQ (xs.length : Int) a
  · rw [hf, if_pos rfl] at h; cases h
  · rw [if_neg (by decide), goodB_iff.2 (dT_lt hF i xs), if_neg (by decide)]
theorem fit_other {a b : Nat} (ha : 2 ≤ a) (hb : 2 ≤ b) (hc : Nat.Coprime a b) : fitQ (((a * b : Nat)) : Int) (b : Int) = true := by
  have := tab_fit (a := b) (b := a) (by omega)
  rw [Nat.mul_comm b a] at this
  rw [this]
  simp only [Bool.and_eq_true, decide_eq_true_eq, beq_iff_eq]
  exact ⟨⟨by omega, by omega⟩, hc.symm⟩
theorem ck4_other {p : Nat} {xs : List Nat} {a b : Nat} (h : ck4 p xs (a : Int) = 0) (hb : a * b = xs.length) : ck4 p xs (b : Int) = 0 := by
  obtain ⟨i, j, e, q2, q3, q4, q5, _, _, _, _, hk, hg⟩ := ck4_ok h
  obtain rfl : i = a := by omega
  have hj : j = b := Nat.eq_of_mul_eq_mul_left (show 0 < i by omega) (q2.trans hb.symm)
  subst hj
  have hf := fit_other q3 q4 q5
  rw [q2] at hf
  unfold ck4
  rw [if_neg (by omega), hf, if_neg (by decide), hg, if_neg (by decide)]
end Go.Proofs.YtpjfapibjihbbaaGreatDoor

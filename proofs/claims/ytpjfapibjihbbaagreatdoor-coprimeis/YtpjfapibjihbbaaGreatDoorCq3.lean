/-
  What coprime's Run answers: the transform; or which error. No condition but that the field, the row and the program's four factors lie there.
-/
import Derived.Test.YtpjfapibjihbbaaGreatDoorCq2
import Derived.Test.YtpjfapibjihbbaaGreatDoorCpI
namespace Go.Proofs.YtpjfapibjihbbaaGreatDoor
set_option linter.unusedVariables false
open Go.RowKit

theorem inS_row {a b m : Nat} (hb : 1 ≤ b) : inS a b (m / b * b + m % b) = inS a b m := by rw [Nat.mul_comm, Nat.div_add_mod]
/-- What pick, turn, turn, pick come to. -/
theorem turned_row {a b : Nat} {xs : List Nat} {k : Nat} (hk : k < a) : (mkL b fun j => atL (mkL (a * b) fun m => atL xs (inS a b m)) (k * b + j)) = rowX a b xs k :=
  mkL_ext fun j hj => mkL_at _ (place_lt hk hj)
theorem turned_col {a b : Nat} (x : En) (v : Bool) {xs : List Nat} {j : Nat} (hj : j < b) : (mkL a fun i => atL (mkL (a * b) fun m => dV x v (rowX a b xs (m % a)) (m / a)) (j * a + i)) = colX x v a b xs j := by
  refine mkL_ext fun i hi => ?_
  rw [mkL_at _ (by rw [Nat.mul_comm a b]; exact place_lt hj hi)]
  rw [show (j * a + i) % a = i by rw [Nat.add_comm, Nat.add_mul_mod_self_right, Nat.mod_eq_of_lt hi], show (j * a + i) / a = j by rw [Nat.add_comm, Nat.add_mul_div_right _ _ (by omega), Nat.div_eq_of_lt hi, Nat.zero_add]]
theorem turned_all {x : En} (hF : Fld x) {a b : Nat} {xs : List Nat} (ha : 1 ≤ a) (hb : 1 ≤ b) (hc : Nat.Coprime a b) (hl : xs.length = a * b) (hd : (x.p - 1) % (a * b) = 0) (v : Bool) :
    (mkL (a * b) fun k => atL (mkL (a * b) fun m => dV x v (colX x v a b xs (m % b)) (m / b)) (ouS a b k)) = dT x v xs := by
  unfold dT
  rw [hl]
  refine mkL_ext fun k hk => ?_
  rw [mkL_at _ (ouS_lt ha hb k), ouS_mod, ouS_div hb]
  exact dV_parts hF ha hb hc hl hd v k

theorem runc_err (W : World) (v : Option Addr) (A : Option Addr) (n C : Nat) (a : Int) (i : Bool) (e : Int) (he : (e != 0) = true) (HC : ∀ w, Below W.heap.size W w → AnsW w 20 #[.pointer v, .slice A n C, .int .i64 a] (.int .i64 e)) : AnsB W 7 #[.pointer v, .slice A n C, .int .i64 a, .bool i] (.tuple #[.slice none 0 0, .int .i64 e]) := by
  intro w hw
  have HC1 := HC w hw
  go_enter Tryz.func7, Tryz.ntmps7
  go_wp2_with (go_at_call 20; with_reducible refine AnsW.use0 HC1 fun n1 => ?_)
  go_ret2
  exact ⟨rfl, below_drewN _ _⟩
set_option maxHeartbeats 2000000 in
theorem runc_walk (W : World) (v : Option Addr) (A : Option Addr) (n C a b : Nat) (i : Bool) (h1 : 1 ≤ n) (hn : n ≤ 1024) (hab : n / a = b) (ha : ¬ (a : Int) = 0) (hbl : b ≤ 1024) (is os ps ts us l : List Nat)
    (his : is.length = n) (hos : os.length = n) (hps : ps.length = n) (hts : ts.length = n) (hus : us.length = n) (hls : l.length = n)
    (h64 : (∀ y ∈ ps, y < 18446744073709551616) ∧ (∀ y ∈ ts, y < 18446744073709551616) ∧ (∀ y ∈ us, y < 18446744073709551616))
    (HC : ∀ w, Below W.heap.size W w → AnsW w 20 #[.pointer v, .slice A n C, .int .i64 (a : Int)] (.int .i64 0))
    (HI : NewRow W 12 #[.int .i64 (a : Int), .int .i64 (b : Int)] (ints is))
    (HO : NewRow W 13 #[.int .i64 (a : Int), .int .i64 (b : Int)] (ints os))
    (HP : ∀ w b2 o2 D, Below W.heap.size W w → ZAt w (some ⟨b2, o2, none⟩) D (ints is) → OwnR w 21 #[.slice A n C, .slice (some ⟨b2, o2, none⟩) n D] ps)
    (HT : ∀ w g D, Below W.heap.size W w → UAt w (some ⟨g, 0, none⟩) D ps → OwnR w 22 #[.pointer v, .slice (some ⟨g, 0, none⟩) n D, .int .i64 (b : Int), .bool i] ts)
    (HU : ∀ w g D, Below W.heap.size W w → UAt w (some ⟨g, 0, none⟩) D ts → OwnR w 22 #[.pointer v, .slice (some ⟨g, 0, none⟩) n D, .int .i64 (a : Int), .bool i] us)
    (HQ : ∀ w g D b2 o2 E, Below W.heap.size W w → UAt w (some ⟨g, 0, none⟩) D us → ZAt w (some ⟨b2, o2, none⟩) E (ints os) → OwnR w 21 #[.slice (some ⟨g, 0, none⟩) n D, .slice (some ⟨b2, o2, none⟩) n E] l) :
    OwnT W 7 #[.pointer v, .slice A n C, .int .i64 (a : Int), .bool i] l := by
  intro w hw
  rw [hls]
  have HC1 := HC w hw
  have hq := divB hab
  have hbw : wrap64 (b : Int) = (b : Int) := wrN (by omega)
  have hlen : (n : Int) ≤ 9223372036854775807 := by omega
  have hil : (ints is).length = n := by rw [ints_len, his]
  have hol : (ints os).length = n := by rw [ints_len, hos]
  have HI' : Hid (∀ (w1 : World) {R : Ending → World → Prop}, Below W.heap.size W w1 → (∀ g o C1 w', ZAt w' (some ⟨g, o, none⟩) C1 (ints is) → Below w1.heap.size w1 w' → R (.returned (.slice (some ⟨g, o, none⟩) n C1)) w') → Calls Tryz.prog 12 #[.int .i64 (a : Int), .int .i64 (b : Int)] w1 R) :=
    fun w1 R hw1 k => NewRow.useL HI hil hw1 fun A1 C1 w' q1 q2 => by
      obtain ⟨g, o, rfl, _, _⟩ := q1.nat (i := 0) (List.getElem?_eq_getElem (show 0 < is.length by omega))
      exact k g o C1 w' q1 q2
  have HO' : Hid (∀ (w1 : World) {R : Ending → World → Prop}, Below W.heap.size W w1 → (∀ g o C1 w', ZAt w' (some ⟨g, o, none⟩) C1 (ints os) → Below w1.heap.size w1 w' → R (.returned (.slice (some ⟨g, o, none⟩) n C1)) w') → Calls Tryz.prog 13 #[.int .i64 (a : Int), .int .i64 (b : Int)] w1 R) :=
    fun w1 R hw1 k => NewRow.useL HO hol hw1 fun A1 C1 w' q1 q2 => by
      obtain ⟨g, o, rfl, _, _⟩ := q1.nat (i := 0) (List.getElem?_eq_getElem (show 0 < os.length by omega))
      exact k g o C1 w' q1 q2
  have HN : Hid (1 ≤ n) := h1
  have HL : Hid (ps.length = n ∧ ts.length = n ∧ us.length = n ∧ l.length = n) := ⟨hps, hts, hus, hls⟩
  have HS := (show Hid _ from h64)
  have HP' := (show Hid _ from HP)
  have HT' := (show Hid _ from HT)
  have HU' := (show Hid _ from HU)
  have HQ' := (show Hid _ from HQ)
  have HW : Hid (Below W.heap.size W w) := hw
  clear HC HI HO HP HT HU HQ h64 his hos hps hts hus hls hil hol h1 hab hw
  go_enter Tryz.func7, Tryz.ntmps7
  go_wp2_with (first
    | (go_at_call 20; with_reducible refine AnsW.use0 HC1 fun n1 => ?_; have hw1 := bb HW.out (below_drewN w n1))
    | (go_at_call 12; with_reducible refine HI'.out _ hw1 fun g2 o2 C2 w2 hZ2 hb2 => ?_; have hw2 := bb hw1 hb2; have HP2 := HP'.out w2 g2 o2 C2 hw2 hZ2)
    | (go_at_call 21; with_reducible refine OwnR.useG HP2 HL.out.1 HN.out (Below.refl _ _) fun g3 C3 w3 hO3 hb3 => ?_; have hw3 := bb hw2 hb3; have HT3 := HT'.out w3 g3 C3 hw3 (hO3.words HS.out.1))
    | (go_at_call 22; with_reducible refine OwnR.useG HT3 HL.out.2.1 HN.out (Below.refl _ _) fun g4 C4 w4 hO4 hb4 => ?_; have hw4 := bb hw3 hb4; have HU4 := HU'.out w4 g4 C4 hw4 (hO4.words HS.out.2.1))
    | (go_at_call 22; with_reducible refine OwnR.useG HU4 HL.out.2.2.1 HN.out (Below.refl _ _) fun g5 C5 w5 hO5 hb5 => ?_; have hw5 := bb hw4 hb5; have hU5 := hO5.words HS.out.2.2)
    | (go_at_call 13; with_reducible refine HO'.out _ hw5 fun g6 o6 C6 w6 hZ6 hb6 => ?_; have hw6 := bb hw5 hb6; have HQ6 := HQ'.out w6 g5 C5 g6 o6 C6 hw6 (hU5.below hb6) hZ6)
    | (go_at_call 21; with_reducible refine OwnR.useG HQ6 HL.out.2.2.2 HN.out (Below.refl _ _) fun g7 C7 w7 hO7 hb7 => ?_))
  go_ret2
  have hB6 : Below w.heap.size w w6 := bb (below_drewN w n1) (bb hb2 (bb hb3 (bb hb4 (bb hb5 hb6))))
  exact ⟨_, _, rfl, hO7.base hB6.size, bb hB6 hb7⟩
/-- Run, of a list that is transformed. -/
theorem runc_ok {W : World} {b : Nat} {x : En} (F : FieldAt W b x) (hF : Fld x) (hG : FacG W) {A : Option Addr} {C : Nat} {xs : List Nat} (hU : UAt W A C xs) {a : Int} (hk : ck4 x.p xs a = 0) (i : Bool) : OwnT W 7 #[pt b, .slice A xs.length C, .int .i64 a, .bool i] (dT x i xs) := by
  obtain ⟨a, c, rfl, hac, ha2, hc2, hcop, h1, hn, hd, hg, hck, hgb⟩ := ck4_ok hk
  obtain ⟨h3, hodd, hlt⟩ := hF.num
  have hT : Tab a c := ⟨ha2, hc2, by omega, hcop⟩
  obtain ⟨hal, hcl⟩ := hT.le
  have hda : (x.p - 1) % (a * c) = 0 := by rw [hac]; exact hd
  have hdc : (x.p - 1) % c = 0 := cpart_mod hda
  have hda' : (x.p - 1) % a = 0 := cpart_mod (a := c) (by rw [Nat.mul_comm]; exact hda)
  have h64 : ∀ {y}, y < x.p → y < 18446744073709551616 := fun h => by omega
  have hxs : ∀ k, k < xs.length → atL xs k < x.p := fun k hk => hg _ (atL_mem hk)
  obtain ⟨ba, oa, rfl⟩ := hU.addr h1
  have hcapU := hU.cap
  have hall := turned_all hF (show 1 ≤ a by omega) (show 1 ≤ c by omega) hcop hac.symm hda i
  have hin : ∀ m, inS a c m < a * c := fun m => inS_lt (by omega) (by omega) m
  have hrow : ∀ k, k < a → ∀ y ∈ rowX a c xs k, y < x.p := fun k hk y hy => by
    obtain ⟨j, hj, rfl⟩ := List.mem_map.1 hy
    exact hxs _ (by rw [← hac]; exact hin _)
  have hcol : ∀ j, ∀ y ∈ colX x i a c xs j, y < x.p := fun j y hy => by
    obtain ⟨k, hk, rfl⟩ := List.mem_map.1 hy
    exact dV_lt hF i _ _
  refine runc_walk W _ _ xs.length C a c i h1 hn (by rw [← hac]; exact Nat.mul_div_cancel_left c (by omega)) (by omega) (by omega) (inL a c) (ouL a c)
    (mkL (a * c) fun m => atL xs (inS a c m)) (mkL (a * c) fun m => dV x i (rowX a c xs (m % a)) (m / a)) (mkL (a * c) fun m => dV x i (colX x i a c xs (m % c)) (m / c)) (dT x i xs)
    (by rw [inL_len, hac]) (by rw [ouL_len, hac]) (by rw [mkL_len, hac]) (by rw [mkL_len, hac]) (by rw [mkL_len, hac]) (dT_len _ _ _)
    ⟨fun y hy => ?_, fun y hy => ?_, fun y hy => ?_⟩
    (fun w hw => (chc_any (F.below hw) (hU.below hw) (a : Int)).to (by rw [hk])) (in_yes W hT) (out_yes W hT)
    (fun w b2 o2 D hw hZ => ?_) (fun w g D hw hV => ?_) (fun w g D hw hV => ?_) (fun w g D b2 o2 E hw hV hZ => ?_)
  · obtain ⟨m, _, rfl⟩ := List.mem_map.1 hy
    exact h64 (hxs _ (by rw [← hac]; exact hin _))
  · obtain ⟨m, _, rfl⟩ := List.mem_map.1 hy
    exact h64 (dV_lt hF i _ _)
  · obtain ⟨m, _, rfl⟩ := List.mem_map.1 hy
    exact h64 (dV_lt hF i _ _)
  · rw [← hac]
    have := pick_walk w ba oa C xs (a * c) b2 o2 D (a * c) (inS a c) (hU.below hw) hac.symm hZ (fun k _ => hin k) (by omega)
    exact this
  · rw [← hac]
    have hcap : a * c ≤ D := by have := hV.cap; rw [mkL_len] at this; exact this
    refine turn_walk w _ g 0 D (a * c) a c rfl (by omega) (by omega) (by omega) hcap i (fun k j => dV x i (rowX a c xs k) j) (fun k j _ _ => h64 (dV_lt hF i _ _)) fun w1 k hw1 hk => ?_
    have hp := (hV.below hw1).part (s := k * c) (c := c) (by rw [mkL_len]; have := Nat.mul_le_mul_right c (show k + 1 ≤ a by omega); rw [Nat.add_mul, Nat.one_mul] at this; exact this)
    rw [turned_row hk] at hp
    have hl := line_any (F.below (bb hw hw1)) hF (hG.below (bb hw hw1)) hp (by rw [show (rowX a c xs k).length = c from mkL_len _ _]; omega) (by rw [show (rowX a c xs k).length = c from mkL_len _ _]; omega) (by rw [show (rowX a c xs k).length = c from mkL_len _ _]; exact hdc) (hrow k hk) i
    rw [show (rowX a c xs k).length = c from mkL_len _ _] at hl
    unfold dT at hl
    rw [show (rowX a c xs k).length = c from mkL_len _ _] at hl
    exact hl
  · rw [← hac]
    have hcap : a * c ≤ D := by have := hV.cap; rw [mkL_len] at this; exact this
    refine turn_walk w _ g 0 D (a * c) c a (Nat.mul_comm c a) (by omega) (by omega) (by omega) hcap i (fun j k => dV x i (colX x i a c xs j) k) (fun k j _ _ => h64 (dV_lt hF i _ _)) fun w1 j hw1 hj => ?_
    have hp := (hV.below hw1).part (s := j * a) (c := a) (by rw [mkL_len, Nat.mul_comm a c]; have := Nat.mul_le_mul_right a (show j + 1 ≤ c by omega); rw [Nat.add_mul, Nat.one_mul] at this; exact this)
    rw [turned_col x i hj] at hp
    have hl := line_any (F.below (bb hw hw1)) hF (hG.below (bb hw hw1)) hp (by rw [show (colX x i a c xs j).length = a from mkL_len _ _]; omega) (by rw [show (colX x i a c xs j).length = a from mkL_len _ _]; omega) (by rw [show (colX x i a c xs j).length = a from mkL_len _ _]; exact hda') (hcol j) i
    rw [show (colX x i a c xs j).length = a from mkL_len _ _] at hl
    unfold dT at hl
    rw [show (colX x i a c xs j).length = a from mkL_len _ _] at hl
    exact hl
  · rw [← hac, ← hall]
    exact pick_walk w g 0 D _ (a * c) b2 o2 E (a * c) (ouS a c) hV (mkL_len _ _) hZ (fun k _ => ouS_lt (by omega) (by omega) k) (by omega)
theorem runc_bad {W : World} {b : Nat} {x : En} (F : FieldAt W b x) {A : Option Addr} {C : Nat} {xs : List Nat} (hU : UAt W A C xs) {a : Int} (hk : ck4 x.p xs a ≠ 0) (i : Bool) : AnsB W 7 #[pt b, .slice A xs.length C, .int .i64 a, .bool i] (.tuple #[.slice none 0 0, .int .i64 (ck4 x.p xs a)]) :=
  runc_err W _ A _ C a i _ (by simp only [bne_iff_ne, ne_eq]; exact hk) fun w hw => chc_any (F.below hw) (hU.below hw) a
theorem runc_nil (W : World) (A : Option Addr) (n C : Nat) (a : Int) (i : Bool) (hlen : (n : Int) ≤ 9223372036854775807) : AnsB W 7 #[.pointer none, .slice A n C, .int .i64 a, .bool i] (.tuple #[.slice none 0 0, .int .i64 2]) :=
  runc_err W none A n C a i 2 (by decide) fun w _ => chc_err w none A n C a 2 (by decide) hlen (ck_nil w _ _)
end Go.Proofs.YtpjfapibjihbbaaGreatDoor

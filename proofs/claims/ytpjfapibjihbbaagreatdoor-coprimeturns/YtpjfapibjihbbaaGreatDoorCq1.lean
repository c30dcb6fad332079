/-
  What coprime's check, line and pick answer. No condition but that the field, the rows and the program's four factors lie there.
-/
import Derived.Test.YtpjfapibjihbbaaGreatDoorCq0
import Derived.Test.YtpjfapibjihbbaaGreatDoorF44
import Derived.Test.YtpjfapibjihbbaaGreatDoorF42
namespace Go.Proofs.YtpjfapibjihbbaaGreatDoor
set_option linter.unusedVariables false
open Go.RowKit

/-! ### check -/
/-- Which error a list has. -/
def ck4 (p : Nat) (xs : List Nat) (a : Int) : Int := if ckD p (xs.length : Int) 1024 ≠ 0 then ckD p (xs.length : Int) 1024 else if fitQ (xs.length : Int) a = false then 11 else if goodB p xs = false then 9 else 0
/-- A part of a number. -/
theorem fit_yes {n : Nat} {a : Int} (h : fitQ (n : Int) a = true) : ∃ i j : Nat, a = i ∧ i * j = n ∧ 2 ≤ i ∧ 2 ≤ j ∧ Nat.Coprime i j := by
  unfold fitQ at h
  simp only [Bool.and_eq_true, decide_eq_true_eq, beq_iff_eq] at h
  obtain ⟨⟨⟨h1, h2⟩, h3⟩, h4⟩ := h
  obtain ⟨i, rfl⟩ := Int.eq_ofNat_of_zero_le (show 0 ≤ a by omega)
  have hd : i ∣ n := Nat.dvd_of_mod_eq_zero (by omega)
  obtain ⟨j, rfl⟩ := hd
  rw [← Int.natCast_ediv, Int.toNat_natCast, Int.toNat_natCast, Nat.mul_div_cancel_left j (by omega)] at h4
  refine ⟨i, j, rfl, rfl, by omega, ?_, h4⟩
  rcases (show j = 0 ∨ j = 1 ∨ 2 ≤ j by omega) with e | e | e
  · subst e; rw [Nat.mul_zero] at h2; omega
  · subst e; rw [Nat.mul_one] at h2; omega
  · exact e
theorem ck4_ok {p : Nat} {xs : List Nat} {a : Int} (h : ck4 p xs a = 0) : ∃ i j : Nat, a = i ∧ i * j = xs.length ∧ 2 ≤ i ∧ 2 ≤ j ∧ Nat.Coprime i j ∧ 1 ≤ xs.length ∧ xs.length ≤ 1024 ∧ (p - 1) % xs.length = 0 ∧ (∀ y ∈ xs, y < p) ∧ ckD p (xs.length : Int) 1024 = 0 ∧ goodB p xs = true := by
  unfold ck4 at h
  by_cases h0 : ckD p (xs.length : Int) 1024 = 0
  · rw [if_neg (by omega)] at h
    obtain ⟨h1, h2, h3⟩ := ckD_ok h0
    cases hf : fitQ (xs.length : Int) a
    · rw [hf, if_pos rfl] at h; cases h
    · rw [hf, if_neg (by decide)] at h
      cases hg : goodB p xs
      · rw [hg, if_pos rfl] at h; cases h
      · obtain ⟨i, j, q1, q2, q3, q4, q5⟩ := fit_yes hf
        exact ⟨i, j, q1, q2, q3, q4, q5, h1, by omega, h3, goodB_iff.1 hg, h0, rfl⟩
  · rw [if_pos h0] at h; exact absurd h h0
theorem chc_err (w : World) (v : Option Addr) (A : Option Addr) (n C : Nat) (a : Int) (e : Int) (he : (e != 0) = true) (hlen : (n : Int) ≤ 9223372036854775807) (HC : AnsW w 43 #[.pointer v, .int .i64 (n : Int), .int .i64 1024] (.int .i64 e)) : AnsW w 20 #[.pointer v, .slice A n C, .int .i64 a] (.int .i64 e) := by
  intro n0
  go_enter Tryz.func20, Tryz.ntmps20
  go_wp2_with (go_at_call 43; with_reducible refine AnsW.use HC _ fun n1 => ?_)
  go_ret
  exact ⟨rfl, _, rfl⟩
theorem chc_kind (w : World) (v : Option Addr) (A : Option Addr) (n C : Nat) (a : Int) (hlen : (n : Int) ≤ 9223372036854775807) (HC : AnsW w 43 #[.pointer v, .int .i64 (n : Int), .int .i64 1024] (.int .i64 0)) (HF : AnsW w 14 #[.int .i64 (n : Int), .int .i64 a] (.bool false)) : AnsW w 20 #[.pointer v, .slice A n C, .int .i64 a] (.int .i64 11) := by
  intro n0
  go_enter Tryz.func20, Tryz.ntmps20
  go_wp2_with (first
    | (go_at_call 43; with_reducible refine AnsW.use HC _ fun n1 => ?_)
    | (go_at_call 14; with_reducible refine AnsW.use HF _ fun n2 => ?_))
  go_ret
  exact ⟨rfl, _, by rw [Nat.add_assoc]⟩
theorem chc_good (w : World) (v : Option Addr) (A : Option Addr) (n C : Nat) (a : Int) (g : Bool) (e : Int) (heg : e = if g then 0 else 9) (hlen : (n : Int) ≤ 9223372036854775807) (HC : AnsW w 43 #[.pointer v, .int .i64 (n : Int), .int .i64 1024] (.int .i64 0)) (HF : AnsW w 14 #[.int .i64 (n : Int), .int .i64 a] (.bool true)) (HG : AnsW w 44 #[.pointer v, .slice A n C] (.bool g)) : AnsW w 20 #[.pointer v, .slice A n C, .int .i64 a] (.int .i64 e) := by
  intro n0
  cases g
  · subst heg
    go_enter Tryz.func20, Tryz.ntmps20
    go_wp2_with (first
      | (go_at_call 43; with_reducible refine AnsW.use HC _ fun n1 => ?_)
      | (go_at_call 14; with_reducible refine AnsW.use HF _ fun n2 => ?_)
      | (go_at_call 44; with_reducible refine AnsW.use HG _ fun n3 => ?_))
    go_ret
    exact ⟨rfl, _, by rw [Nat.add_assoc, Nat.add_assoc]⟩
  · subst heg
    go_enter Tryz.func20, Tryz.ntmps20
    go_wp2_with (first
      | (go_at_call 43; with_reducible refine AnsW.use HC _ fun n1 => ?_)
      | (go_at_call 14; with_reducible refine AnsW.use HF _ fun n2 => ?_)
      | (go_at_call 44; with_reducible refine AnsW.use HG _ fun n3 => ?_))
    go_ret
    exact ⟨rfl, _, by rw [Nat.add_assoc, Nat.add_assoc]⟩
theorem chc_any {W : World} {b : Nat} {x : En} (F : FieldAt W b x) {A : Option Addr} {C : Nat} {xs : List Nat} (hU : UAt W A C xs) (a : Int) : AnsW W 20 #[pt b, .slice A xs.length C, .int .i64 a] (.int .i64 (ck4 x.p xs a)) := by
  have hlen := hU.len
  have HC := dftck_any F (xs.length : Int) 1024 (by omega)
  have HD := dftgood_any F hU
  have HF := (cfit_any (xs.length : Int) a (by omega)).toW W
  unfold ck4
  by_cases h : ckD x.p (xs.length : Int) 1024 = 0
  · rw [h] at HC
    rw [if_neg (by omega)]
    cases hf : fitQ (xs.length : Int) a
    · rw [hf] at HF
      rw [if_pos rfl]
      exact chc_kind W _ A _ C a hlen HC HF
    · rw [hf] at HF
      rw [if_neg (by decide)]
      exact chc_good W _ A _ C a (goodB x.p xs) _ (by cases goodB x.p xs <;> rfl) hlen HC HF HD
  · rw [if_pos h]
    exact chc_err W _ A _ C a _ (by simp only [bne_iff_ne, ne_eq]; exact h) hlen HC

/-! ### line -/
theorem line_small (W : World) (v : Option Addr) (A : Option Addr) (n C : Nat) (i : Bool) (rs l : List Nat) (hl : l.length = n) (h1 : 1 ≤ n) (hlen : (n : Int) ≤ 9223372036854775807) (HR : RadY W 65 (n : Int) rs) (HM : ∀ w, Below W.heap.size W w → OwnT w 66 #[.pointer v, .slice A n C, .bool i] l) : OwnR W 45 #[.pointer v, .slice A n C, .bool i] l := by
  intro w hw
  rw [hl]
  go_enter Tryz.func45, Tryz.ntmps45
  go_wp2_with (first
    | (go_at_call 65; with_reducible refine RadY.use HR hw fun R2 E2 w2 hZ2 hb2 => ?_; have HM2 := HM w2 (bb hw hb2))
    | (go_at_call 66; with_reducible refine OwnT.useG HM2 hl h1 (Below.refl _ _) fun g3 C3 w3 hO3 hb3 => ?_))
  go_ret
  exact ⟨_, _, rfl, hO3.base hb2.size, bb hb2 hb3⟩
theorem line_great (W : World) (v : Option Addr) (A : Option Addr) (n C : Nat) (i : Bool) (l : List Nat) (hl : l.length = n) (h1 : 1 ≤ n) (hlen : (n : Int) ≤ 9223372036854775807) (HR : RadN W 65 (n : Int)) (HM : ∀ w, Below W.heap.size W w → OwnT w 67 #[.pointer v, .slice A n C, .bool i] l) : OwnR W 45 #[.pointer v, .slice A n C, .bool i] l := by
  intro w hw
  have HR' : AnsB W 65 #[.int .i64 (n : Int)] (.tuple #[.slice none 0 0, .bool false]) := HR
  rw [hl]
  go_enter Tryz.func45, Tryz.ntmps45
  go_wp2_with (first
    | (go_at_call 65; with_reducible refine AnsB.use HR' hw fun w2 hb2 => ?_; have HM2 := HM w2 (bb hw hb2))
    | (go_at_call 67; with_reducible refine OwnT.useG HM2 hl h1 (Below.refl _ _) fun g3 C3 w3 hO3 hb3 => ?_))
  go_ret
  exact ⟨_, _, rfl, hO3.base hb2.size, bb hb2 hb3⟩
/-- A row's transform. -/
theorem line_any {W : World} {b : Nat} {x : En} (F : FieldAt W b x) (hF : Fld x) (hG : FacG W) {A : Option Addr} {C : Nat} {xs : List Nat} (hU : UAt W A C xs) (h1 : 1 ≤ xs.length) (hn : xs.length ≤ 1024) (hd : (x.p - 1) % xs.length = 0) (hg : ∀ y ∈ xs, y < x.p) (i : Bool) : OwnR W 45 #[pt b, .slice A xs.length C, .bool i] (dT x i xs) := by
  have hlen := hU.len
  cases hr : radV (xs.length : Int) with
  | none => exact line_great W _ A _ C i _ (dT_len _ _ _) h1 hlen (rad_no hG hr) fun w hw => run_yes (F.below hw) hF (hU.below hw) h1 hn hd hg i
  | some rs =>
    refine line_small W _ A _ C i rs _ (dT_len _ _ _) h1 hlen (rad_yes hG hr) fun w hw => runm_ok (F.below hw) hF (hG.below hw) (hU.below hw) ?_ i
    unfold ck3
    rw [if_neg (by rw [ckD_yes h1 (by omega) hd]; decide), hr, if_neg (isNone_s _), goodB_iff.2 hg, if_neg (by decide)]

/-! ### pick -/
set_option maxRecDepth 100000 in
set_option maxHeartbeats 2000000 in
/-- The numbers at these places. -/
theorem pick_walk (W : World) (b o C : Nat) (xs : List Nat) (n : Nat) (b2 o2 D : Nat) (m : Nat) (s : Nat → Nat) (hU : UAt W (some ⟨b, o, none⟩) C xs) (hl : xs.length = n) (hZ : ZAt W (some ⟨b2, o2, none⟩) D (ints (mkL m s))) (hs : ∀ k, k < m → s k < n) (hm : m ≤ 4096) :
    OwnR W 21 #[.slice (some ⟨b, o, none⟩) n C, .slice (some ⟨b2, o2, none⟩) m D] (mkL m fun k => atL xs (s k)) := by
  intro w hw
  rw [mkL_len]
  obtain ⟨ii, hii, hzi, hsi, hbi⟩ := info_parts infoWd
  have hlen : (m : Int) ≤ 9223372036854775807 := by omega
  have hU' := hU.below hw
  have hZ' := hZ.below hw
  have HS : Hid (∀ k, k < m → s k < n) := hs
  have HM : Hid (m ≤ 4096) := hm
  have HXL : Hid (xs.length = n) := hl
  clear hU hZ hs hl
  go_enter Tryz.func21, Tryz.ntmps21
  go_wp2_with (at_make; refine Hid.out ?_)
  unfold Hid
  refine wpList_make_full _ rfl _ _ 26 rfl w.heap.size 22 ii _ 1 Tryz.underlying26 hii hzi hsi .i64 .i64 (m : Int) (m : Int) m rfl rfl rfl rfl (by have := HM.out; rw [hbi]; omega) (by have := HM.out; unfold maxLen; omega) (Nat.le_refl _) ?_
  intro w1 hR hG1
  have hB1 : Below w.heap.size w w1 := (Below.refl _ _).grown hG1 (Nat.le_refl _) (fun k ek => by cases ek)
  obtain ⟨gc, hgc⟩ : ∃ gc, w.heap.size = gc := ⟨_, rfl⟩
  have hR2 : OwnU w1 w.heap.size (some ⟨w.heap.size, 0, none⟩) m (wfl 0 m 0 fun k => atL xs (s k)) := by
    unfold OwnU
    rw [wfl_len, wfl_zero]
    have e : (madeCells (Value.int .u64 0).cells (m * 1)).toList = ucells (List.replicate m 0) := by
      rw [made_list rfl]; simp [ucells]
    rw [← e]; exact hR
  have HGC : Hid (w.heap.size = gc) := hgc
  have HR2 : Hid (OwnU w1 w.heap.size (some ⟨gc, 0, none⟩) m (wfl 0 m 0 fun k => atL xs (s k))) := by unfold Hid; rw [← hgc]; exact hR2
  rw [show (Value.slice (some ⟨w.heap.size, 0, none⟩) m m) = .slice (some ⟨gc, 0, none⟩) m m by rw [hgc]]
  clear hR hR2 hG1 hgc
  go_wp2
  go_loopw [13] (fun v wr => ∃ k : Nat, v = .int .i64 (k : Int) ∧ k ≤ m ∧ Hid (OwnU wr w.heap.size (some ⟨gc, 0, none⟩) m (wfl 0 m k fun k => atL xs (s k))) ∧ Below w.heap.size w wr) (fun v _ => m - (intOf v).toNat)
  case atStart => exact ⟨0, rfl, by omega, HR2, hB1⟩
  case round =>
    clear HR2 hB1
    obtain ⟨k, rfl, hk, HO, hB⟩ := hrel
    by_cases hlt : k < m
    · obtain ⟨q, hq⟩ : ∃ q, s k = q := ⟨_, rfl⟩
      have hqn : q < n := by rw [← hq]; exact HS.out k hlt
      obtain ⟨b4, o4, hA4, _, cz⟩ := (hZ'.below hB).nat (i := k) (d := q) (by rw [mkL_get _ hlt, hq])
      simp only [Option.some.injEq, Addr.mk.injEq, and_true] at hA4
      obtain ⟨rfl, rfl⟩ := hA4
      obtain ⟨y, hy⟩ : ∃ y, xs[q]? = some y := ⟨_, List.getElem?_eq_getElem (by rw [HXL.out]; exact hqn)⟩
      have cx := ((hU'.below hB).at hy).1
      obtain ⟨g', hg', _, _, hck, hfz⟩ := HO.out.get (wfl_get 0 (fun k => atL xs (s k)) hlt)
      cases hg'
      have HO3 : Hid (OwnU (wr.setCell ⟨gc, k, none⟩ (.int .u64 (y : Int))) w.heap.size (some ⟨gc, 0, none⟩) m (wfl 0 m (k + 1) fun k => atL xs (s k))) := by
        unfold Hid
        rw [← wfl_set]
        show OwnU _ _ _ _ (List.set _ k (atL xs (s k)))
        rw [hq, atL_of hy]
        exact HO.out.set k y
      have hB3 : Below w.heap.size w (wr.setCell ⟨gc, k, none⟩ (.int .u64 (y : Int))) := hB.setCell (p := ⟨gc, k, none⟩) (by rw [HGC.out]; exact Nat.le_refl _) _
      clear hy HO hB hq
      go_wp2
      go_roundw
      case rel => exact ⟨k + 1, by go_num, by omega, HO3, hB3⟩
      case measure => simp [intOf]; omega
    · obtain rfl : k = m := by omega
      have HO4 : Hid (OwnU wr w.heap.size (some ⟨gc, 0, none⟩) k (mkL k fun k => atL xs (s k))) := by
        have := HO.out
        rw [wfl_all] at this
        exact this
      clear HO
      go_wp2
      go_ret
      exact ⟨_, _, rfl, HO4.out, hB⟩
end Go.Proofs.YtpjfapibjihbbaaGreatDoor

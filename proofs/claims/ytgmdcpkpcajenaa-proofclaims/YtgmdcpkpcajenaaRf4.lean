/-
  The contracts of the document's Right and Check; of great.
-/
import Derived.Test.YtgmdcpkpcajenaaRf3
namespace Go.Proofs.Ytgmdcpkpcajenaa
set_option linter.unusedVariables false
open Go.RowKit

theorem last_take {es : List En} {n : Nat} {y : En} (h : es[n]? = some y) : (es.take (n + 1)).getLast? = some y := by
  have hn : n < es.length := (List.getElem?_eq_some_iff.1 h).1
  rw [List.getLast?_eq_getElem?, List.length_take, List.getElem?_take, show min (n + 1) es.length - 1 = n by omega, if_pos (by omega)]
  exact h
/-- Right. -/
theorem rright_any (W : World) (A : Option Addr) (C : Nat) (es : List En) (hE : EntsAt W A C es) (i : Nat) (x : En) (hx : es[i]? = some x) :
    AnsB W 20 #[.slice A es.length C, .int .i64 (i : Int)] (.bool (rightB (es.take i) x)) := by
  have hil : i < es.length := (List.getElem?_eq_some_iff.1 hx).1
  have hcl := hE.cap
  have hcm := hE.max
  unfold maxLen at hcm
  obtain ⟨b, o, A', C', rfl, hb, d0, d1, d2, hP, hp, hg⟩ := hE.get i x hx
  -- the entry right ahead
  obtain ⟨j, q, hj, hcb⟩ : ∃ (j : Nat) (q : Int), (decide (0 < i) = true → (i : Int) - 1 = j ∧ (j : Int) < es.length ∧ W.cell? ⟨b, o + j * 3, none⟩ = some (.int .u64 q)) ∧ climbsB (es.take i) x.p = (if 0 < i then decide (q < (x.p : Int)) else true) := by
    cases i with
    | zero => exact ⟨0, 0, fun h => by simp at h, rfl⟩
    | succ n =>
      obtain ⟨y, hy⟩ : ∃ y, es[n]? = some y := ⟨_, List.getElem?_eq_getElem (by omega)⟩
      obtain ⟨b2, o2, _, _, ha, _, e0, _⟩ := hE.get n y hy
      cases ha
      refine ⟨n, y.p, fun _ => ⟨by omega, by omega, e0⟩, ?_⟩
      unfold climbsB
      rw [last_take hy, if_pos (by omega)]
      show decide (y.p < x.p) = _
      rw [Bool.eq_iff_iff]; simp
  obtain ⟨r, hr⟩ : ∃ r : Nat, x.p % 2 = r := ⟨_, rfl⟩
  have hr2 : (x.p : Int) % 2 = (r : Int) := by omega
  have Hd : ∀ c1 c2 c3 c4 c5, ((r : Int) == 0) = c1 → decide ((x.p : Int) < 3) = c2 → decide (9223372036854775807 < (x.p : Int)) = c3 → decide (0 < i) = c4 → decide ((x.p : Int) ≤ q) = c5 → Head W b o i (x.p : Int) q (r : Int) c1 c2 c3 c4 c5 := fun c1 c2 c3 c4 c5 h1 h2 h3 h4 h5 =>
    ⟨by omega, by omega, hr2, by rw [Int.tmod_eq_emod_of_nonneg (by omega)]; exact hr2, wrap_small _ (by omega) (by omega), h1, h2, h3, h4, h5⟩
  have hnot : ¬ Gd x.p → rightB (es.take i) x = false := fun h => not_right fun ht => h (right_parts ht).1
  by_cases h1 : r = 0
  · rw [hnot (fun hgd => by have := hgd.1; omega)]
    exact rr_head_bad W b o i es.length C _ _ q r A' _ C' j _ _ _ _ _ (Hd true _ _ _ _ (by rw [h1]; rfl) rfl rfl rfl rfl) (by omega) (by omega) hb hj d0 d1 d2 (Or.inl rfl)
  have e1 : ((r : Int) == 0) = false := by simp; omega
  by_cases h2 : x.p < 3
  · rw [hnot (fun hgd => by have := hgd.1; have := hgd.2.1; omega)]
    exact rr_head_bad W b o i es.length C _ _ q r A' _ C' j _ _ _ _ _ (Hd false true _ _ _ e1 (decide_eq_true (by omega)) rfl rfl rfl) (by omega) (by omega) hb hj d0 d1 d2 (Or.inr (Or.inl ⟨rfl, rfl⟩))
  have e2 : decide ((x.p : Int) < 3) = false := decide_eq_false (by omega)
  by_cases h3 : 9223372036854775807 < x.p
  · rw [hnot (fun hgd => by have := hgd.2.2; omega)]
    exact rr_head_bad W b o i es.length C _ _ q r A' _ C' j _ _ _ _ _ (Hd false false true _ _ e1 e2 (decide_eq_true (by omega)) rfl rfl) (by omega) (by omega) hb hj d0 d1 d2 (Or.inr (Or.inr (Or.inl ⟨rfl, rfl, rfl⟩)))
  have e3 : decide (9223372036854775807 < (x.p : Int)) = false := decide_eq_false (by omega)
  have hgd : Gd x.p := ⟨by omega, by omega, by omega⟩
  by_cases h4 : 0 < i ∧ (x.p : Int) ≤ q
  · have hcf : climbsB (es.take i) x.p = false := by rw [hcb, if_pos h4.1]; exact decide_eq_false (by omega)
    rw [not_right fun ht => by rw [(right_parts ht).2.1] at hcf; cases hcf]
    exact rr_head_bad W b o i es.length C _ _ q r A' _ C' j _ _ _ _ _ (Hd false false false true true e1 e2 e3 (decide_eq_true h4.1) (decide_eq_true h4.2)) (by omega) (by omega) hb (fun _ => hj (decide_eq_true h4.1)) d0 d1 d2 (Or.inr (Or.inr (Or.inr ⟨rfl, rfl, rfl, rfl, rfl⟩)))
  have hct : climbsB (es.take i) x.p = true := by
    rw [hcb]
    split
    · next h => exact decide_eq_true (by omega)
    · rfl
  obtain ⟨c4, c5, h5, Hd5, hj5⟩ : ∃ c4 c5, (c4 = false ∨ (c4 = true ∧ c5 = false)) ∧ Head W b o i (x.p : Int) q (r : Int) false false false c4 c5 ∧ (c4 = true → (i : Int) - 1 = j ∧ (j : Int) < es.length ∧ W.cell? ⟨b, o + j * 3, none⟩ = some (.int .u64 q)) := by
    by_cases h0 : 0 < i
    · exact ⟨true, false, Or.inr ⟨rfl, rfl⟩, Hd _ _ _ _ _ e1 e2 e3 (decide_eq_true h0) (decide_eq_false (by omega)), fun _ => hj (decide_eq_true h0)⟩
    · exact ⟨false, _, Or.inl rfl, Hd _ _ _ _ _ e1 e2 e3 (decide_eq_false h0) rfl, fun h => by cases h⟩
  by_cases h6 : x.fs.length < 1
  · rw [not_right fun ht => by have := (right_parts ht).2.2.1; omega]
    exact rr_few W b o i es.length C _ _ q r A' _ C' j c4 c5 Hd5 (by omega) (by omega) hb hj5 d0 d1 d2 h5 (by omega)
  by_cases h7 : 16 < x.fs.length
  · rw [not_right fun ht => by have := (right_parts ht).2.2.1; omega]
    exact rr_many W b o i es.length C _ _ q r A' _ C' j c4 c5 Hd5 (by omega) (by omega) hb hj5 d0 d1 d2 h5 (by omega) (by omega)
  obtain ⟨f0, hf0⟩ : ∃ f, x.fs[0]? = some f := ⟨_, List.getElem?_eq_getElem (by omega)⟩
  obtain ⟨fb, fo, rfl, hfb, k0, k1, hok⟩ := hP.get 0 f0 hf0
  rw [Nat.zero_mul, Nat.add_zero] at k0
  by_cases h8 : f0.q = 2
  · rw [h8] at k0
    exact rr_main W b o i es.length C _ _ q r fb fo _ C' j c4 c5 Hd5 (by omega) (by omega) hb hj5 d0 d1 d2 h5 es x ((x.p - 1 : Nat) : Int) _ hE (by omega) (by omega) (by omega) hP ⟨rfl, rfl, rfl, rfl⟩ rfl hgd hct (by omega) (by omega) (by omega) (wrap_small _ (by omega) (by omega)) (by omega) (by omega) hfb k0 (fun f hf => by rw [hf0] at hf; cases hf; exact h8)
  · rw [not_right fun ht => by
      have := ((fac_iff _ _ _ _ _).1 (right_parts ht).2.2.2.1).2.1 0 f0 hf0
      exact h8 (by simpa [knownB] using this)]
    exact rr_first W b o i es.length C _ _ q r fb fo _ C' j c4 c5 Hd5 (by omega) (by omega) hb hj5 d0 d1 d2 h5 (by omega) (by omega) hfb (f0.q : Int) k0 (by simp only [bne_iff_ne]; omega)

set_option maxHeartbeats 1000000 in
theorem rcheck_walk (W : World) (A : Option Addr) (C : Nat) (es : List En) (hE : EntsAt W A C es) (h32 : ¬ 32 < es.length) :
    AnsB W 13 #[.slice A es.length C] (checkV es) := by
  intro w hw
  have HRt := fun i x => rright_any W A C es hE i x
  obtain ⟨L, hL⟩ : ∃ L, es.length = L := ⟨_, rfl⟩
  have HL : Hid (es.length = L) := hL
  have HV : Hid (checkV es = match checkO es with
    | none => .tuple #[.int .i64 0, .int .i64 0]
    | some k => .tuple #[.int .i64 (k : Int), .int .i64 3]) := by unfold Hid checkV; rw [if_neg h32]; rfl
  rw [hL] at h32 HRt ⊢
  clear hL
  go_enter Try.func13, Try.ntmps13
  go_wp2
  go_loopw [10] (fun v wr => ∃ k : Nat, v = .int .i64 k ∧ k ≤ L ∧ Hid (∀ j, j < k → badAt es j = false) ∧ Below w.heap.size w wr) (fun v _ => L - (intOf v).toNat)
  case atStart => exact ⟨0, rfl, by omega, fun j hj => absurd hj (by omega), Below.refl _ _⟩
  case round =>
    obtain ⟨k, rfl, hk, HI, hB⟩ := hrel
    by_cases hlt : k < L
    · have hlt' : k < es.length := by rw [HL.out]; exact hlt
      obtain ⟨x, hx⟩ : ∃ x, es[k]? = some x := ⟨_, List.getElem?_eq_getElem hlt'⟩
      have HR := HRt k x hx
      have hBW : Below W.heap.size W wr := bb hw hB
      have hbad := bad_some hx
      clear hx hlt' HRt
      cases hr : rightB (es.take k) x with
      | true =>
        rw [hr] at HR hbad
        have HS : Hid (∀ j, j < k + 1 → badAt es j = false) := by
          intro j hj
          by_cases h : j < k
          · exact HI.out j h
          · obtain rfl : j = k := by omega
            exact hbad
        clear HI hr hbad
        go_wp2_with (go_at_call 20; with_reducible refine AnsB.use HR hBW fun w2 hb2 => ?_)
        go_roundw
        case rel => exact ⟨k + 1, by go_num, by omega, HS, bb hB hb2⟩
        case measure => simp [intOf]; omega
      | false =>
        rw [hr] at HR hbad
        have HE : Hid (checkV es = .tuple #[.int .i64 (k : Int), .int .i64 3]) := by
          unfold Hid; rw [HV.out, check_found (by rw [HL.out]; exact hlt) hbad HI.out]
        clear HI hr hbad
        go_wp2_with (go_at_call 20; with_reducible refine AnsB.use HR hBW fun w2 hb2 => ?_)
        go_ret2
        exact ⟨congrArg Ending.returned HE.out.symm, bb hB hb2⟩
    · obtain rfl : k = L := by omega
      have HE : Hid (checkV es = .tuple #[.int .i64 0, .int .i64 0]) := by
        unfold Hid; rw [HV.out, check_none (by rw [HL.out]; exact HI.out)]
      clear HI HRt
      go_wp2
      go_ret2
      exact ⟨congrArg Ending.returned HE.out.symm, hB⟩
theorem rcheck_long (W : World) (A : Option Addr) (L C : Nat) (h32 : 32 < L) (hm : (L : Int) ≤ 9223372036854775807) : AnsB W 13 #[.slice A L C] (.tuple #[.int .i64 0, .int .i64 13]) := by
  intro w hw
  go_enter Try.func13, Try.ntmps13
  go_wp2
  go_ret2
  exact ⟨rfl, Below.refl _ _⟩
/-- The document's Check. -/
theorem rcheck_any (W : World) (A : Option Addr) (C : Nat) (es : List En) (hE : EntsAt W A C es) : AnsB W 13 #[.slice A es.length C] (checkV es) := by
  by_cases h : 32 < es.length
  · have hcl := hE.cap
    have hcm := hE.max
    unfold maxLen at hcm
    unfold checkV
    rw [if_pos h]
    exact rcheck_long W A _ C h (by omega)
  · exact rcheck_walk W A C es hE h
end Go.Proofs.Ytgmdcpkpcajenaa

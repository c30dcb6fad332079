/-
  What the document tells (alive) of layer 14, and which fault a list has. No condition but that the rows and the program's four factors lie there.
-/
import Derived.Test.YtkemlbjcfbnfiaaGreatDoorF42
import Derived.Test.YtkemlbjcfbnfiaaGreatDoorF41
import Derived.Test.YtkemlbjcfbnfiaaGreatDoorDfA
namespace Go.Proofs.YtkemlbjcfbnfiaaGreatDoor
set_option linter.unusedVariables false
open Go.RowKit

theorem lit_three (w : World) (a b c : Nat) (ha : a < 18446744073709551616) (hb : b < 18446744073709551616) (hc : c < 18446744073709551616) : UAt (w.alloc (.cells #[.int .u64 (a : Int), .int .u64 (b : Int), .int .u64 (c : Int)] 22)) (some ⟨w.heap.size, 0, none⟩) 3 [a, b, c] := by
  have h : ∀ k, (w.alloc (.cells #[.int .u64 (a : Int), .int .u64 (b : Int), .int .u64 (c : Int)] 22)).cell? ⟨w.heap.size, k, none⟩ = (#[Value.int .u64 (a : Int), .int .u64 (b : Int), .int .u64 (c : Int)] : Array Value)[k]? := fun k => by rw [World.cell?_alloc_at _ _ _ _ rfl]
  refine ⟨fun h => (by cases h), Nat.le_refl _, by unfold maxLen; omega, fun i x hx => ⟨w.heap.size, 0, rfl, by simp, ?_, ?_⟩⟩
  · rw [Nat.zero_add, h]
    match i, hx with
    | 0, hx => cases hx; rfl
    | 1, hx => cases hx; rfl
    | 2, hx => cases hx; rfl
    | i + 3, hx => simp at hx
  · match i, hx with
    | 0, hx => cases hx; exact ha
    | 1, hx => cases hx; exact hb
    | 2, hx => cases hx; exact hc
    | i + 3, hx => simp at hx
set_option maxHeartbeats 1000000 in
theorem alive14_walk (W : World) (x : En) (HS : ∀ W, FNew W 15 #[.int .u64 7] x)
    (HU : ∀ (w : World) (b : Nat) {R : Ending → World → Prop}, Below W.heap.size W w → FieldAt w b x → (∀ g C1 w', UAt w' (some ⟨g, 0, none⟩) C1 [0, 0, 3] → Below w.heap.size w w' → R (.returned (.tuple #[.slice (some ⟨g, 0, none⟩) 3 C1, .int .i64 0])) w') →
      Calls Tryz.prog 9 #[pt b, .slice (some ⟨w.heap.size, 0, none⟩) 3 3, .bool false] (w.alloc (.cells #[.int .u64 1, .int .u64 2, .int .u64 4] 22)) R)
    (HQ : ∀ (w : World) {R : Ending → World → Prop}, Below W.heap.size W w → (∀ g o C1 w', w'.cell? ⟨g, o + 3, none⟩ = some (.int .i64 5) → g < w'.heap.size → Below w.heap.size w w' → R (.returned (.tuple #[.slice (some ⟨g, o, none⟩) 4 C1, .bool true])) w') →
      Calls Tryz.prog 13 #[.int .i64 60] w R)
    (HV : ∀ (W : World) (g C : Nat) {R : Ending → World → Prop}, UAt W (some ⟨g, 0, none⟩) C [0, 0, 3] → (∀ w', Below W.heap.size W w' → R (.returned (.bool true)) w') →
      Calls Tryz.prog 10 #[.slice (some ⟨g, 0, none⟩) 3 C, .slice (some ⟨W.heap.size, 0, none⟩) 3 3] (W.alloc (.cells #[.int .u64 0, .int .u64 0, .int .u64 3] 22)) R) : AnsB W 7 #[] (.bool true) := by
  intro w hw
  go_enter Tryz.func7, Tryz.ntmps7
  go_wp2_with (first
    | (go_at_call 15; with_reducible refine FNew.use (HS _) (Below.refl _ _) fun b w1 hF hb1 => ?_; have hw1 := bb hw hb1)
    | (go_at_call 9; with_reducible refine HU _ _ hw1 hF fun g C1 w2 hY hb2 => ?_; have hw2 := bb hw1 hb2)
    | (go_at_call 13; with_reducible refine HQ _ hw2 fun g3 o3 C3 w3 c3 hl3 hb3 => ?_; have hY3 := hY.below hb3)
    | (go_at_call 10; with_reducible refine HV _ _ _ hY3 fun w4 hb4 => ?_; have c4 := ((bcell hb4).1 _ _ hl3).trans c3))
  go_ret
  exact ⟨rfl, bb hb1 (bb hb2 (bb hb3 hb4))⟩
theorem gen7 : genOf 7 = 3 := by
  obtain ⟨h1, h2, h3, h4⟩ := genOf_spec odd7
  have g3 : GenP 3 7 := by
    intro q hq
    obtain ⟨pq, dq⟩ := (mem_pf (by omega)).1 hq
    have h5 := pq.1
    have h6 := Nat.le_of_dvd (by omega) dq
    have key : ∀ q, q < 7 → 2 ≤ q → q ≠ 4 → q ≠ 5 → 3 ^ ((7 - 1) / q) % 7 ≠ 1 := by
      intro q hq h2 h4 h5
      have : q = 2 ∨ q = 3 ∨ q = 6 := by omega
      rcases this with rfl | rfl | rfl <;> decide
    refine key q (by omega) h5 ?_ ?_
    · rintro rfl; have := Nat.mod_eq_zero_of_dvd dq; omega
    · rintro rfl; have := Nat.mod_eq_zero_of_dvd dq; omega
  have n2 : genOf 7 ≠ 2 := by
    intro e
    rw [e] at h3
    exact h3 2 ((mem_pf (by omega)).2 ⟨prm_of 2 (by omega) (by decide), ⟨3, rfl⟩⟩) (by decide)
  by_cases e3 : 3 < genOf 7
  · exact absurd g3 (h4 3 (by omega) e3)
  · omega
theorem fld7 : Fld (enOf 7) := small_fld odd7
theorem root7 : twR (enOf 7) 3 false = 2 := by
  show rootN 7 (genOf 7) 3 = 2
  rw [gen7]; rfl
theorem p7 : (enOf 7).p = 7 := rfl
theorem dT7 : dT (enOf 7) false [1, 2, 4] = [0, 0, 3] := by
  have e : ∀ k, dV (enOf 7) false [1, 2, 4] k = tS 2 3 (atL [1, 2, 4]) k % 7 := fun k => by
    unfold dV
    rw [if_neg (by decide)]
    show tS (twR (enOf 7) 3 false) 3 _ k % 7 = _
    rw [root7]
  show (List.range 3).map (dV (enOf 7) false [1, 2, 4]) = _
  rw [show (List.range 3).map (dV (enOf 7) false [1, 2, 4]) = (List.range 3).map (fun k => tS 2 3 (atL [1, 2, 4]) k % 7) from List.map_congr_left fun k _ => e k]
  decide
theorem isRad3 : IsRad 3 [3] := ⟨fun r hr => by simp at hr; subst hr; exact .inr (.inl rfl), List.pairwise_singleton _ _, rfl⟩
theorem isRad60 : IsRad 60 [2, 2, 3, 5] := ⟨fun r hr => by simp at hr; rcases hr with rfl | rfl | rfl <;> simp [Sml], by decide, rfl⟩
theorem ck7m : ck3 (enOf 7).p [1, 2, 4] = 0 := by
  have h1 : ckD (enOf 7).p (([1, 2, 4] : List Nat).length : Int) 1024 = 0 := by rw [p7]; decide
  have h2 : radV (([1, 2, 4] : List Nat).length : Int) = some [3] := radV_yes (n := 3) (by omega) isRad3
  have h3 : goodB (enOf 7).p [1, 2, 4] = true := by rw [p7]; decide
  unfold ck3
  rw [if_neg (by rw [h1]; decide), h2, if_neg (isNone_s _), h3, if_neg (by decide)]
theorem alive14 (W : World) (hG : FacG W) : AnsB W 7 #[] (.bool true) := by
  have hs : ∀ y ∈ dT (enOf 7) false [1, 2, 4], y < 18446744073709551616 := by rw [dT7]; decide
  refine alive14_walk W (enOf 7) (fun W => small_yes W 7 odd7) (fun w b R hw hF k => ?_) (fun w R hw k => ?_) (fun W g C R hU k => ?_)
  · have hU := lit_three w 1 2 4 (by omega) (by omega) (by omega)
    have hB := below_alloc w (.cells #[.int .u64 1, .int .u64 2, .int .u64 4] 22)
    exact OwnT.useG (runm_ok (hF.below hB) fld7 ((hG.below hw).below hB) hU ck7m false) (dT_len _ _ _) (by decide) (Below.refl _ _) fun g C1 w' q1 q2 => k g C1 w' (by rw [← dT7]; exact q1.words hs) (bb hB q2)
  · refine RadY.use (rad_yes hG (radV_yes (n := 60) (by omega) isRad60)) hw fun A C w' hz hb => ?_
    obtain ⟨g, o, rfl, hl, hc⟩ := hz.nat (i := 3) (d := 5) rfl
    exact k g o C w' hc hl hb
  · have hV := lit_three W 0 0 3 (by omega) (by omega) (by omega)
    have hB := below_alloc W (.cells #[.int .u64 0, .int .u64 0, .int .u64 3] 22)
    exact AnsB.use (same_yes (hU.below hB) hV rfl) (Below.refl _ _) fun w' hb => k w' (bb hB hb)

/-! ### The document's Fault -/
theorem flm_err (W : World) (p : Int) (A : Option Addr) (n C : Nat) (e : Int) (he : (e != 0) = true) (hlen : (n : Int) ≤ 9223372036854775807) (HC : Ans 25 #[.int .u64 p, .int .i64 (n : Int), .int .i64 1024] (.int .i64 e)) : AnsB W 11 #[.int .u64 p, .slice A n C] (.int .i64 e) := by
  intro w hw
  go_enter Tryz.func11, Tryz.ntmps11
  go_wp2_with (go_at_call 25; with_reducible refine Ans.use HC _ fun n1 => ?_)
  go_ret
  exact ⟨rfl, below_drewN _ _⟩
theorem flm_kind (W : World) (p : Int) (A : Option Addr) (n C : Nat) (hlen : (n : Int) ≤ 9223372036854775807) (HC : Ans 25 #[.int .u64 p, .int .i64 (n : Int), .int .i64 1024] (.int .i64 0)) (HR : RadN W 14 (n : Int)) : AnsB W 11 #[.int .u64 p, .slice A n C] (.int .i64 11) := by
  intro w hw
  have HRw : ∀ n1, AnsB (w.drewN n1) 14 #[.int .i64 (n : Int)] (.tuple #[.slice none 0 0, .bool false]) := fun n1 => AnsB.on HR (bb hw (below_drewN w n1))
  go_enter Tryz.func11, Tryz.ntmps11
  go_wp2_with (first
    | (go_at_call 25; with_reducible refine Ans.use HC _ fun n1 => ?_; have HR1 := HRw n1)
    | (go_at_call 14; with_reducible refine AnsB.use HR1 (Below.refl _ _) fun w2 hb2 => ?_))
  go_ret
  exact ⟨rfl, bb (below_drewN w _) hb2⟩
theorem flm_good (W : World) (p : Int) (A : Option Addr) (n C : Nat) (g : Bool) (e : Int) (heg : e = if g then 0 else 9) (rs : List Nat) (hlen : (n : Int) ≤ 9223372036854775807) (HC : Ans 25 #[.int .u64 p, .int .i64 (n : Int), .int .i64 1024] (.int .i64 0)) (HR : RadY W 14 (n : Int) rs) (HG : ∀ w, Below W.heap.size W w → AnsW w 26 #[.int .u64 p, .slice A n C] (.bool g)) : AnsB W 11 #[.int .u64 p, .slice A n C] (.int .i64 e) := by
  intro w hw
  have hwd := fun n1 => bb hw (below_drewN w n1)
  cases g
  · subst heg
    go_enter Tryz.func11, Tryz.ntmps11
    go_wp2_with (first
      | (go_at_call 25; with_reducible refine Ans.use HC _ fun n1 => ?_)
      | (go_at_call 14; with_reducible refine RadY.use HR (hwd _) fun R2 E2 w2 hZ2 hb2 => ?_; have hw2 := bb (hwd _) hb2; have HG2 := HG w2 hw2)
      | (go_at_call 26; with_reducible refine AnsW.use0 HG2 fun n3 => ?_))
    go_ret
    exact ⟨rfl, bb (bb (below_drewN w _) hb2) (below_drewN w2 _)⟩
  · subst heg
    go_enter Tryz.func11, Tryz.ntmps11
    go_wp2_with (first
      | (go_at_call 25; with_reducible refine Ans.use HC _ fun n1 => ?_)
      | (go_at_call 14; with_reducible refine RadY.use HR (hwd _) fun R2 E2 w2 hZ2 hb2 => ?_; have hw2 := bb (hwd _) hb2; have HG2 := HG w2 hw2)
      | (go_at_call 26; with_reducible refine AnsW.use0 HG2 fun n3 => ?_))
    go_ret
    exact ⟨rfl, bb (bb (below_drewN w _) hb2) (below_drewN w2 _)⟩
theorem faultm_any {p : Nat} (h2 : 2 ≤ p) (hp : p < 18446744073709551616) {W : World} {A : Option Addr} {C : Nat} {xs : List Nat} (hU : UAt W A C xs) : AnsB W 11 #[.int .u64 (p : Int), .slice A xs.length C] (.int .i64 (ck3 p xs)) := by
  have hlen := hU.len
  have HC := dcheck_any p (by omega) (by omega) (xs.length : Int) 1024 (by omega)
  have HG := fun w (hw : Below W.heap.size W w) => dgood_any w p A C xs (hU.below hw)
  unfold ck3
  by_cases h : ckD p (xs.length : Int) 1024 = 0
  · rw [h] at HC
    rw [if_neg (by omega)]
    cases hf : radV (xs.length : Int) with
    | none =>
      rw [if_pos isNone_n]
      exact flm_kind W _ A _ C hlen HC (drad_no W hf)
    | some rs =>
      rw [if_neg (isNone_s _)]
      exact flm_good W _ A _ C (goodB p xs) _ (by cases goodB p xs <;> rfl) rs hlen HC (drad_yes W hf) HG
  · rw [if_pos h]
    exact flm_err W _ A _ C _ (by simp only [bne_iff_ne, ne_eq]; exact h) hlen HC
end Go.Proofs.YtkemlbjcfbnfiaaGreatDoor

/-
  The contracts of the document's Right and Check; of great.
-/
import Derived.Test.YtpjfapibjihbbaaGreatDoorF24
import Derived.Test.YtpjfapibjihbbaaGreatDoorF18
namespace Go.Proofs.YtpjfapibjihbbaaGreatDoor
set_option linter.unusedVariables false
open Go.RowKit

theorem last_take {es : List En} {n : Nat} {y : En} (h : es[n]? = some y) : (es.take (n + 1)).getLast? = some y := by
  have hn : n < es.length := (List.getElem?_eq_some_iff.1 h).1
  rw [List.getLast?_eq_getElem?, List.length_take, List.getElem?_take, show min (n + 1) es.length - 1 = n by omega, if_pos (by omega)]
  exact h
/-- Right. -/
theorem rright_any (W : World) (A : Option Addr) (C : Nat) (es : List En) (hE : EntsAt W A C es) (i : Nat) (x : En) (hx : es[i]? = some x) :
    AnsB W 52 #[.slice A es.length C, .int .i64 (i : Int)] (.bool (rightB (es.take i) x)) := by
  have hil : i < es.length := (List.getElem?_eq_some_iff.1 hx).1
  have hcl := hE.cap
  have hcm := hE.max
  unfold maxLen at hcm
  obtain ⟨b, o, A', C', rfl, hb, d0, d1, d2, hP, hp, hg⟩ := hE.get i x hx
  -- the entry right ahead
  obtain ⟨j, q, hj, hcb⟩ : ∃ (j : Nat) (q : Int), (decide (0 < i) = true → (i : Int) - 1 = j ∧ (j : Int) < es.length ∧ W.cell? ⟨b, o + j * 3, none⟩ = some (.int .u64 q)) ∧ climbsB (es.take i) x.p = (if 0 < i then decide (q < (x.p : Int)) else true) := by
    cases i with
    | zero => exact ⟨0, 0, fun h => by simp at h, rfl⟩
    | succ n =>
      obtain ⟨y, hy⟩ : ∃ y, es[n]? = some y := ⟨_, List.getElem?_eq_getElem (by omega)⟩
      obtain ⟨b2, o2, _, _, ha, _, e0, _⟩ := hE.get n y hy
      cases ha
      refine ⟨n, y.p, fun _ => ⟨by omega, by omega, e0⟩, ?_⟩
      unfold climbsB
      rw [last_take hy, if_pos (by omega)]
      show decide (y.p < x.p) = _
      rw [Bool.eq_iff_iff]; simp
  obtain ⟨r, hr⟩ : ∃ r : Nat, x.p % 2 = r := ⟨_, rfl⟩
  have hr2 : (x.p : Int) % 2 = (r : Int) := by omega
  have Hd : ∀ c1 c2 c3 c4 c5, ((r : Int) == 0) = c1 → decide ((x.p : Int) < 3) = c2 → decide (9223372036854775807 < (x.p : Int)) = c3 → decide (0 < i) = c4 → decide ((x.p : Int) ≤ q) = c5 → Head W b o i (x.p : Int) q (r : Int) c1 c2 c3 c4 c5 := fun c1 c2 c3 c4 c5 h1 h2 h3 h4 h5 =>
    ⟨by omega, by omega, hr2, by rw [Int.tmod_eq_emod_of_nonneg (by omega)]; exact hr2, wrap_small _ (by omega) (by omega), h1, h2, h3, h4, h5⟩
  have hnot : ¬ Gd x.p → rightB (es.take i) x = false := fun h => not_right fun ht => h (right_parts ht).1
  by_cases h1 : r = 0
  · rw [hnot (fun hgd => by have := hgd.1; omega)]
    exact rr_head_bad W b o i es.length C _ _ q r A' _ C' j _ _ _ _ _ (Hd true _ _ _ _ (by rw [h1]; rfl) rfl rfl rfl rfl) (by omega) (by omega) hb hj d0 d1 d2 (Or.inl rfl)
  have e1 : ((r : Int) == 0) = false := by simp; omega
  by_cases h2 : x.p < 3
  · rw [hnot (fun hgd => by have := hgd.1; have := hgd.2.1; omega)]
    exact rr_head_bad W b o i es.length C _ _ q r A' _ C' j _ _ _ _ _ (Hd false true _ _ _ e1 (decide_eq_true (by omega)) rfl rfl rfl) (by omega) (by omega) hb hj d0 d1 d2 (Or.inr (Or.inl ⟨rfl, rfl⟩))
  have e2 : decide ((x.p : Int) < 3) = false := decide_eq_false (by omega)
  by_cases h3 : 9223372036854775807 < x.p
  · rw [hnot (fun hgd => by have := hgd.2.2; omega)]
    exact rr_head_bad W b o i es.length C _ _ q r A' _ C' j _ _ _ _ _ (Hd false false true _ _ e1 e2 (decide_eq_true (by omega)) rfl rfl) (by omega) (by omega) hb hj d0 d1 d2 (Or.inr (Or.inr (Or.inl ⟨rfl, rfl, rfl⟩)))
  have e3 : decide (9223372036854775807 < (x.p : Int)) = false := decide_eq_false (by omega)
  have hgd : Gd x.p := ⟨by omega, by omega, by omega⟩
  by_cases h4 : 0 < i ∧ (x.p : Int) ≤ q
  · have hcf : climbsB (es.take i) x.p = false := by rw [hcb, if_pos h4.1]; exact decide_eq_false (by omega)
    rw [not_right fun ht => by rw [(right_parts ht).2.1] at hcf; cases hcf]
    exact rr_head_bad W b o i es.length C _ _ q r A' _ C' j _ _ _ _ _ (Hd false false false true true e1 e2 e3 (decide_eq_true h4.1) (decide_eq_true h4.2)) (by omega) (by omega) hb (fun _ => hj (decide_eq_true h4.1)) d0 d1 d2 (Or.inr (Or.inr (Or.inr ⟨rfl, rfl, rfl, rfl, rfl⟩)))
  have hct : climbsB (es.take i) x.p = true := by
    rw [hcb]
    split
    · next h => exact decide_eq_true (by omega)
    · rfl
  obtain ⟨c4, c5, h5, Hd5, hj5⟩ : ∃ c4 c5, (c4 = false ∨ (c4 = true ∧ c5 = false)) ∧ Head W b o i (x.p : Int) q (r : Int) false false false c4 c5 ∧ (c4 = true → (i : Int) - 1 = j ∧ (j : Int) < es.length ∧ W.cell? ⟨b, o + j * 3, none⟩ = some (.int .u64 q)) := by
    by_cases h0 : 0 < i
    · exact ⟨true, false, Or.inr ⟨rfl, rfl⟩, Hd _ _ _ _ _ e1 e2 e3 (decide_eq_true h0) (decide_eq_false (by omega)), fun _ => hj (decide_eq_true h0)⟩
    · exact ⟨false, _, Or.inl rfl, Hd _ _ _ _ _ e1 e2 e3 (decide_eq_false h0) rfl, fun h => by cases h⟩
  by_cases h6 : x.fs.length < 1
  · rw [not_right fun ht => by have := (right_parts ht).2.2.1; omega]
    exact rr_few W b o i es.length C _ _ q r A' _ C' j c4 c5 Hd5 (by omega) (by omega) hb hj5 d0 d1 d2 h5 (by omega)
  by_cases h7 : 16 < x.fs.length
  · rw [not_right fun ht => by have := (right_parts ht).2.2.1; omega]
    exact rr_many W b o i es.length C _ _ q r A' _ C' j c4 c5 Hd5 (by omega) (by omega) hb hj5 d0 d1 d2 h5 (by omega) (by omega)
  obtain ⟨f0, hf0⟩ : ∃ f, x.fs[0]? = some f := ⟨_, List.getElem?_eq_getElem (by omega)⟩
  obtain ⟨fb, fo, rfl, hfb, k0, k1, hok⟩ := hP.get 0 f0 hf0
  rw [Nat.zero_mul, Nat.add_zero] at k0
  by_cases h8 : f0.q = 2
  · rw [h8] at k0
    exact rr_main W b o i es.length C _ _ q r fb fo _ C' j c4 c5 Hd5 (by omega) (by omega) hb hj5 d0 d1 d2 h5 es x ((x.p - 1 : Nat) : Int) _ hE (by omega) (by omega) (by omega) hP ⟨rfl, rfl, rfl, rfl⟩ rfl hgd hct (by omega) (by omega) (by omega) (wrap_small _ (by omega) (by omega)) (by omega) (by omega) hfb k0 (fun f hf => by rw [hf0] at hf; cases hf; exact h8)
  · rw [not_right fun ht => by
      have := ((fac_iff _ _ _ _ _).1 (right_parts ht).2.2.2.1).2.1 0 f0 hf0
      exact h8 (by simpa [knownB] using this)]
    exact rr_first W b o i es.length C _ _ q r fb fo _ C' j c4 c5 Hd5 (by omega) (by omega) hb hj5 d0 d1 d2 h5 (by omega) (by omega) hfb (f0.q : Int) k0 (by simp only [bne_iff_ne]; omega)

set_option maxHeartbeats 1000000 in
theorem rcheck_walk (W : World) (A : Option Addr) (C : Nat) (es : List En) (hE : EntsAt W A C es) (h32 : ¬ 32 < es.length) :
    AnsB W 36 #[.slice A es.length C] (checkV es) := by
  intro w hw
  have HRt := fun i x => rright_any W A C es hE i x
  obtain ⟨L, hL⟩ : ∃ L, es.length = L := ⟨_, rfl⟩
  have HL : Hid (es.length = L) := hL
  have HV : Hid (checkV es = match checkO es with
    | none => .tuple #[.int .i64 0, .int .i64 0]
    | some k => .tuple #[.int .i64 (k : Int), .int .i64 3]) := by unfold Hid checkV; rw [if_neg h32]; rfl
  rw [hL] at h32 HRt ⊢
  clear hL
  go_enter Tryz.func36, Tryz.ntmps36
  go_wp2
  go_loopw [10] (fun v wr => ∃ k : Nat, v = .int .i64 k ∧ k ≤ L ∧ Hid (∀ j, j < k → badAt es j = false) ∧ Below w.heap.size w wr) (fun v _ => L - (intOf v).toNat)
  case atStart => exact ⟨0, rfl, by omega, fun j hj => absurd hj (by omega), Below.refl _ _⟩
  case round =>
    obtain ⟨k, rfl, hk, HI, hB⟩ := hrel
    by_cases hlt : k < L
    · have hlt' : k < es.length := by rw [HL.out]; exact hlt
      obtain ⟨x, hx⟩ : ∃ x, es[k]? = some x := ⟨_, List.getElem?_eq_getElem hlt'⟩
      have HR := HRt k x hx
      have hBW : Below W.heap.size W wr := bb hw hB
      have hbad := bad_some hx
      clear hx hlt' HRt
      cases hr : rightB (es.take k) x with
      | true =>
        rw [hr] at HR hbad
        have HS : Hid (∀ j, j < k + 1 → badAt es j = false) := by
          intro j hj
          by_cases h : j < k
          · exact HI.out j h
          · obtain rfl : j = k := by omega
            exact hbad
        clear HI hr hbad
        go_wp2_with (go_at_call 52; with_reducible refine AnsB.use HR hBW fun w2 hb2 => ?_)
        go_roundw
        case rel => exact ⟨k + 1, by go_num, by omega, HS, bb hB hb2⟩
        case measure => simp [intOf]; omega
      | false =>
        rw [hr] at HR hbad
        have HE : Hid (checkV es = .tuple #[.int .i64 (k : Int), .int .i64 3]) := by
          unfold Hid; rw [HV.out, check_found (by rw [HL.out]; exact hlt) hbad HI.out]
        clear HI hr hbad
        go_wp2_with (go_at_call 52; with_reducible refine AnsB.use HR hBW fun w2 hb2 => ?_)
        go_ret2
        exact ⟨congrArg Ending.returned HE.out.symm, bb hB hb2⟩
    · obtain rfl : k = L := by omega
      have HE : Hid (checkV es = .tuple #[.int .i64 0, .int .i64 0]) := by
        unfold Hid; rw [HV.out, check_none (by rw [HL.out]; exact HI.out)]
      clear HI HRt
      go_wp2
      go_ret2
      exact ⟨congrArg Ending.returned HE.out.symm, hB⟩
theorem rcheck_long (W : World) (A : Option Addr) (L C : Nat) (h32 : 32 < L) (hm : (L : Int) ≤ 9223372036854775807) : AnsB W 36 #[.slice A L C] (.tuple #[.int .i64 0, .int .i64 13]) := by
  intro w hw
  go_enter Tryz.func36, Tryz.ntmps36
  go_wp2
  go_ret2
  exact ⟨rfl, Below.refl _ _⟩
/-- The document's Check. -/
theorem rcheck_any (W : World) (A : Option Addr) (C : Nat) (es : List En) (hE : EntsAt W A C es) : AnsB W 36 #[.slice A es.length C] (checkV es) := by
  by_cases h : 32 < es.length
  · have hcl := hE.cap
    have hcm := hE.max
    unfold maxLen at hcm
    unfold checkV
    rw [if_pos h]
    exact rcheck_long W A _ C h (by omega)
  · exact rcheck_walk W A C es hE h
end Go.Proofs.YtpjfapibjihbbaaGreatDoor
/-
  The document's Of: a source's prime, the number whose powers are all, the error.
-/
namespace Go.Proofs.YtpjfapibjihbbaaGreatDoor
set_option linter.unusedVariables false
open Go.RowKit

abbrev srcV (kind z : Int) (p : Int) (A : Option Addr) (L C : Nat) : Value := .agg #[.int .i64 kind, .int .i64 z, .int .u64 p, .slice A L C]
abbrev ofV (p g e : Int) : Value := .tuple #[.int .u64 p, .int .u64 g, .int .i64 e]
theorem of_odd0 (z p : Int) (A : Option Addr) (L C : Nat) (HO : Ans 34 #[.int .u64 p] (.bool false)) : AnsM 15 #[srcV 0 z p A L C] (ofV 0 0 1) := by
  intro w
  go_enter Tryz.func15, Tryz.ntmps15
  go_wp2_with (go_at_call 34; with_reducible refine Ans.use HO _ fun n1 => ?_)
  exact bodyPost_ret (v := ofV 0 0 1) (by simp [results, Tryz.results15, go_sem]) rfl ⟨rfl, bb (below_alloc _ _) (below_drewN _ _)⟩
theorem of_odd1 (z p g : Int) (A : Option Addr) (L C : Nat) (HO : Ans 34 #[.int .u64 p] (.bool true)) (HG : Ans 35 #[.int .u64 p] (.int .u64 g)) : AnsM 15 #[srcV 0 z p A L C] (ofV p g 0) := by
  intro w
  go_enter Tryz.func15, Tryz.ntmps15
  go_wp2_with (first | (go_at_call 34; with_reducible refine Ans.use HO _ fun n1 => ?_) | (go_at_call 35; with_reducible refine Ans.use HG _ fun n2 => ?_))
  try go_quiet ((go_at_call 35; with_reducible exact Ans.quiet HG))
  try go_wp2
  exact bodyPost_ret (v := ofV p g 0) (by simp [results, Tryz.results15, go_sem]) rfl ⟨rfl, bb (below_alloc _ _) (bb (below_drewN _ _) (below_drewN _ _))⟩
theorem of_known0 (z p : Int) (A : Option Addr) (L C : Nat) (h : z < 0 ∨ (0 ≤ z ∧ 5 < z)) : AnsM 15 #[srcV 1 z p A L C] (ofV 0 0 1) := by
  intro w
  rcases h with h | ⟨h, h'⟩
  all_goals
    go_enter Tryz.func15, Tryz.ntmps15
    go_wp2
    exact bodyPost_ret (v := ofV 0 0 1) (by simp [results, Tryz.results15, go_sem]) rfl ⟨rfl, below_alloc _ _⟩
set_option maxHeartbeats 1000000 in
theorem of_known (i : Nat) (hi : i ≤ 5) (p : Int) (A : Option Addr) (L C : Nat) : AnsM 15 #[srcV 1 (i : Int) p A L C] (ofV (knP i) (knG i) 0) := by
  intro w
  rcases (show i = 0 ∨ i = 1 ∨ i = 2 ∨ i = 3 ∨ i = 4 ∨ i = 5 by omega) with rfl | rfl | rfl | rfl | rfl | rfl
  all_goals
    clear hi
    simp only [Int.cast_ofNat_Int]
    go_enter Tryz.func15, Tryz.ntmps15
    go_wp2
    go_region
    go_wp2
    go_ret3
    exact ⟨rfl, bb (below_alloc _ _) (bb (below_alloc _ _) (bb (below_alloc _ _) (below_drewN _ _)))⟩
theorem of_long (kind z p : Int) (A : Option Addr) (L C : Nat) (h0 : (kind == 0) = false) (h1 : (kind == 1) = false) (h : 40 < (L : Int)) (hm : (L : Int) ≤ 9223372036854775807) : AnsM 15 #[srcV kind z p A L C] (ofV 0 0 13) := by
  intro w
  go_enter Tryz.func15, Tryz.ntmps15
  go_wp2
  exact bodyPost_ret (v := ofV 0 0 13) (by simp [results, Tryz.results15, go_sem]) rfl ⟨rfl, below_alloc _ _⟩

def bigF (es : List En) : Bool := es.any fun x => decide (20 < x.fs.length)
/-- What Of comes to, of a row: there are too many factors; or the row isn't right; or there is the entry, or none. -/
structure OfSpec (es : List En) (q : Nat) (e r1 r2 r3 : Int) : Prop where
  big : bigF es = true → r1 = 0 ∧ r2 = 0 ∧ r3 = 3
  bad : bigF es = false → (e != 0) = true → r1 = 0 ∧ r2 = 0 ∧ r3 = e
  got : bigF es = false → e = 0 → ∀ (k : Nat) (x : En), es[k]? = some x → x.p = q → (∀ (j : Nat) (y : En), j < k → es[j]? = some y → y.p ≠ q) → r1 = x.p ∧ r2 = x.g ∧ r3 = 0
  non : bigF es = false → e = 0 → (∀ (j : Nat) (y : En), es[j]? = some y → y.p ≠ q) → r1 = 0 ∧ r2 = 0 ∧ r3 = 14
set_option maxHeartbeats 4000000 in
theorem of_row (W : World) (kind z : Int) (q : Nat) (A : Option Addr) (C : Nat) (es : List En) (hE : EntsAt W A C es) (h40 : es.length ≤ 40) (h0 : (kind == 0) = false) (h1 : (kind == 1) = false) (i e r1 r2 r3 : Int) (he : e = 0 ∨ (e != 0) = true) (HC : AnsB W 36 #[.slice A es.length C] (.tuple #[.int .i64 i, .int .i64 e])) (hS : OfSpec es q e r1 r2 r3) :
    AnsB W 15 #[srcV kind z (q : Int) A es.length C] (ofV r1 r2 r3) := by
  intro w hw
  obtain ⟨L, hL⟩ : ∃ L, es.length = L := ⟨_, rfl⟩
  have HL : Hid (es.length = L) := hL
  have HS : Hid (OfSpec es q e r1 r2 r3) := hS
  rw [hL] at h40 HC ⊢
  clear hL hS
  obtain ⟨t0, t1, t2, t3⟩ := four_cells w (.int .i64 kind) (.int .i64 z) (.int .u64 (q : Int)) (.slice A L C) 25
  obtain ⟨V, hV⟩ : ∃ V, w.alloc (.cells #[.int .i64 kind, .int .i64 z, .int .u64 (q : Int), .slice A L C] 25) = V := ⟨_, rfl⟩
  have hBV : Below w.heap.size w V := hV ▸ below_alloc _ _
  obtain ⟨bo, hbo⟩ : ∃ bo, w.heap.size = bo := ⟨_, rfl⟩
  have hVs : bo < V.heap.size := by rw [← hV, ← hbo]; simp
  rw [hV, hbo] at t0 t1 t2 t3
  go_enter Tryz.func15, Tryz.ntmps15
  go_wp2
  go_loopw [53] (fun v wr => ∃ k : Nat, v = .int .i64 (k : Int) ∧ k ≤ L ∧ Hid (∀ j y, j < k → es[j]? = some y → ¬ 20 < y.fs.length) ∧ Below V.heap.size V wr) (fun v _ => L - (intOf v).toNat)
  case atStart => exact ⟨0, rfl, by omega, fun j y hj => absurd hj (by omega), Below.refl _ _⟩
  case round =>
    obtain ⟨k, rfl, hk, HI, hB⟩ := hrel
    by_cases hlt : k < L
    · have hlt' : k < es.length := by rw [HL.out]; exact hlt
      obtain ⟨x, hx⟩ : ∃ x, es[k]? = some x := ⟨_, List.getElem?_eq_getElem hlt'⟩
      obtain ⟨b, o, A', C', rfl, hb, c0, c1, c2, hP, hp, hg⟩ := hE.get k x hx
      have hBW : Below W.heap.size W wr := bb (bb hw hBV) hB
      have c0' := keep_cell hBW hb c0
      have c1' := keep_cell hBW hb c1
      have c2' := keep_cell hBW hb c2
      have hfm : x.fs.length ≤ 9223372036854775807 := by have := hP.cap; have := hP.max; unfold maxLen at this; omega
      obtain ⟨p, hp'⟩ : ∃ p : Int, (x.p : Int) = p := ⟨_, rfl⟩
      obtain ⟨g, hg'⟩ : ∃ g : Int, (x.g : Int) = g := ⟨_, rfl⟩
      obtain ⟨fl, hfl⟩ : ∃ fl : Nat, x.fs.length = fl := ⟨_, rfl⟩
      rw [hp'] at c0'
      rw [hg'] at c1'
      rw [hfl] at c2' hfm
      by_cases ht : 20 < fl
      · have hbig : bigF es = true := List.any_eq_true.2 ⟨x, List.mem_of_getElem? hx, decide_eq_true (by omega)⟩
        obtain ⟨rfl, rfl, rfl⟩ := HS.out.big hbig
        clear c0 c1 c2 hp' hg' hfl hx HI hP hlt' hbig
        go_wp2
        exact bodyPost_ret (v := ofV 0 0 3) (by simp [results, Tryz.results15, go_sem]) rfl ⟨rfl, bb hBV (bb hB (below_alloc _ _))⟩
      · have HS' : Hid (∀ j y, j < k + 1 → es[j]? = some y → ¬ 20 < y.fs.length) := by
          intro j y hj hy
          by_cases h : j < k
          · exact HI.out j y h hy
          · obtain rfl : j = k := by omega
            rw [hx] at hy; cases hy; omega
        clear c0 c1 c2 hp' hg' hfl hx HI hP hlt'
        go_wp2
        go_roundw
        case rel => exact ⟨k + 1, by go_num, by omega, HS', bb hB (below_alloc _ _)⟩
        case measure => simp [intOf]; omega
    · obtain rfl : k = L := by omega
      have HN : Hid (bigF es = false) := by
        unfold Hid bigF; rw [List.any_eq_false]
        intro x hx
        obtain ⟨j, hj, rfl⟩ := List.getElem_of_mem hx
        have := HI.out j _ (by rw [← HL.out]; exact hj) (List.getElem?_eq_getElem hj)
        simpa using this
      clear HI
      have s3 := keep_cell hB hVs t3
      have hBW : Below W.heap.size W wr := bb (bb hw hBV) hB
      rcases he with rfl | he
      · go_wp2_with (go_at_call 36; with_reducible refine AnsB.use HC hBW fun w1 hb1 => ?_; have s2' := keep_cell (bb hB hb1) hVs t2; have s3' := keep_cell (bb hB hb1) hVs t3)
        have hB1 := bb hB hb1
        clear hb1 hB hBW s3
        go_loopw [74] (fun v wr => ∃ j : Nat, v = .int .i64 (j : Int) ∧ j ≤ k ∧ Hid (∀ m y, m < j → es[m]? = some y → y.p ≠ q) ∧ Below V.heap.size V wr) (fun v _ => k - (intOf v).toNat)
        case atStart => exact ⟨0, rfl, by omega, fun j y hj => absurd hj (by omega), hB1⟩
        case round =>
          clear hB1 s2' s3'
          obtain ⟨j, rfl, hj, HI, hB⟩ := hrel
          have s2 := keep_cell hB hVs t2
          by_cases hlt : j < k
          · have hlt' : j < es.length := by rw [HL.out]; exact hlt
            obtain ⟨x, hx⟩ : ∃ x, es[j]? = some x := ⟨_, List.getElem?_eq_getElem hlt'⟩
            obtain ⟨b, o, A', C', rfl, hb, c0, c1, c2, hP, hp, hg⟩ := hE.get j x hx
            have hBW : Below W.heap.size W wr := bb (bb hw hBV) hB
            have c0' := keep_cell hBW hb c0
            have c1' := keep_cell hBW hb c1
            have c2' := keep_cell hBW hb c2
            obtain ⟨p, hp'⟩ : ∃ p : Nat, x.p = p := ⟨_, rfl⟩
            obtain ⟨g, hg'⟩ : ∃ g : Nat, x.g = g := ⟨_, rfl⟩
            obtain ⟨fl, hfl⟩ : ∃ fl : Nat, x.fs.length = fl := ⟨_, rfl⟩
            rw [hp'] at c0'
            rw [hg'] at c1'
            rw [hfl] at c2'
            by_cases ht : p = q
            · obtain ⟨rfl, rfl, rfl⟩ := HS.out.got HN.out rfl j x hx (by omega) HI.out
              subst ht
              have HPE : Hid (x.p = p ∧ x.g = g) := ⟨hp', hg'⟩
              have f2 := keep_cell (below_alloc wr (.cells #[.int .u64 (p : Int), .int .u64 (g : Int), .slice A' fl C'] 71)) (Nat.lt_of_lt_of_le hVs hB.size) s2
              clear c0 c1 c2 hp' hg' hfl hx HI hP hlt' HS
              go_wp2
              go_region
              go_wp2
              exact bodyPost_ret (v := ofV (p : Int) (g : Int) 0) (by simp [results, Tryz.results15, go_sem]) rfl ⟨by rw [HPE.out.1, HPE.out.2], bb hBV (bb hB (bb (below_alloc _ _) (below_drewN _ _)))⟩
            · have HS' : Hid (∀ m y, m < j + 1 → es[m]? = some y → y.p ≠ q) := by
                intro m y hm hy
                by_cases h : m < j
                · exact HI.out m y h hy
                · obtain rfl : m = j := by omega
                  rw [hx] at hy; cases hy; omega
              have hb1 : ((p : Int) == (q : Int)) = false := by simp; omega
              have f2 := keep_cell (below_alloc wr (.cells #[.int .u64 (p : Int), .int .u64 (g : Int), .slice A' fl C'] 71)) (Nat.lt_of_lt_of_le hVs hB.size) s2
              clear c0 c1 c2 hp' hg' hfl hx HI hP hlt'
              go_wp2
              go_roundw
              case rel => exact ⟨j + 1, by go_num, by omega, HS', bb hB (below_alloc _ _)⟩
              case measure => simp [intOf]; omega
          · obtain rfl : j = k := by omega
            obtain ⟨rfl, rfl, rfl⟩ := HS.out.non HN.out rfl (fun m y hy => HI.out m y (by rw [← HL.out]; exact (List.getElem?_eq_some_iff.1 hy).1) hy)
            clear HI HS
            go_wp2
            exact bodyPost_ret (v := ofV 0 0 14) (by simp [results, Tryz.results15, go_sem]) rfl ⟨rfl, bb hBV hB⟩
      · obtain ⟨rfl, rfl, rfl⟩ := HS.out.bad HN.out he
        clear HS
        go_wp2_with (go_at_call 36; with_reducible refine AnsB.use HC hBW fun w1 hb1 => ?_)
        exact bodyPost_ret (v := ofV 0 0 _) (by simp [results, Tryz.results15, go_sem]) rfl ⟨rfl, bb hBV (bb hB hb1)⟩
end Go.Proofs.YtpjfapibjihbbaaGreatDoor

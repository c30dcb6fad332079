/-
  The statement FieldMakes: true, of all sources and numbers.
-/
import Derived.Test.YtikmopnadmgilaaGreatB32
import Derived.Test.YtikmopnadmgilaaGreatB33
import Derived.Test.YtikmopnadmgilaaGreatB34
namespace Go.Proofs.YtikmopnadmgilaaGreat
set_option linter.unusedVariables false
open Go.RowKit

set_option maxRecDepth 100000 in
set_option maxHeartbeats 4000000 in
theorem makes_big (W : World) (kind z q : Int) (A : Option Addr) (C : Nat) (es : List En) (hE : EntsAt W A C es) (h40 : es.length ≤ 40) (hbig : bigF es = true) (n x : Int) : AnsB W 3 #[srcV kind z q A es.length C, .int .i64 n, .int .u64 x] (.bool true) := by
  intro w hw
  obtain ⟨L, hL⟩ : ∃ L, es.length = L := ⟨_, rfl⟩
  have HL : Hid (es.length = L) := hL
  rw [hL] at h40 ⊢
  clear hL
  obtain ⟨t0, t1, t2, t3⟩ := four_cells w (.int .i64 kind) (.int .i64 z) (.int .u64 q) (.slice A L C) 25
  obtain ⟨V, hV⟩ : ∃ V, w.alloc (.cells #[.int .i64 kind, .int .i64 z, .int .u64 q, .slice A L C] 25) = V := ⟨_, rfl⟩
  have hBV : Below w.heap.size w V := hV ▸ below_alloc _ _
  obtain ⟨bo, hbo⟩ : ∃ bo, w.heap.size = bo := ⟨_, rfl⟩
  have hVs : bo < V.heap.size := by rw [← hV, ← hbo]; simp
  rw [hV, hbo] at t0 t1 t2 t3
  have hWV := bb hw hBV
  have HBG : Hid (bigF es = true) := hbig
  clear hbig
  go_enter Tryz.func3, Tryz.ntmps3
  go_wp2_with (first | (go_at_call 10; with_reducible refine AnsM.use alive6 fun w1 hb1 => ?_; have s0 := keep_cell hb1 hVs t0; have s1 := keep_cell hb1 hVs t1; have s2 := keep_cell hb1 hVs t2; have s3 := keep_cell hb1 hVs t3; have hW1 := bb hWV hb1))
  go_loopw [29] (fun v wr => ∃ k : Nat, v = .int .i64 (k : Int) ∧ k ≤ L ∧ Hid (∀ j y, j < k → es[j]? = some y → ¬ 20 < y.fs.length) ∧ Below V.heap.size V wr) (fun v _ => L - (intOf v).toNat)
  case atStart => exact ⟨0, rfl, by omega, fun j y hj => absurd hj (by omega), hb1⟩
  case round =>
    clear hb1 s0 s1 s2 s3 hW1
    obtain ⟨k, rfl, hk, HI, hB⟩ := hrel
    by_cases hlt : k < L
    · have hlt' : k < es.length := by rw [HL.out]; exact hlt
      obtain ⟨y, hy⟩ : ∃ y, es[k]? = some y := ⟨_, List.getElem?_eq_getElem hlt'⟩
      obtain ⟨b, o, A', C', rfl, hb, c0, c1, c2, hP, hp, hg⟩ := hE.get k y hy
      have hBW : Below W.heap.size W wr := bb hWV hB
      have c0' := keep_cell hBW hb c0
      have c1' := keep_cell hBW hb c1
      have c2' := keep_cell hBW hb c2
      have hfm : y.fs.length ≤ 9223372036854775807 := by have := hP.cap; have := hP.max; unfold maxLen at this; omega
      obtain ⟨pp, hp'⟩ : ∃ p : Int, (y.p : Int) = p := ⟨_, rfl⟩
      obtain ⟨gg, hg'⟩ : ∃ g : Int, (y.g : Int) = g := ⟨_, rfl⟩
      obtain ⟨fl, hfl⟩ : ∃ fl : Nat, y.fs.length = fl := ⟨_, rfl⟩
      rw [hp'] at c0'
      rw [hg'] at c1'
      rw [hfl] at c2' hfm
      by_cases ht : 20 < fl
      · clear c0 c1 c2 hp' hg' hfl hy HI hP hlt'
        go_wp2
        go_ret
        exact ⟨rfl, bb hBV (bb hB (below_alloc _ _))⟩
      · have HS' : Hid (∀ j y, j < k + 1 → es[j]? = some y → ¬ 20 < y.fs.length) := by
          intro j y' hj hy'
          by_cases h : j < k
          · exact HI.out j y' h hy'
          · obtain rfl : j = k := by omega
            rw [hy] at hy'; cases hy'; omega
        clear c0 c1 c2 hp' hg' hfl hy HI hP hlt'
        go_wp2
        go_roundw
        case rel => exact ⟨k + 1, by go_num, by omega, HS', bb hB (below_alloc _ _)⟩
        case measure => simp [intOf]; omega
    · exfalso
      obtain ⟨y, hy, hd⟩ := List.any_eq_true.1 HBG.out
      obtain ⟨j, hj, rfl⟩ := List.getElem_of_mem hy
      have hjl : j < k := by rw [HL.out] at hj; omega
      exact HI.out j _ hjl (List.getElem?_eq_getElem hj) (of_decide_eq_true hd)
theorem makes_any (W : World) (kind z : Int) (hz : z < 9223372036854775808) (q : Nat) (hq : q < 18446744073709551616) (A : Option Addr) (C : Nat) (es : List En) (hE : EntsAt W A C es) (hfs : ∀ x ∈ es, x.fs.length * 16 ≤ 140737488355328) (n : Int) (hn : n < 9223372036854775808) (v : Nat) (hv : v < 18446744073709551616) :
    AnsB W 3 #[srcV kind z (q : Int) A es.length C, .int .i64 n, .int .u64 (v : Int)] (.bool true) := by
  have hcl := hE.cap
  have hcm := hE.max
  unfold maxLen at hcm
  by_cases h40 : 40 < es.length
  · exact makes_long W kind z q A _ C n v (by omega) (by omega)
  · by_cases hb : bigF es = true
    · exact makes_big W kind z q A C es hE (by omega) hb n v
    · by_cases k0 : kind = 0
      · subst k0
        by_cases ho : Odd16 q
        · have := ho.2.2
          obtain ⟨k, _, h2, _⟩ := row_last ho
          exact makes_small_yes W z q A C es hE (by omega) n v q (genOf q) (enOf q) ⟨rfl, rfl⟩ ((small_row ho).fsok (k := k) (by rw [rowOf, List.getElem?_map, h2]; rfl)) (by have := ho.2.1; omega) (by omega) ((of_odd1 z q (genOf q) A _ C ((rodd_any q hq).to (by rw [oddB_iff.2 ho])) (rgen_any q hq)).toB W) (small_yes W q ho)
        · exact makes_small_no W z q A C es hE (by omega) n v 1 (by omega) rfl ((of_odd0 z q A _ C ((rodd_any q hq).to (by rw [Bool.eq_false_iff.2 (fun h => ho (oddB_iff.1 h))]))).toB W) ((small_none q hq ho).toB W)
      · by_cases k1 : kind = 1
        · subst k1
          by_cases hr : 0 ≤ z ∧ z ≤ 5
          · obtain ⟨i, rfl⟩ := Int.eq_ofNat_of_zero_le hr.1
            have hg := (kn_fld i (by omega)).num
            exact makes_known_yes W i q A C es hE (by omega) n v (knP i) (knG i) (kn i) ⟨rfl, rfl⟩ ((kn_row i (by omega)).fsok (knRow_last i)) (by have := hg.1; show 1 ≤ (kn i).p; omega) hg.2.2 ((of_known i (by omega) q A _ C).toB W) (known_yes W i (by omega))
          · exact makes_known_no W z q A C es hE (by omega) n v 1 (by omega) rfl ((of_known0 z q A _ C (by omega)).toB W) ((known_none z (by omega)).toB W)
        · have h0 : (kind == 0) = false := by simpa using k0
          have h1 : (kind == 1) = false := by simpa using k1
          have HR := rows_c W A C es hE (by omega) hfs
          have HC := rcheck_any W A C es hE
          rcases check_two es with ⟨i, e, he, hv'⟩ | hr
          · rw [hv'] at HC
            exact makes_row_no W kind z q h0 h1 A C es hE (by omega) n v e (by omega) he (of_row W kind z q A C es hE (by omega) h0 h1 i e 0 0 e (Or.inr he) HC ⟨fun h => absurd h hb, fun _ _ => ⟨rfl, rfl, rfl⟩, fun _ h => (by subst h; cases he), fun _ h => (by subst h; cases he)⟩) HR fun w A' C' h => new_err w _ q i e he (by have := check_any w A' C' es h; rw [hv'] at this; exact this)
          · have hv' := hr.check
            rw [hv'] at HC
            cases hf : es.findIdx? fun y => y.p == q with
            | none =>
              have hnn : ∀ (j : Nat) (y : En), es[j]? = some y → y.p ≠ q := fun j y hy e => by
                have := List.findIdx?_eq_none_iff.1 hf y (List.mem_of_getElem? hy)
                simp [e] at this
              exact makes_row_no W kind z q h0 h1 A C es hE (by omega) n v 14 (by omega) rfl (of_row W kind z q A C es hE (by omega) h0 h1 0 0 0 0 14 (Or.inl rfl) HC ⟨fun h => absurd h hb, fun _ h => (by cases h), fun _ _ k x hx hp => absurd hp (hnn k x hx), fun _ _ _ => ⟨rfl, rfl, rfl⟩⟩) HR fun w A' C' h => new_not w A' C' es h hr q hf
            | some k =>
              obtain ⟨hk, h1', h2'⟩ := List.findIdx?_eq_some_iff_getElem.1 hf
              have hx : es[k]? = some es[k] := List.getElem?_eq_getElem hk
              have hp : es[k].p = q := by simpa using h1'
              have hg := (hr.fld hx).num
              refine makes_row_yes W kind z q h0 h1 A C es hE (by omega) n v es[k].p es[k].g es[k] ⟨rfl, rfl⟩ (hr.fsok hx) (by omega) hg.2.2 (of_row W kind z q A C es hE (by omega) h0 h1 0 0 (es[k].p : Int) (es[k].g : Int) 0 (Or.inl rfl) HC ⟨fun h => absurd h hb, fun _ h => (by cases h), fun _ _ j x hj hxp hl => ?_, fun _ _ h => absurd hp (h k _ hx)⟩) HR fun w A' C' h => ?_
              · have hjk : j = k := by
                  rcases Nat.lt_trichotomy j k with h | h | h
                  · have hjl := (List.getElem?_eq_some_iff.1 hj).1
                    have := h2' j h
                    have e : es[j] = x := (List.getElem?_eq_some_iff.1 hj).2
                    rw [e] at this
                    simp [hxp] at this
                  · exact h
                  · exact absurd hp (hl k _ h hx)
                subst hjk
                rw [hx] at hj; cases hj
                exact ⟨rfl, rfl, rfl⟩
              · have := new_right w A' C' es h hr k _ hx
                rw [hp] at this
                exact this
end Go.Proofs.YtikmopnadmgilaaGreat

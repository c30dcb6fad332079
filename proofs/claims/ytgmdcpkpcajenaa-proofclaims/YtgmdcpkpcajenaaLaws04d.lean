/-
  The walk of the statement ProofClaims.
-/
import Derived.Test.YtgmdcpkpcajenaaCl2
import Derived.Test.YtgmdcpkpcajenaaLaws04c
namespace Go.Proofs.Ytgmdcpkpcajenaa
set_option linter.unusedVariables false
open Go.RowKit

set_option maxHeartbeats 1000000 in
theorem claims0 (W : World) (s : Value) (q : Int) (HA : AnsB W 9 #[] (.bool true)) (HG : AnsB W 10 #[s] (.bool true)) : AnsB W 8 #[s, .int .u64 q] (.bool true) := by
  intro w hw
  go_enter Try.func8, Try.ntmps8
  go_wp2_with (first | (go_at_call 9; with_reducible refine AnsB.use HA hw fun w1 hb1 => ?_; have hB1 := bb hw hb1) | (go_at_call 10; with_reducible refine AnsB.use HG hB1 fun w2 hb2 => ?_))
  go_ret
  exact ⟨rfl, bb hb1 hb2⟩
set_option maxHeartbeats 1000000 in
theorem claims1 (W : World) (s : Value) (q : Int) (es : List En) (i e : Int) (HA : AnsB W 9 #[] (.bool true)) (HG : AnsB W 10 #[s] (.bool false)) (HR : RowsAns W s es)
    (HC : ∀ w A' C', EntsAt w A' C' es → AnsB w 17 #[.slice A' es.length C', .int .u64 q] (.tuple #[.agg #[.int .u64 0, .int .u64 0, .slice none 0 0], .bool false]))
    (HD : AnsB W 13 #[s] (.tuple #[.int .i64 i, .int .i64 e])) (h : (e != 0) = true ∨ (e = 0 ∧ AnsB W 18 #[s, .int .u64 q] (.bool false))) :
    AnsB W 8 #[s, .int .u64 q] (.bool true) := by
  intro w hw
  rcases h with h | ⟨rfl, HQ⟩
  · go_enter Try.func8, Try.ntmps8
    go_wp2_with (first | (go_at_call 9; with_reducible refine AnsB.use HA hw fun w1 hb1 => ?_; have hB1 := bb hw hb1) | (go_at_call 10; with_reducible refine AnsB.use HG hB1 fun w2 hb2 => ?_; have hB2 := bb hB1 hb2) | (go_at_call 12; with_reducible refine RowsAns.use HR hB2 fun A' C' w3 hE3 hb3 => ?_; have HC3 := HC w3 A' C' hE3; have hB3 := bb hB2 hb3) | (go_at_call 17; with_reducible refine AnsB.use HC3 (Below.refl _ _) fun w4 hb4 => ?_; have hB4 := bb hB3 hb4; obtain ⟨t0, t1, t2⟩ := three_cells w4 (.int .u64 0) (.int .u64 0) (.slice none 0 0) 44) | (go_at_call 13; with_reducible refine AnsB.use HD (bb hB4 (below_alloc _ _)) fun w5 hb5 => ?_; have u0 := keep_cell hb5 (by simp) t0; have u1 := keep_cell hb5 (by simp) t1; have u2 := keep_cell hb5 (by simp) t2))
    go_ret
    exact ⟨rfl, bb (bb (bb (bb (bb hb1 hb2) hb3) hb4) (below_alloc _ _)) hb5⟩
  · go_enter Try.func8, Try.ntmps8
    go_wp2_with (first | (go_at_call 9; with_reducible refine AnsB.use HA hw fun w1 hb1 => ?_; have hB1 := bb hw hb1) | (go_at_call 10; with_reducible refine AnsB.use HG hB1 fun w2 hb2 => ?_; have hB2 := bb hB1 hb2) | (go_at_call 12; with_reducible refine RowsAns.use HR hB2 fun A' C' w3 hE3 hb3 => ?_; have HC3 := HC w3 A' C' hE3; have hB3 := bb hB2 hb3) | (go_at_call 17; with_reducible refine AnsB.use HC3 (Below.refl _ _) fun w4 hb4 => ?_; have hB4 := bb hB3 hb4; obtain ⟨t0, t1, t2⟩ := three_cells w4 (.int .u64 0) (.int .u64 0) (.slice none 0 0) 44) | (go_at_call 13; with_reducible refine AnsB.use HD (bb hB4 (below_alloc _ _)) fun w5 hb5 => ?_; have hB5 := bb (bb hB4 (below_alloc _ _)) hb5) | (go_at_call 18; with_reducible refine AnsB.use HQ hB5 fun w6 hb6 => ?_; have u0 := keep_cell (bb hb5 hb6) (by simp) t0; have u1 := keep_cell (bb hb5 hb6) (by simp) t1; have u2 := keep_cell (bb hb5 hb6) (by simp) t2))
    go_ret
    exact ⟨rfl, bb (bb (bb (bb (bb (bb hb1 hb2) hb3) hb4) (below_alloc _ _)) hb5) hb6⟩
theorem pw_eqd (a b c d : Int) (n : Nat) (w : World) : (Op.equalIn (n + 1 + 1) 49 (.agg #[.int .u64 a, .int .i64 b]) (.agg #[.int .u64 c, .int .i64 d])).run Try.prog w = .ok (a == c && b == d) w := by
  have h1 := fun (a b : Int) (w : World) => run_equalIn_int (P := Try.prog) w n 32 .u64 .u64 a b Try.underlying32
  have h2 := fun (a b : Int) (w : World) => run_equalIn_int (P := Try.prog) w n 3 .i64 .i64 a b Try.underlying3
  rw [Op.equalIn]
  simp [go_sem, h1, h2]
  by_cases e0 : a = c <;> by_cases e1 : b = d <;> simp [e0, e1]
/-- Two factors are the same if their numbers are. -/
theorem pw_eq (a b c d : Int) (w : World) : (Op.equalIn 10000 49 (.agg #[.int .u64 a, .int .i64 b]) (.agg #[.int .u64 c, .int .i64 d])).run Try.prog w = .ok (a == c && b == d) w := pw_eqd a b c d 9998 w
theorem pw_guard : Try.prog.eqGuardType Try.prog.depth 49 = false := by kernel_rfl

set_option maxHeartbeats 2000000 in
theorem claims2 (W : World) (A : Option Addr) (C L : Nat) (q : Nat) (es : List En) (x : En) (hE : EntsAt W A C es) (HL : Hid (es.length = L)) (hlen : L ≤ 40) (hq : Hid (x.p = q)) (hun : Hid (∀ (j : Nat) (y : En), es[j]? = some y → y.p = q → y = x))
    (HA : AnsB W 9 #[] (.bool true)) (HG : AnsB W 10 #[.slice A L C] (.bool false)) (HR : RowsAns W (.slice A L C) es)
    (HC : ∀ w A' C', EntsAt w A' C' es → ∀ w', Below w.heap.size w w' → ∀ {R : Ending → World → Prop}, (∀ A2 C2 w2, PowsAt w2 A2 C2 x.fs → Below w'.heap.size w' w2 → R (.returned (.tuple #[.agg #[.int .u64 (q : Int), .int .u64 (x.g : Int), .slice A2 x.fs.length C2], .bool true])) w2) → Calls Try.prog 17 #[.slice A' es.length C', .int .u64 (q : Int)] w' R)
    (HD : AnsB W 13 #[.slice A L C] (.tuple #[.int .i64 0, .int .i64 0])) (HQ : AnsB W 18 #[.slice A L C, .int .u64 (q : Int)] (.bool true)) :
    AnsB W 8 #[.slice A L C, .int .u64 (q : Int)] (.bool true) := by
  intro w hw
  obtain ⟨g, hg⟩ : ∃ g : Int, (x.g : Int) = g := ⟨_, rfl⟩
  obtain ⟨fl, hfl⟩ : ∃ fl : Nat, x.fs.length = fl := ⟨_, rfl⟩
  have HF : Hid ((x.g : Int) = g ∧ x.fs.length = fl) := ⟨hg, hfl⟩
  rw [hg, hfl] at HC
  clear hg hfl
  go_enter Try.func8, Try.ntmps8
  go_wp2_with (first | (go_at_call 9; with_reducible refine AnsB.use HA hw fun w1 hb1 => ?_; have hB1 := bb hw hb1) | (go_at_call 10; with_reducible refine AnsB.use HG hB1 fun w2 hb2 => ?_; have hB2 := bb hB1 hb2) | (go_at_call 12; with_reducible refine RowsAns.use HR hB2 fun A' C' w3 hE3 hb3 => ?_; have HC3 := fun w' hw' {R} => @HC w3 A' C' hE3 w' hw' R; have hB3 := bb hB2 hb3) | (go_at_call 17; with_reducible refine HC3 _ (Below.refl _ _) fun A2 C2 w4 hP4 hb4 => ?_; have hB4 := bb hB3 hb4; obtain ⟨t0, t1, t2⟩ := three_cells w4 (.int .u64 (q : Int)) (.int .u64 g) (.slice A2 fl C2) 44) | (go_at_call 13; with_reducible refine AnsB.use HD (bb hB4 (below_alloc _ _)) fun w5 hb5 => ?_; have hB5 := bb (bb hB4 (below_alloc _ _)) hb5) | (go_at_call 18; with_reducible refine AnsB.use HQ hB5 fun w6 hb6 => ?_; have u0 := keep_cell (bb hb5 hb6) (by simp) t0; have u1 := keep_cell (bb hb5 hb6) (by simp) t1; have u2 := keep_cell (bb hb5 hb6) (by simp) t2))
  have hP6 : PowsAt w6 A2 C2 x.fs := hP4.below (bb (bb (below_alloc w4 (.cells #[.int .u64 (q : Int), .int .u64 g, .slice A2 fl C2] 44)) hb5) hb6)
  have hW6 : Below W.heap.size W w6 := bb hB5 hb6
  have hw6 : Below w.heap.size w w6 := bb (bb (bb (bb (bb (bb hb1 hb2) hb3) hb4) (below_alloc w4 (.cells #[.int .u64 (q : Int), .int .u64 g, .slice A2 fl C2] 44))) hb5) hb6
  have hbl : w4.heap.size < w6.heap.size := Nat.lt_of_lt_of_le (show w4.heap.size < (w4.alloc (.cells #[.int .u64 (q : Int), .int .u64 g, .slice A2 fl C2] 44)).heap.size by simp) (bb hb5 hb6).size
  obtain ⟨bg, hbg⟩ : ∃ bg, w4.heap.size = bg := ⟨_, rfl⟩
  rw [hbg] at u0 u1 u2 hbl ⊢
  have hEQ := pw_eq
  have hGD := pw_guard
  clear hbg hb1 hb2 hb3 hb4 hb5 hb6 hB1 hB2 hB3 hB4 hB5 HC3 hE3 hP4 t0 t1 t2 HC HA HG HR HD HQ
  go_loopw [57] (fun v wr => ∃ k : Nat, v = .int .i64 k ∧ k ≤ L ∧ Below w6.heap.size w6 wr) (fun v _ => L - (intOf v).toNat)
  case atStart => exact ⟨0, rfl, by omega, Below.refl _ _⟩
  case round =>
    obtain ⟨k, rfl, hk, hB⟩ := hrel
    by_cases hlt : k < L
    · have hlt' : k < es.length := by rw [HL.out]; exact hlt
      obtain ⟨y, hy⟩ : ∃ y, es[k]? = some y := ⟨_, List.getElem?_eq_getElem hlt'⟩
      obtain ⟨b, o, A3, C3, rfl, hb, c0, c1, c2, hPy, hp, hg⟩ := hE.get k y hy
      have c0' := keep_cell (bb hW6 hB) hb c0
      have c1' := keep_cell (bb hW6 hB) hb c1
      have c2' := keep_cell (bb hW6 hB) hb c2
      have s0 := keep_cell hB hbl u0
      have s1 := keep_cell hB hbl u1
      have s2 := keep_cell hB hbl u2
      by_cases hyq : y.p = q
      · have hyx := hun.out k y hy hyq
        subst hyx
        rw [hyq] at c0'
        rw [HF.out.1] at c1'
        rw [HF.out.2] at c2'
        obtain ⟨t0, t1, t2⟩ := three_cells wr (.int .u64 (q : Int)) (.int .u64 g) (.slice A3 fl C3) 35
        obtain ⟨V, hV⟩ : ∃ V, wr.alloc (.cells #[.int .u64 (q : Int), .int .u64 g, .slice A3 fl C3] 35) = V := ⟨_, rfl⟩
        have hBV : Below wr.heap.size wr V := hV ▸ below_alloc _ _
        rw [hV] at t0 t1 t2
        obtain ⟨bo, hbo⟩ : ∃ bo, wr.heap.size = bo := ⟨_, rfl⟩
        have hVs : bo < V.heap.size := by rw [← hV, ← hbo]; simp
        rw [hbo] at t0 t1 t2
        have hB6V : Below w6.heap.size w6 V := bb hB hBV
        have hWV : Below W.heap.size W V := bb hW6 hB6V
        have hbgw : bg < wr.heap.size := Nat.lt_of_lt_of_le hbl hB.size
        have r0 := keep_cell hBV hbgw s0
        have r1 := keep_cell hBV hbgw s1
        have r2 := keep_cell hBV hbgw s2
        have hflm : (fl : Int) ≤ 9223372036854775807 := by have := hPy.cap; have := hPy.max; unfold maxLen at this; have := HF.out.2; omega
        clear c0 c1 c2 hy hlt' hBV hB hbgw s0 s1 s2 hyq
        go_wp2
        clear hbo hV
        go_loopw [88] (fun v wi => ∃ j : Nat, v = .int .i64 j ∧ j ≤ fl ∧ Below V.heap.size V wi) (fun v _ => fl - (intOf v).toNat)
        case atStart => exact ⟨0, rfl, by omega, Below.refl _ _⟩
        case round =>
          obtain ⟨j, rfl, hj, hBi⟩ := hrel
          by_cases hjl : j < fl
          · have hjl' : j < y.fs.length := by rw [HF.out.2]; exact hjl
            obtain ⟨f, hf⟩ : ∃ f, y.fs[j]? = some f := ⟨_, List.getElem?_eq_getElem hjl'⟩
            obtain ⟨b1, o1, rfl, hl1, k0, k1, _⟩ := hPy.get j f hf
            obtain ⟨b2, o2, rfl, hl2, k2, k3, _⟩ := hP6.get j f hf
            have k0' := keep_cell (bb hWV hBi) hl1 k0
            have k1' := keep_cell (bb hWV hBi) hl1 k1
            have k2' := keep_cell (bb hB6V hBi) hl2 k2
            have k3' := keep_cell (bb hB6V hBi) hl2 k3
            have t2' := keep_cell hBi hVs t2
            obtain ⟨z0, z1⟩ := two_cells wr (.int .u64 (f.q : Int)) (.int .i64 f.e) 49
            obtain ⟨V2, hV2⟩ : ∃ V2, wr.alloc (.cells #[.int .u64 (f.q : Int), .int .i64 f.e] 49) = V2 := ⟨_, rfl⟩
            have hBV2 : Below wr.heap.size wr V2 := hV2 ▸ below_alloc _ _
            rw [hV2] at z0 z1
            have l0 := keep_cell hBV2 (block_of_cell k0') k0'
            have l1 := keep_cell hBV2 (block_of_cell k1') k1'
            have l2 := keep_cell hBV2 (block_of_cell t2') t2'
            clear k0 k1 k2 k3 hf hjl'
            go_wp2
            go_quiet ((fail))
            go_wp2
            go_roundw
            case rel => exact ⟨j + 1, by go_num, by omega, bb (bb hBi hBV2) (below_drewN _ _)⟩
            case measure => simp [intOf]; omega
          · obtain rfl : j = fl := by omega
            go_wp2
            go_roundw
            case rel => exact ⟨k + 1, by go_num, by omega, bb hB6V hBi⟩
            case measure => simp [intOf]; omega
      · have hpq : ((y.p : Int) == (q : Int)) = false := by simp; omega
        obtain ⟨p', hp'⟩ : ∃ p' : Int, (y.p : Int) = p' := ⟨_, rfl⟩
        obtain ⟨g', hg'⟩ : ∃ g' : Int, (y.g : Int) = g' := ⟨_, rfl⟩
        obtain ⟨fl', hfl'⟩ : ∃ fl' : Nat, y.fs.length = fl' := ⟨_, rfl⟩
        rw [hp'] at c0' hpq
        rw [hg'] at c1'
        rw [hfl'] at c2'
        clear c0 c1 c2 hy hlt' hp' hg' hfl' hyq
        go_wp2
        go_roundw
        case rel => exact ⟨k + 1, by go_num, by omega, bb hB (below_alloc _ _)⟩
        case measure => simp [intOf]; omega
    · obtain rfl : k = L := by omega
      go_wp2
      go_ret
      exact ⟨rfl, bb hw6 hB⟩
theorem row_rises {es : List En} (h : checkO es = none) : ∀ (d i : Nat) (x y : En), es[i]? = some x → es[i + d + 1]? = some y → x.p < y.p := by
  have step : ∀ (i : Nat) (x y : En), es[i]? = some x → es[i + 1]? = some y → x.p < y.p := by
    intro i x y hx hy
    have hb := check_all h (i + 1) (List.getElem?_eq_some_iff.1 hy).1
    rw [bad_some hy] at hb
    have hr : rightB (es.take (i + 1)) y = true := by simpa using hb
    have hc := (right_parts hr).2.1
    unfold climbsB at hc
    rw [last_take hx] at hc
    exact of_decide_eq_true hc
  intro d
  induction d with
  | zero => intro i x y hx hy; exact step i x y hx hy
  | succ d ih =>
    intro i x y hx hy
    have hl : i + (d + 1) + 1 < es.length := (List.getElem?_eq_some_iff.1 hy).1
    obtain ⟨z, hz⟩ : ∃ z, es[i + d + 1]? = some z := ⟨_, List.getElem?_eq_getElem (by omega)⟩
    have h1 := ih i x z hx hz
    have h2 := step (i + d + 1) z y hz (by rw [show i + d + 1 + 1 = i + (d + 1) + 1 by omega]; exact hy)
    omega
theorem row_once {es : List En} (h : checkO es = none) (i j : Nat) (x y : En) (hx : es[i]? = some x) (hy : es[j]? = some y) (e : x.p = y.p) : y = x := by
  by_cases hij : i = j
  · subst hij; rw [hx] at hy; cases hy; rfl
  · exfalso
    by_cases hl : i < j
    · have := row_rises h (j - i - 1) i x y hx (by rw [show i + (j - i - 1) + 1 = j by omega]; exact hy); omega
    · have := row_rises h (i - j - 1) j y x hy (by rw [show j + (i - j - 1) + 1 = i by omega]; exact hx); omega
theorem claims_any (W : World) (A : Option Addr) (C : Nat) (es : List En) (hE : EntsAt W A C es) (hfs : ∀ x ∈ es, x.fs.length * 16 ≤ 140737488355328) (q : Nat) (hq : q < 18446744073709551616) :
    AnsB W 8 #[.slice A es.length C, .int .u64 (q : Int)] (.bool true) := by
  have HG := great_any W A C es hE
  cases hg : greatB es with
  | true => rw [hg] at HG; exact claims0 W _ q (alive_any W) HG
  | false =>
    rw [hg] at HG
    obtain ⟨h1, _⟩ := great_small hg
    have HR := rows_any W A C es hE (by omega) hfs
    have HD := rcheck_any W A C es hE
    have HC : ∀ w A' C', EntsAt w A' C' es → AnsB w 11 #[.slice A' es.length C'] (checkV es) := fun w A' C' hE' => check_any w A' C' es hE'
    have HI : ∀ w A' C', EntsAt w A' C' es → ∀ w1 b, Below w.heap.size w w1 → b < w1.heap.size → w1.cell? ⟨b, 0, none⟩ = some (.int .u64 (q : Int)) → AnsB w1 22 #[.slice A' es.length C', .func (.func 23) #[] #[.pointer (some ⟨b, 0, none⟩)]] (idxV (es.findIdx? fun x => x.p == q)) := fun w A' C' hE' w1 b hw1 hb hc => indexE_claim w1 A' C' es (hE'.below hw1) q b hc hb
    by_cases h32 : 32 < es.length
    · have hv : checkV es = .tuple #[.int .i64 0, .int .i64 13] := by unfold checkV; rw [if_pos h32]
      rw [hv] at HD HC
      exact claims1 W _ q es 0 13 (alive_any W) HG HR (fun w A' C' hE' => claim_no w _ q 0 13 (HC w A' C' hE') (Or.inl (by decide))) HD (Or.inl (by decide))
    · cases ho : checkO es with
      | some i =>
        have hv : checkV es = .tuple #[.int .i64 (i : Int), .int .i64 3] := by unfold checkV; rw [if_neg h32, ho]
        rw [hv] at HD HC
        exact claims1 W _ q es i 3 (alive_any W) HG HR (fun w A' C' hE' => claim_no w _ q i 3 (HC w A' C' hE') (Or.inl (by decide))) HD (Or.inl (by decide))
      | none =>
        have hv : checkV es = .tuple #[.int .i64 0, .int .i64 0] := by unfold checkV; rw [if_neg h32, ho]
        rw [hv] at HD HC
        have HQ := claimed_any W A C es hE q hq
        cases hi : es.findIdx? (fun x => x.p == q) with
        | none =>
          rw [hi] at HI
          have ha : (es.any fun x => x.p == q) = false := by rw [← List.findIdx?_isSome, hi]; rfl
          rw [ha] at HQ
          exact claims1 W _ q es 0 0 (alive_any W) HG HR (fun w A' C' hE' => claim_no w _ q 0 0 (HC w A' C' hE') (Or.inr ⟨rfl, fun w1 b a1 a2 a3 => HI w A' C' hE' w1 b a1 a2 a3⟩)) HD (Or.inr ⟨rfl, HQ⟩)
        | some k =>
          rw [hi] at HI
          have ha : (es.any fun x => x.p == q) = true := by rw [← List.findIdx?_isSome, hi]; rfl
          rw [ha] at HQ
          obtain ⟨hk, hpk, _⟩ := List.findIdx?_eq_some_iff_getElem.1 hi
          obtain ⟨x, hx⟩ : ∃ x, es[k]? = some x := ⟨_, List.getElem?_eq_getElem hk⟩
          have hxq : x.p = q := by
            have : es[k] = x := by rw [List.getElem?_eq_getElem hk] at hx; exact Option.some.inj hx
            rw [← this]; simpa using hpk
          have hcm := hE.cap
          have hmx := hE.max
          unfold maxLen at hmx
          refine claims2 W A C es.length q es x hE rfl (by omega) hxq (fun j y hy hyq => row_once ho k j x y hx hy (by omega)) (alive_any W) HG HR (fun w A' C' hE' w' hw' R kk => ?_) HD HQ
          obtain ⟨b, o, A3, C3, rfl, hb, c0, c1, c2, hP, hp, hgg⟩ := hE'.get k x hx
          rw [hxq] at c0
          have HK := clone_any w A3 C3 x.fs hP (hfs x (List.mem_of_getElem? hx))
          refine (claim_yes w b o es.length C' k q q x.g A3 x.fs C3 (by omega) (by omega) hb c0 c1 c2 (HC w _ C' hE') (fun w1 b2 a1 a2 a3 => HI w _ C' hE' w1 b2 a1 a2 a3) HK w' hw').mono ?_
          rintro e w2 ⟨A2, C2, rfl, hP2, hb2⟩
          exact kk A2 C2 w2 hP2 hb2
end Go.Proofs.Ytgmdcpkpcajenaa

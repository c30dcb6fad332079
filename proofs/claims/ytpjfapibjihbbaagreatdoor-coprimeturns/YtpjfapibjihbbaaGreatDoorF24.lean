/-
  The contract of the document's Right, behind its first test.
-/
import Derived.Test.YtpjfapibjihbbaaGreatDoorF23
namespace Go.Proofs.YtpjfapibjihbbaaGreatDoor
set_option linter.unusedVariables false
open Go.RowKit

theorem inc_mono : ∀ (fs : List Pw) (last : Nat), Inc last fs → ∀ (k : Nat) (f g : Pw), fs[0]? = some f → fs[k]? = some g → f.q ≤ g.q
  | [], _, _, k, f, g, hf, _ => by simp at hf
  | x :: fs, last, h, k, f, g, hf, hg => by
    cases hf
    cases k with
    | zero => cases hg; exact Nat.le_refl _
    | succ k => exact Nat.le_of_lt (inc_pos fs x.q h.2 g (List.mem_of_getElem? (by simpa using hg)))

theorem right_prod {es : List En} {x : En} (ht : rightB es x = true) {o : Option Nat} (ho : prodUp (x.p - 1) 1 x.fs = o) (hn : ∀ m, o = some m → m ≠ x.p - 1) : False := by
  obtain ⟨hgd, _, _, hf, _⟩ := right_parts ht
  have h1 := hgd.2.1
  obtain ⟨a1, a2, a3, a4⟩ := (fac_iff _ _ _ _ _).1 hf
  have hq : ∀ f ∈ x.fs, 2 ≤ f.q := by
    intro f hf2
    obtain ⟨k, hk, rfl⟩ := List.getElem_of_mem hf2
    have hkn := a2 k _ (List.getElem?_eq_getElem hk)
    have hpos := inc_pos _ _ a1 _ hf2
    cases k with
    | zero =>
      have : x.fs[0].q = 2 := by simpa [knownB] using hkn
      omega
    | succ k =>
      have h0 : 0 < x.fs.length := by omega
      have hk0 := a2 0 _ (List.getElem?_eq_getElem h0)
      have : x.fs[0].q = 2 := by simpa [knownB] using hk0
      have := inc_mono x.fs 0 a1 (k + 1) _ _ (List.getElem?_eq_getElem h0) (List.getElem?_eq_getElem hk)
      omega
  have hp := (prodUp_iff (x.p - 1) x.fs 1 (x.p - 1) (by omega) (by omega)).2 ⟨fun f hf2 => ⟨a3 f hf2, hq f hf2⟩, by rw [Nat.one_mul, ← a4], by rw [Nat.one_mul, ← a4]; exact Nat.le_refl _⟩
  exact hn _ (ho.symm.trans hp) rfl
theorem right_fac {es : List En} {x : En} (h0 : ∀ f, x.fs[0]? = some f → f.q = 2) (hI : ∀ m f f', x.fs[m]? = some f → x.fs[m + 1]? = some f' → f.q < f'.q ∧ (es.any fun y => y.p == f'.q) = true) (hp : prodUp (x.p - 1) 1 x.fs = some (x.p - 1)) (h1 : 1 ≤ x.p - 1) : facLoop es 0 (x.p - 1) 0 x.fs = true := by
  obtain ⟨a1, a2, a3⟩ := (prodUp_iff (x.p - 1) x.fs 1 (x.p - 1) (by omega) (by omega)).1 hp
  refine (fac_iff _ _ _ _ _).2 ⟨inc_of _ _ (fun f hf => by rw [h0 f hf]; omega) (fun k f g hf hg => (hI k f g hf hg).1), fun k f hf => ?_, fun f hf => (a1 f hf).1, by rw [← a2, Nat.one_mul]⟩
  rw [Nat.zero_add]
  cases k with
  | zero => unfold knownB; rw [if_pos rfl, h0 f hf]; rfl
  | succ k =>
    rw [known_succ]
    have hk : k < x.fs.length := by have := (List.getElem?_eq_some_iff.1 hf).1; omega
    exact (hI k _ f (List.getElem?_eq_getElem hk) hf).2

set_option maxRecDepth 20000 in
set_option maxHeartbeats 4000000 in
theorem rr_main (W : World) (b o i L C : Nat) (p g q r : Int) (fb fo fl C' : Nat) (j : Nat) (c4 c5 : Bool) (Hd : Head W b o i p q r false false false c4 c5)
    (hi : (i : Int) < L) (hL : (L : Int) ≤ 9223372036854775807) (hb : b < W.heap.size) (hj : c4 = true → (i : Int) - 1 = j ∧ (j : Int) < L ∧ W.cell? ⟨b, o + j * 3, none⟩ = some (.int .u64 q))
    (d0 : W.cell? ⟨b, o + i * 3, none⟩ = some (.int .u64 p)) (d1 : W.cell? ⟨b, o + i * 3 + 1, none⟩ = some (.int .u64 g)) (d2 : W.cell? ⟨b, o + i * 3 + 2, none⟩ = some (.slice (some ⟨fb, fo, none⟩) fl C'))
    (h : c4 = false ∨ (c4 = true ∧ c5 = false))
    (es : List En) (x : En) (pm : Int) (rb : Bool) (hE : EntsAt W (some ⟨b, o, none⟩) C es) (hiL : i ≤ es.length) (hiC : i ≤ C) (hCm : C ≤ 9223372036854775807) (hP : PowsAt W (some ⟨fb, fo, none⟩) C' x.fs) (HN : Hid (x.fs.length = fl ∧ (x.p : Int) = p ∧ (x.g : Int) = g ∧ ((x.p - 1 : Nat) : Int) = pm)) (HR : Hid (rightB (es.take i) x = rb)) (hgd : Gd x.p) (hcl0 : climbsB (es.take i) x.p = true)
    (hm : p - 1 = pm) (hm0 : 0 ≤ pm) (hm1 : pm < 18446744073709551616) (hmw : IntKind.u64.wrap pm = pm) (hf1 : 1 ≤ (fl : Int)) (hf : (fl : Int) ≤ 16) (hfb : fb < W.heap.size) (hy : W.cell? ⟨fb, fo, none⟩ = some (.int .u64 2)) (hy2 : ∀ f, x.fs[0]? = some f → f.q = 2) :
    AnsB W 52 #[.slice (some ⟨b, o, none⟩) L C, .int .i64 (i : Int)] (.bool rb) := by
  intro w hw
  obtain ⟨p0, p1, r1, r2, r3, e1, e2, e3, e4, e5⟩ := Hd
  have d0' := keep_cell hw hb d0
  have d1' := keep_cell hw hb d1
  have d2' := keep_cell hw hb d2
  obtain ⟨t0, t1, t2⟩ := three_cells w (.int .u64 p) (.int .u64 g) (.slice (some ⟨fb, fo, none⟩) fl C') 71
  obtain ⟨V, hV⟩ : ∃ V, w.alloc (.cells #[.int .u64 p, .int .u64 g, .slice (some ⟨fb, fo, none⟩) fl C'] 71) = V := ⟨_, rfl⟩
  have hVs : w.heap.size < V.heap.size := by rw [← hV]; simp
  have hBV : Below w.heap.size w V := hV ▸ below_alloc _ _
  rw [hV] at t0 t1 t2
  have hqc : c4 = true → V.cell? ⟨b, o + j * 3, none⟩ = some (.int .u64 q) := fun h4 => keep_cell (bb hw hBV) hb (hj h4).2.2
  have hy' := keep_cell (bb hw hBV) hfb hy
  have hWV : Below W.heap.size W V := bb hw hBV
  clear hy
  clear d0 d1 d2
  rcases h with rfl | ⟨rfl, rfl⟩
  · clear hj hqc e5
    go_enter Tryz.func52, Tryz.ntmps52
    go_wp2
    go_quiet ((fail))
    go_wp2
    go_loopw [6] (fun v wr => ∃ k : Nat, v = .int .i64 k ∧ 1 ≤ k ∧ k ≤ fl ∧ Hid (∀ m f f', m + 1 < k → x.fs[m]? = some f → x.fs[m + 1]? = some f' → f.q < f'.q ∧ ((es.take i).any fun y => y.p == f'.q) = true) ∧ Below V.heap.size V wr) (fun v _ => fl - (intOf v).toNat)
    case atStart => exact ⟨1, rfl, by omega, by omega, fun m f f' hm => absurd hm (by omega), below_drewN _ _⟩
    case round =>
      obtain ⟨k, rfl, hk0, hk, HI, hB⟩ := hrel
      have hBWr : Below W.heap.size W wr := bb hWV hB
      have u0 := keep_cell hB hVs t0
      have u1 := keep_cell hB hVs t1
      have u2 := keep_cell hB hVs t2
      by_cases hlt : k < fl
      · obtain ⟨m, rfl⟩ : ∃ m, k = m + 1 := ⟨k - 1, by omega⟩
        have hm1 : m + 1 < x.fs.length := by rw [HN.out.1]; exact hlt
        obtain ⟨f', hf'⟩ : ∃ f, x.fs[m + 1]? = some f := ⟨_, List.getElem?_eq_getElem hm1⟩
        obtain ⟨f, hf⟩ : ∃ f, x.fs[m]? = some f := ⟨_, List.getElem?_eq_getElem (by omega)⟩
        obtain ⟨b1, o1, ha1, hl1, k0, _, hok1⟩ := hP.get (m + 1) f' hf'
        cases ha1
        obtain ⟨b2, o2, ha2, hl2, k2, _, hok2⟩ := hP.get m f hf
        cases ha2
        have HCl := claimed_any W (some ⟨b, o, none⟩) C (es.take i) (hE.take i) f'.q hok1.1
        rw [List.length_take, show min i es.length = i by omega] at HCl
        have k0' := keep_cell hBWr hl1 k0
        have k2' := keep_cell hBWr hl1 k2
        obtain ⟨q', hq'⟩ : ∃ q' : Int, (f'.q : Int) = q' := ⟨_, rfl⟩
        obtain ⟨q, hq⟩ : ∃ q : Int, (f.q : Int) = q := ⟨_, rfl⟩
        rw [hq'] at k0' HCl
        rw [hq] at k2'
        have km : ((m + 1 : Nat) : Int) - 1 = (m : Int) := by omega
        obtain ⟨k1, hk1⟩ : ∃ k1, m + 1 = k1 := ⟨_, rfl⟩
        rw [hk1] at k0' km
        have hkf : k1 < fl := by omega
        have hmf : m < fl := by omega
        have g0 := cell_regrown k0'
        have g2 := cell_regrown k2'
        have gt := cell_regrown u2
        have HQ : Hid ((f'.q : Int) = q' ∧ (f.q : Int) = q ∧ x.fs[m + 1]? = some f' ∧ x.fs[m]? = some f ∧ m + 1 = k1) := ⟨hq', hq, hf', hf, hk1⟩
        rw [hk1]
        rw [hk1] at HI
        clear k0 k2 hq' hq hf' hf hm1 hlt hk hk0
        by_cases hle : q' ≤ q
        · have hle' : decide (q' ≤ q) = true := decide_eq_true hle
          have HE : Hid (rb = false) := by
            unfold Hid; rw [← HR.out]
            refine not_right fun ht => ?_
            obtain ⟨a1, a2, a3, a4, a5⟩ := HQ.out
            have := inc_get _ _ ((fac_iff _ _ _ _ _).1 (right_parts ht).2.2.2.1).1 m f f' a4 a3
            omega
          clear HI HQ hk1 HCl
          go_wp2
          refine wp_region_quiet_below (by kernel_rfl) (by kernel_rfl) ?_
          repeat (go_big_quiet_step ((fail)))
          refine wpQuiet_nil ?_
          intro _ hw'
          obtain ⟨⟨dq, osq⟩, hw''⟩ := hw'
          subst hw''
          go_wp2
          go_ret
          exact ⟨ret_bool HE.out.symm, bb (bb hBV hB) (below_regrown _ dq osq)⟩
        · have hle' : decide (q' ≤ q) = false := decide_eq_false hle
          cases hcl : ((es.take i).any fun y => y.p == f'.q) with
          | false =>
            rw [hcl] at HCl
            have HE : Hid (rb = false) := by
              unfold Hid; rw [← HR.out]
              refine not_right fun ht => ?_
              obtain ⟨a1, a2, a3, a4, a5⟩ := HQ.out
              have := ((fac_iff _ _ _ _ _).1 (right_parts ht).2.2.2.1).2.1 (m + 1) f' a3
              rw [Nat.zero_add, known_succ, hcl] at this
              cases this
            clear HI HQ hk1 hcl
            go_wp2
            refine wp_region_quiet_below (by kernel_rfl) (by kernel_rfl) ?_
            repeat (go_big_quiet_step ((exact AnsB.regrown HCl hBWr)))
            refine wpQuiet_nil ?_
            intro _ hw'
            obtain ⟨⟨dq, osq⟩, hw''⟩ := hw'
            subst hw''
            go_wp2
            go_ret
            exact ⟨ret_bool HE.out.symm, bb (bb hBV hB) (below_regrown _ dq osq)⟩
          | true =>
            rw [hcl] at HCl
            have HS : Hid (∀ m f f', m + 1 < k1 + 1 → x.fs[m]? = some f → x.fs[m + 1]? = some f' → f.q < f'.q ∧ ((es.take i).any fun y => y.p == f'.q) = true) := by
              intro m2 f2 f2' h2 h3 h4
              obtain ⟨a1, a2, a3, a4, a5⟩ := HQ.out
              by_cases hlt2 : m2 + 1 < k1
              · exact HI.out m2 f2 f2' hlt2 h3 h4
              · obtain rfl : m2 = m := by omega
                rw [a4] at h3; rw [a3] at h4
                cases h3; cases h4
                exact ⟨by omega, hcl⟩
            clear HI HQ hk1 hcl
            go_wp2
            refine wp_region_quiet_below (by kernel_rfl) (by kernel_rfl) ?_
            repeat (go_big_quiet_step ((exact AnsB.regrown HCl hBWr)))
            refine wpQuiet_nil ?_
            intro _ hw'
            obtain ⟨⟨dq, osq⟩, hw''⟩ := hw'
            subst hw''
            go_wp2
            go_roundw
            case rel => exact ⟨k1 + 1, by go_num, by omega, by omega, HS, bb hB (below_regrown _ dq osq)⟩
            case measure => simp [intOf]; omega
      · obtain rfl : k = fl := by omega
        have HI2 : Hid (∀ m f f', x.fs[m]? = some f → x.fs[m + 1]? = some f' → f.q < f'.q ∧ ((es.take i).any fun y => y.p == f'.q) = true) := by
          intro m f f' h1 h2
          exact HI.out m f f' (by rw [← HN.out.1]; exact (List.getElem?_eq_some_iff.1 h2).1) h1 h2
        clear HI hlt
        have HPr := product_any W (some ⟨fb, fo, none⟩) C' x.fs hP (x.p - 1) (by have := hgd.2.1; omega) (by have := hgd.2.2; omega)
        rw [HN.out.1, HN.out.2.2.2] at HPr
        cases hpu : prodUp (x.p - 1) 1 x.fs with
        | none =>
          rw [hpu] at HPr
          replace HPr : AnsB W 69 #[.slice (some ⟨fb, fo, none⟩) k C', .int .u64 pm] (.tuple #[.int .u64 0, .bool false]) := HPr
          have HE : Hid (rb = false) := by
            unfold Hid; rw [← HR.out]
            exact not_right fun ht => right_prod ht hpu (fun m hm => by cases hm)
          clear hpu
          go_wp2_with (first | (go_at_call 69; with_reducible refine AnsB.use HPr hBWr fun w2 hb2 => ?_; have s0 := keep_cell (bb hB hb2) hVs t0; have s1 := keep_cell (bb hB hb2) hVs t1; have s2 := keep_cell (bb hB hb2) hVs t2) | (go_at_call 47; with_reducible refine Ans.use HPo _ fun n1 => ?_))
          go_ret
          exact ⟨ret_bool HE.out.symm, bb (bb hBV hB) hb2⟩
        | some n =>
          rw [hpu] at HPr
          by_cases hn : n = x.p - 1
          · replace HPr : AnsB W 69 #[.slice (some ⟨fb, fo, none⟩) k C', .int .u64 pm] (.tuple #[.int .u64 pm, .bool true]) := by
              rw [hn] at HPr
              have e : woV (some (x.p - 1)) = .tuple #[.int .u64 pm, .bool true] := by rw [← HN.out.2.2.2]; rfl
              rw [e] at HPr
              exact HPr
            by_cases hg2 : g < 2
            · have HE : Hid (rb = false) := by
                unfold Hid; rw [← HR.out]
                exact not_right fun ht => by have := (right_parts ht).2.2.2.2.1; have := HN.out.2.2.1; omega
              clear hpu hn
              go_wp2_with (first | (go_at_call 69; with_reducible refine AnsB.use HPr hBWr fun w2 hb2 => ?_; have s0 := keep_cell (bb hB hb2) hVs t0; have s1 := keep_cell (bb hB hb2) hVs t1; have s2 := keep_cell (bb hB hb2) hVs t2) | (go_at_call 47; with_reducible refine Ans.use HPo _ fun n1 => ?_))
              go_ret
              exact ⟨ret_bool HE.out.symm, bb (bb hBV hB) hb2⟩
            · by_cases hgp : p ≤ g
              · have HE : Hid (rb = false) := by
                  unfold Hid; rw [← HR.out]
                  exact not_right fun ht => by have := (right_parts ht).2.2.2.2.1; have := HN.out.2.1; have := HN.out.2.2.1; omega
                clear hpu hn
                go_wp2_with (first | (go_at_call 69; with_reducible refine AnsB.use HPr hBWr fun w2 hb2 => ?_; have s0 := keep_cell (bb hB hb2) hVs t0; have s1 := keep_cell (bb hB hb2) hVs t1; have s2 := keep_cell (bb hB hb2) hVs t2) | (go_at_call 47; with_reducible refine Ans.use HPo _ fun n1 => ?_))
                go_ret
                exact ⟨ret_bool HE.out.symm, bb (bb hBV hB) hb2⟩
              · have HPo := rpow_any x.g x.p (by have := HN.out.2.2.1; have := HN.out.2.1; omega) (by have := hgd.2.2; omega) (by have := hgd.2.1; omega) (x.p - 1) (by have := hgd.2.2; omega)
                rw [HN.out.2.1, HN.out.2.2.1, HN.out.2.2.2] at HPo
                by_cases hone : x.g ^ (x.p - 1) % x.p = 1
                · rw [hone] at HPo
                  replace HPo : Ans 47 #[.int .u64 g, .int .u64 pm, .int .u64 p] (.int .u64 1) := HPo
                  have hq2 : Hid (∀ f ∈ x.fs, (1 ≤ f.e ∧ f.e ≤ 62) ∧ 2 ≤ f.q) := ((prodUp_iff _ _ _ _ (by have := hgd.2.1; omega) (by omega)).1 hpu).1
                  have hfac : Hid (facLoop (es.take i) 0 (x.p - 1) 0 x.fs = true) := right_fac hy2 HI2.out (by rw [hpu, hn]) (by have := hgd.2.1; omega)
                  have hone' : Hid (oneAt x (x.p - 1) = true) := by unfold Hid oneAt; rw [hone]; rfl
                  have hgb : Hid (2 ≤ x.g ∧ x.g < x.p) := by have h1 := HN.out.2.1; have h2 := HN.out.2.2.1; exact ⟨by omega, by omega⟩
                  clear hpu hn hone HI2
                  go_wp2_with (first | (go_at_call 69; with_reducible refine AnsB.use HPr hBWr fun w2 hb2 => ?_; have s0 := keep_cell (bb hB hb2) hVs t0; have s1 := keep_cell (bb hB hb2) hVs t1; have s2 := keep_cell (bb hB hb2) hVs t2) | (go_at_call 47; with_reducible refine Ans.use HPo _ fun n1 => ?_))
                  have hB2 : Below V.heap.size V (w2.drewN n1) := bb (bb hB hb2) (below_drewN _ _)
                  generalize w2.drewN n1 = w3 at hB2 ⊢
                  clear hb2 s0 s1 s2 HPr HPo u0 u1 u2 hBWr hB
                  go_loopw [140] (fun v wr => ∃ k2 : Nat, v = .int .i64 k2 ∧ k2 ≤ k ∧ Hid (∀ m f, m < k2 → x.fs[m]? = some f → oneAt x ((x.p - 1) / f.q) = false) ∧ Below V.heap.size V wr) (fun v _ => k - (intOf v).toNat)
                  case atStart => exact ⟨0, rfl, by omega, fun m f hm => absurd hm (by omega), hB2⟩
                  case round =>
                    obtain ⟨k2, rfl, hk2, HJ, hB3⟩ := hrel
                    by_cases hlt2 : k2 < k
                    · have hlt3 : k2 < x.fs.length := by rw [HN.out.1]; exact hlt2
                      obtain ⟨f, hf⟩ : ∃ f, x.fs[k2]? = some f := ⟨_, List.getElem?_eq_getElem hlt3⟩
                      obtain ⟨b1, o1, ha1, hl1, k0, k1, hok1⟩ := hP.get k2 f hf
                      cases ha1
                      have hBW3 : Below W.heap.size W wr := bb hWV hB3
                      have k0' := keep_cell hBW3 hl1 k0
                      have k1' := keep_cell hBW3 hl1 k1
                      have u0 := keep_cell hB3 hVs t0
                      have u1 := keep_cell hB3 hVs t1
                      have u2 := keep_cell hB3 hVs t2
                      have hf2 := (hq2.out f (List.mem_of_getElem? hf)).2
                      obtain ⟨d, hd⟩ : ∃ d, (x.p - 1) / f.q = d := ⟨_, rfl⟩
                      have hdl : d ≤ x.p - 1 := hd ▸ Nat.div_le_self _ _
                      have hpd : pm / (f.q : Int) = (d : Int) := by rw [← HN.out.2.2.2, ← hd]; simp
                      have hdlt : (d : Int) < 18446744073709551616 := by have := hgd.2.2; omega
                      have HPo := rpow_any x.g x.p (by have := hgb.out; have := hgd.2.2; omega) (by have := hgd.2.2; omega) (by have := hgd.2.1; omega) d (by omega)
                      rw [HN.out.2.1, HN.out.2.2.1] at HPo
                      obtain ⟨v, hv⟩ : ∃ v, x.g ^ d % x.p = v := ⟨_, rfl⟩
                      rw [hv] at HPo
                      have hov : oneAt x ((x.p - 1) / f.q) = (v == 1) := by unfold oneAt; rw [hd, hv]
                      obtain ⟨q, hq⟩ : ∃ q : Nat, f.q = q := ⟨_, rfl⟩
                      obtain ⟨e, he⟩ : ∃ e : Int, f.e = e := ⟨_, rfl⟩
                      rw [hq] at k0' hpd hf2
                      rw [he] at k1'
                      have z1 : ¬ (q : Int) = 0 := by omega
                      have z2 : ((q : Int) == 0) = false := by simp; omega
                      have z3 : Int.tdiv pm (q : Int) = (d : Int) := by rw [Int.tdiv_eq_ediv_of_nonneg (by omega)]; exact hpd
                      have z4 : IntKind.u64.wrap (d : Int) = (d : Int) := wrap_small _ (by omega) (by omega)
                      obtain ⟨x0, x1⟩ := two_cells wr (.int .u64 (q : Int)) (.int .i64 e) 92
                      obtain ⟨V2, hV2⟩ : ∃ V2, wr.alloc (.cells #[.int .u64 (q : Int), .int .i64 e] 92) = V2 := ⟨_, rfl⟩
                      have hBV2 : Below wr.heap.size wr V2 := hV2 ▸ below_alloc _ _
                      rw [hV2] at x0 x1
                      have hws : w.heap.size < wr.heap.size := Nat.lt_of_lt_of_le hVs hB3.size
                      have y0 := keep_cell hBV2 hws u0
                      have y1 := keep_cell hBV2 hws u1
                      have HF : Hid (x.fs[k2]? = some f) := hf
                      clear k0 k1 hf hq he hd hv hlt3 hdl
                      by_cases hv1 : v = 1
                      · have hv2 : ((v : Int) == 1) = true := by rw [hv1]; rfl
                        have HE : Hid (rb = false) := by
                          unfold Hid; rw [← HR.out]
                          refine not_right fun ht => ?_
                          have := (right_parts ht).2.2.2.2.2.2 f (List.mem_of_getElem? HF.out)
                          rw [hov, hv1] at this; cases this
                        clear HJ HF hov hv1
                        go_wp2
                        go_quiet ((go_at_call 47; with_reducible exact Ans.quiet0 HPo))
                        go_wp2
                        go_ret
                        exact ⟨ret_bool HE.out.symm, bb (bb (bb hBV hB3) hBV2) (below_drewN _ _)⟩
                      · have hv2 : ((v : Int) == 1) = false := by simp; omega
                        have HS : Hid (∀ m f, m < k2 + 1 → x.fs[m]? = some f → oneAt x ((x.p - 1) / f.q) = false) := by
                          intro m f3 hm hf3
                          by_cases h : m < k2
                          · exact HJ.out m f3 h hf3
                          · obtain rfl : m = k2 := by omega
                            rw [HF.out] at hf3; cases hf3
                            rw [hov]; simpa using hv1
                        clear HJ HF hov hv1
                        go_wp2
                        go_quiet ((go_at_call 47; with_reducible exact Ans.quiet0 HPo))
                        go_wp2
                        go_roundw
                        case rel => exact ⟨k2 + 1, by go_num, by omega, HS, bb (bb hB3 hBV2) (below_drewN _ _)⟩
                        case measure => simp [intOf]; omega
                    · obtain rfl : k2 = k := by omega
                      have HE : Hid (rb = true) := by
                        unfold Hid; rw [← HR.out]
                        refine right_of hgd hcl0 (by rw [HN.out.1]; omega) hfac.out hgb.out hone'.out fun f hf => ?_
                        obtain ⟨m, hm, rfl⟩ := List.getElem_of_mem hf
                        exact HJ.out m _ (by rw [← HN.out.1]; exact hm) (List.getElem?_eq_getElem hm)
                      clear HJ
                      go_wp2
                      go_ret
                      exact ⟨ret_bool HE.out.symm, bb hBV hB3⟩
                · have hne : (((x.g ^ (x.p - 1) % x.p : Nat) : Int) != 1) = true := by simp only [bne_iff_ne]; omega
                  obtain ⟨v, hv⟩ : ∃ v : Int, ((x.g ^ (x.p - 1) % x.p : Nat) : Int) = v := ⟨_, rfl⟩
                  rw [hv] at HPo hne
                  have HE : Hid (rb = false) := by
                    unfold Hid; rw [← HR.out]
                    exact not_right fun ht => hone (by have := (right_parts ht).2.2.2.2.2.1; simpa [oneAt] using this)
                  clear hpu hn hone hv
                  go_wp2_with (first | (go_at_call 69; with_reducible refine AnsB.use HPr hBWr fun w2 hb2 => ?_; have s0 := keep_cell (bb hB hb2) hVs t0; have s1 := keep_cell (bb hB hb2) hVs t1; have s2 := keep_cell (bb hB hb2) hVs t2) | (go_at_call 47; with_reducible refine Ans.use HPo _ fun n1 => ?_))
                  go_ret
                  exact ⟨ret_bool HE.out.symm, bb (bb (bb hBV hB) hb2) (below_drewN _ _)⟩
          · replace HPr : AnsB W 69 #[.slice (some ⟨fb, fo, none⟩) k C', .int .u64 pm] (.tuple #[.int .u64 (n : Int), .bool true]) := HPr
            have hne : ((n : Int) != pm) = true := by have := HN.out.2.2.2; simp only [bne_iff_ne]; omega
            have HE : Hid (rb = false) := by
              unfold Hid; rw [← HR.out]
              exact not_right fun ht => right_prod ht hpu (fun m hm => by cases hm; exact hn)
            clear hpu hn
            go_wp2_with (first | (go_at_call 69; with_reducible refine AnsB.use HPr hBWr fun w2 hb2 => ?_; have s0 := keep_cell (bb hB hb2) hVs t0; have s1 := keep_cell (bb hB hb2) hVs t1; have s2 := keep_cell (bb hB hb2) hVs t2) | (go_at_call 47; with_reducible refine Ans.use HPo _ fun n1 => ?_))
            go_ret
            exact ⟨ret_bool HE.out.symm, bb (bb hBV hB) hb2⟩
  · obtain ⟨j1, j2, _⟩ := hj rfl
    have hq' := hqc rfl
    clear hj hqc
    go_enter Tryz.func52, Tryz.ntmps52
    go_wp2
    go_quiet ((fail))
    go_wp2
    go_loopw [6] (fun v wr => ∃ k : Nat, v = .int .i64 k ∧ 1 ≤ k ∧ k ≤ fl ∧ Hid (∀ m f f', m + 1 < k → x.fs[m]? = some f → x.fs[m + 1]? = some f' → f.q < f'.q ∧ ((es.take i).any fun y => y.p == f'.q) = true) ∧ Below V.heap.size V wr) (fun v _ => fl - (intOf v).toNat)
    case atStart => exact ⟨1, rfl, by omega, by omega, fun m f f' hm => absurd hm (by omega), below_drewN _ _⟩
    case round =>
      obtain ⟨k, rfl, hk0, hk, HI, hB⟩ := hrel
      have hBWr : Below W.heap.size W wr := bb hWV hB
      have u0 := keep_cell hB hVs t0
      have u1 := keep_cell hB hVs t1
      have u2 := keep_cell hB hVs t2
      by_cases hlt : k < fl
      · obtain ⟨m, rfl⟩ : ∃ m, k = m + 1 := ⟨k - 1, by omega⟩
        have hm1 : m + 1 < x.fs.length := by rw [HN.out.1]; exact hlt
        obtain ⟨f', hf'⟩ : ∃ f, x.fs[m + 1]? = some f := ⟨_, List.getElem?_eq_getElem hm1⟩
        obtain ⟨f, hf⟩ : ∃ f, x.fs[m]? = some f := ⟨_, List.getElem?_eq_getElem (by omega)⟩
        obtain ⟨b1, o1, ha1, hl1, k0, _, hok1⟩ := hP.get (m + 1) f' hf'
        cases ha1
        obtain ⟨b2, o2, ha2, hl2, k2, _, hok2⟩ := hP.get m f hf
        cases ha2
        have HCl := claimed_any W (some ⟨b, o, none⟩) C (es.take i) (hE.take i) f'.q hok1.1
        rw [List.length_take, show min i es.length = i by omega] at HCl
        have k0' := keep_cell hBWr hl1 k0
        have k2' := keep_cell hBWr hl1 k2
        obtain ⟨q', hq'⟩ : ∃ q' : Int, (f'.q : Int) = q' := ⟨_, rfl⟩
        obtain ⟨q, hq⟩ : ∃ q : Int, (f.q : Int) = q := ⟨_, rfl⟩
        rw [hq'] at k0' HCl
        rw [hq] at k2'
        have km : ((m + 1 : Nat) : Int) - 1 = (m : Int) := by omega
        obtain ⟨k1, hk1⟩ : ∃ k1, m + 1 = k1 := ⟨_, rfl⟩
        rw [hk1] at k0' km
        have hkf : k1 < fl := by omega
        have hmf : m < fl := by omega
        have g0 := cell_regrown k0'
        have g2 := cell_regrown k2'
        have gt := cell_regrown u2
        have HQ : Hid ((f'.q : Int) = q' ∧ (f.q : Int) = q ∧ x.fs[m + 1]? = some f' ∧ x.fs[m]? = some f ∧ m + 1 = k1) := ⟨hq', hq, hf', hf, hk1⟩
        rw [hk1]
        rw [hk1] at HI
        clear k0 k2 hq' hq hf' hf hm1 hlt hk hk0
        by_cases hle : q' ≤ q
        · have hle' : decide (q' ≤ q) = true := decide_eq_true hle
          have HE : Hid (rb = false) := by
            unfold Hid; rw [← HR.out]
            refine not_right fun ht => ?_
            obtain ⟨a1, a2, a3, a4, a5⟩ := HQ.out
            have := inc_get _ _ ((fac_iff _ _ _ _ _).1 (right_parts ht).2.2.2.1).1 m f f' a4 a3
            omega
          clear HI HQ hk1 HCl
          go_wp2
          refine wp_region_quiet_below (by kernel_rfl) (by kernel_rfl) ?_
          repeat (go_big_quiet_step ((fail)))
          refine wpQuiet_nil ?_
          intro _ hw'
          obtain ⟨⟨dq, osq⟩, hw''⟩ := hw'
          subst hw''
          go_wp2
          go_ret
          exact ⟨ret_bool HE.out.symm, bb (bb hBV hB) (below_regrown _ dq osq)⟩
        · have hle' : decide (q' ≤ q) = false := decide_eq_false hle
          cases hcl : ((es.take i).any fun y => y.p == f'.q) with
          | false =>
            rw [hcl] at HCl
            have HE : Hid (rb = false) := by
              unfold Hid; rw [← HR.out]
              refine not_right fun ht => ?_
              obtain ⟨a1, a2, a3, a4, a5⟩ := HQ.out
              have := ((fac_iff _ _ _ _ _).1 (right_parts ht).2.2.2.1).2.1 (m + 1) f' a3
              rw [Nat.zero_add, known_succ, hcl] at this
              cases this
            clear HI HQ hk1 hcl
            go_wp2
            refine wp_region_quiet_below (by kernel_rfl) (by kernel_rfl) ?_
            repeat (go_big_quiet_step ((exact AnsB.regrown HCl hBWr)))
            refine wpQuiet_nil ?_
            intro _ hw'
            obtain ⟨⟨dq, osq⟩, hw''⟩ := hw'
            subst hw''
            go_wp2
            go_ret
            exact ⟨ret_bool HE.out.symm, bb (bb hBV hB) (below_regrown _ dq osq)⟩
          | true =>
            rw [hcl] at HCl
            have HS : Hid (∀ m f f', m + 1 < k1 + 1 → x.fs[m]? = some f → x.fs[m + 1]? = some f' → f.q < f'.q ∧ ((es.take i).any fun y => y.p == f'.q) = true) := by
              intro m2 f2 f2' h2 h3 h4
              obtain ⟨a1, a2, a3, a4, a5⟩ := HQ.out
              by_cases hlt2 : m2 + 1 < k1
              · exact HI.out m2 f2 f2' hlt2 h3 h4
              · obtain rfl : m2 = m := by omega
                rw [a4] at h3; rw [a3] at h4
                cases h3; cases h4
                exact ⟨by omega, hcl⟩
            clear HI HQ hk1 hcl
            go_wp2
            refine wp_region_quiet_below (by kernel_rfl) (by kernel_rfl) ?_
            repeat (go_big_quiet_step ((exact AnsB.regrown HCl hBWr)))
            refine wpQuiet_nil ?_
            intro _ hw'
            obtain ⟨⟨dq, osq⟩, hw''⟩ := hw'
            subst hw''
            go_wp2
            go_roundw
            case rel => exact ⟨k1 + 1, by go_num, by omega, by omega, HS, bb hB (below_regrown _ dq osq)⟩
            case measure => simp [intOf]; omega
      · obtain rfl : k = fl := by omega
        have HI2 : Hid (∀ m f f', x.fs[m]? = some f → x.fs[m + 1]? = some f' → f.q < f'.q ∧ ((es.take i).any fun y => y.p == f'.q) = true) := by
          intro m f f' h1 h2
          exact HI.out m f f' (by rw [← HN.out.1]; exact (List.getElem?_eq_some_iff.1 h2).1) h1 h2
        clear HI hlt
        have HPr := product_any W (some ⟨fb, fo, none⟩) C' x.fs hP (x.p - 1) (by have := hgd.2.1; omega) (by have := hgd.2.2; omega)
        rw [HN.out.1, HN.out.2.2.2] at HPr
        cases hpu : prodUp (x.p - 1) 1 x.fs with
        | none =>
          rw [hpu] at HPr
          replace HPr : AnsB W 69 #[.slice (some ⟨fb, fo, none⟩) k C', .int .u64 pm] (.tuple #[.int .u64 0, .bool false]) := HPr
          have HE : Hid (rb = false) := by
            unfold Hid; rw [← HR.out]
            exact not_right fun ht => right_prod ht hpu (fun m hm => by cases hm)
          clear hpu
          go_wp2_with (first | (go_at_call 69; with_reducible refine AnsB.use HPr hBWr fun w2 hb2 => ?_; have s0 := keep_cell (bb hB hb2) hVs t0; have s1 := keep_cell (bb hB hb2) hVs t1; have s2 := keep_cell (bb hB hb2) hVs t2) | (go_at_call 47; with_reducible refine Ans.use HPo _ fun n1 => ?_))
          go_ret
          exact ⟨ret_bool HE.out.symm, bb (bb hBV hB) hb2⟩
        | some n =>
          rw [hpu] at HPr
          by_cases hn : n = x.p - 1
          · replace HPr : AnsB W 69 #[.slice (some ⟨fb, fo, none⟩) k C', .int .u64 pm] (.tuple #[.int .u64 pm, .bool true]) := by
              rw [hn] at HPr
              have e : woV (some (x.p - 1)) = .tuple #[.int .u64 pm, .bool true] := by rw [← HN.out.2.2.2]; rfl
              rw [e] at HPr
              exact HPr
            by_cases hg2 : g < 2
            · have HE : Hid (rb = false) := by
                unfold Hid; rw [← HR.out]
                exact not_right fun ht => by have := (right_parts ht).2.2.2.2.1; have := HN.out.2.2.1; omega
              clear hpu hn
              go_wp2_with (first | (go_at_call 69; with_reducible refine AnsB.use HPr hBWr fun w2 hb2 => ?_; have s0 := keep_cell (bb hB hb2) hVs t0; have s1 := keep_cell (bb hB hb2) hVs t1; have s2 := keep_cell (bb hB hb2) hVs t2) | (go_at_call 47; with_reducible refine Ans.use HPo _ fun n1 => ?_))
              go_ret
              exact ⟨ret_bool HE.out.symm, bb (bb hBV hB) hb2⟩
            · by_cases hgp : p ≤ g
              · have HE : Hid (rb = false) := by
                  unfold Hid; rw [← HR.out]
                  exact not_right fun ht => by have := (right_parts ht).2.2.2.2.1; have := HN.out.2.1; have := HN.out.2.2.1; omega
                clear hpu hn
                go_wp2_with (first | (go_at_call 69; with_reducible refine AnsB.use HPr hBWr fun w2 hb2 => ?_; have s0 := keep_cell (bb hB hb2) hVs t0; have s1 := keep_cell (bb hB hb2) hVs t1; have s2 := keep_cell (bb hB hb2) hVs t2) | (go_at_call 47; with_reducible refine Ans.use HPo _ fun n1 => ?_))
                go_ret
                exact ⟨ret_bool HE.out.symm, bb (bb hBV hB) hb2⟩
              · have HPo := rpow_any x.g x.p (by have := HN.out.2.2.1; have := HN.out.2.1; omega) (by have := hgd.2.2; omega) (by have := hgd.2.1; omega) (x.p - 1) (by have := hgd.2.2; omega)
                rw [HN.out.2.1, HN.out.2.2.1, HN.out.2.2.2] at HPo
                by_cases hone : x.g ^ (x.p - 1) % x.p = 1
                · rw [hone] at HPo
                  replace HPo : Ans 47 #[.int .u64 g, .int .u64 pm, .int .u64 p] (.int .u64 1) := HPo
                  have hq2 : Hid (∀ f ∈ x.fs, (1 ≤ f.e ∧ f.e ≤ 62) ∧ 2 ≤ f.q) := ((prodUp_iff _ _ _ _ (by have := hgd.2.1; omega) (by omega)).1 hpu).1
                  have hfac : Hid (facLoop (es.take i) 0 (x.p - 1) 0 x.fs = true) := right_fac hy2 HI2.out (by rw [hpu, hn]) (by have := hgd.2.1; omega)
                  have hone' : Hid (oneAt x (x.p - 1) = true) := by unfold Hid oneAt; rw [hone]; rfl
                  have hgb : Hid (2 ≤ x.g ∧ x.g < x.p) := by have h1 := HN.out.2.1; have h2 := HN.out.2.2.1; exact ⟨by omega, by omega⟩
                  clear hpu hn hone HI2
                  go_wp2_with (first | (go_at_call 69; with_reducible refine AnsB.use HPr hBWr fun w2 hb2 => ?_; have s0 := keep_cell (bb hB hb2) hVs t0; have s1 := keep_cell (bb hB hb2) hVs t1; have s2 := keep_cell (bb hB hb2) hVs t2) | (go_at_call 47; with_reducible refine Ans.use HPo _ fun n1 => ?_))
                  have hB2 : Below V.heap.size V (w2.drewN n1) := bb (bb hB hb2) (below_drewN _ _)
                  generalize w2.drewN n1 = w3 at hB2 ⊢
                  clear hb2 s0 s1 s2 HPr HPo u0 u1 u2 hBWr hB
                  go_loopw [140] (fun v wr => ∃ k2 : Nat, v = .int .i64 k2 ∧ k2 ≤ k ∧ Hid (∀ m f, m < k2 → x.fs[m]? = some f → oneAt x ((x.p - 1) / f.q) = false) ∧ Below V.heap.size V wr) (fun v _ => k - (intOf v).toNat)
                  case atStart => exact ⟨0, rfl, by omega, fun m f hm => absurd hm (by omega), hB2⟩
                  case round =>
                    obtain ⟨k2, rfl, hk2, HJ, hB3⟩ := hrel
                    by_cases hlt2 : k2 < k
                    · have hlt3 : k2 < x.fs.length := by rw [HN.out.1]; exact hlt2
                      obtain ⟨f, hf⟩ : ∃ f, x.fs[k2]? = some f := ⟨_, List.getElem?_eq_getElem hlt3⟩
                      obtain ⟨b1, o1, ha1, hl1, k0, k1, hok1⟩ := hP.get k2 f hf
                      cases ha1
                      have hBW3 : Below W.heap.size W wr := bb hWV hB3
                      have k0' := keep_cell hBW3 hl1 k0
                      have k1' := keep_cell hBW3 hl1 k1
                      have u0 := keep_cell hB3 hVs t0
                      have u1 := keep_cell hB3 hVs t1
                      have u2 := keep_cell hB3 hVs t2
                      have hf2 := (hq2.out f (List.mem_of_getElem? hf)).2
                      obtain ⟨d, hd⟩ : ∃ d, (x.p - 1) / f.q = d := ⟨_, rfl⟩
                      have hdl : d ≤ x.p - 1 := hd ▸ Nat.div_le_self _ _
                      have hpd : pm / (f.q : Int) = (d : Int) := by rw [← HN.out.2.2.2, ← hd]; simp
                      have hdlt : (d : Int) < 18446744073709551616 := by have := hgd.2.2; omega
                      have HPo := rpow_any x.g x.p (by have := hgb.out; have := hgd.2.2; omega) (by have := hgd.2.2; omega) (by have := hgd.2.1; omega) d (by omega)
                      rw [HN.out.2.1, HN.out.2.2.1] at HPo
                      obtain ⟨v, hv⟩ : ∃ v, x.g ^ d % x.p = v := ⟨_, rfl⟩
                      rw [hv] at HPo
                      have hov : oneAt x ((x.p - 1) / f.q) = (v == 1) := by unfold oneAt; rw [hd, hv]
                      obtain ⟨q, hq⟩ : ∃ q : Nat, f.q = q := ⟨_, rfl⟩
                      obtain ⟨e, he⟩ : ∃ e : Int, f.e = e := ⟨_, rfl⟩
                      rw [hq] at k0' hpd hf2
                      rw [he] at k1'
                      have z1 : ¬ (q : Int) = 0 := by omega
                      have z2 : ((q : Int) == 0) = false := by simp; omega
                      have z3 : Int.tdiv pm (q : Int) = (d : Int) := by rw [Int.tdiv_eq_ediv_of_nonneg (by omega)]; exact hpd
                      have z4 : IntKind.u64.wrap (d : Int) = (d : Int) := wrap_small _ (by omega) (by omega)
                      obtain ⟨x0, x1⟩ := two_cells wr (.int .u64 (q : Int)) (.int .i64 e) 92
                      obtain ⟨V2, hV2⟩ : ∃ V2, wr.alloc (.cells #[.int .u64 (q : Int), .int .i64 e] 92) = V2 := ⟨_, rfl⟩
                      have hBV2 : Below wr.heap.size wr V2 := hV2 ▸ below_alloc _ _
                      rw [hV2] at x0 x1
                      have hws : w.heap.size < wr.heap.size := Nat.lt_of_lt_of_le hVs hB3.size
                      have y0 := keep_cell hBV2 hws u0
                      have y1 := keep_cell hBV2 hws u1
                      have HF : Hid (x.fs[k2]? = some f) := hf
                      clear k0 k1 hf hq he hd hv hlt3 hdl
                      by_cases hv1 : v = 1
                      · have hv2 : ((v : Int) == 1) = true := by rw [hv1]; rfl
                        have HE : Hid (rb = false) := by
                          unfold Hid; rw [← HR.out]
                          refine not_right fun ht => ?_
                          have := (right_parts ht).2.2.2.2.2.2 f (List.mem_of_getElem? HF.out)
                          rw [hov, hv1] at this; cases this
                        clear HJ HF hov hv1
                        go_wp2
                        go_quiet ((go_at_call 47; with_reducible exact Ans.quiet0 HPo))
                        go_wp2
                        go_ret
                        exact ⟨ret_bool HE.out.symm, bb (bb (bb hBV hB3) hBV2) (below_drewN _ _)⟩
                      · have hv2 : ((v : Int) == 1) = false := by simp; omega
                        have HS : Hid (∀ m f, m < k2 + 1 → x.fs[m]? = some f → oneAt x ((x.p - 1) / f.q) = false) := by
                          intro m f3 hm hf3
                          by_cases h : m < k2
                          · exact HJ.out m f3 h hf3
                          · obtain rfl : m = k2 := by omega
                            rw [HF.out] at hf3; cases hf3
                            rw [hov]; simpa using hv1
                        clear HJ HF hov hv1
                        go_wp2
                        go_quiet ((go_at_call 47; with_reducible exact Ans.quiet0 HPo))
                        go_wp2
                        go_roundw
                        case rel => exact ⟨k2 + 1, by go_num, by omega, HS, bb (bb hB3 hBV2) (below_drewN _ _)⟩
                        case measure => simp [intOf]; omega
                    · obtain rfl : k2 = k := by omega
                      have HE : Hid (rb = true) := by
                        unfold Hid; rw [← HR.out]
                        refine right_of hgd hcl0 (by rw [HN.out.1]; omega) hfac.out hgb.out hone'.out fun f hf => ?_
                        obtain ⟨m, hm, rfl⟩ := List.getElem_of_mem hf
                        exact HJ.out m _ (by rw [← HN.out.1]; exact hm) (List.getElem?_eq_getElem hm)
                      clear HJ
                      go_wp2
                      go_ret
                      exact ⟨ret_bool HE.out.symm, bb hBV hB3⟩
                · have hne : (((x.g ^ (x.p - 1) % x.p : Nat) : Int) != 1) = true := by simp only [bne_iff_ne]; omega
                  obtain ⟨v, hv⟩ : ∃ v : Int, ((x.g ^ (x.p - 1) % x.p : Nat) : Int) = v := ⟨_, rfl⟩
                  rw [hv] at HPo hne
                  have HE : Hid (rb = false) := by
                    unfold Hid; rw [← HR.out]
                    exact not_right fun ht => hone (by have := (right_parts ht).2.2.2.2.2.1; simpa [oneAt] using this)
                  clear hpu hn hone hv
                  go_wp2_with (first | (go_at_call 69; with_reducible refine AnsB.use HPr hBWr fun w2 hb2 => ?_; have s0 := keep_cell (bb hB hb2) hVs t0; have s1 := keep_cell (bb hB hb2) hVs t1; have s2 := keep_cell (bb hB hb2) hVs t2) | (go_at_call 47; with_reducible refine Ans.use HPo _ fun n1 => ?_))
                  go_ret
                  exact ⟨ret_bool HE.out.symm, bb (bb (bb hBV hB) hb2) (below_drewN _ _)⟩
          · replace HPr : AnsB W 69 #[.slice (some ⟨fb, fo, none⟩) k C', .int .u64 pm] (.tuple #[.int .u64 (n : Int), .bool true]) := HPr
            have hne : ((n : Int) != pm) = true := by have := HN.out.2.2.2; simp only [bne_iff_ne]; omega
            have HE : Hid (rb = false) := by
              unfold Hid; rw [← HR.out]
              exact not_right fun ht => right_prod ht hpu (fun m hm => by cases hm; exact hn)
            clear hpu hn
            go_wp2_with (first | (go_at_call 69; with_reducible refine AnsB.use HPr hBWr fun w2 hb2 => ?_; have s0 := keep_cell (bb hB hb2) hVs t0; have s1 := keep_cell (bb hB hb2) hVs t1; have s2 := keep_cell (bb hB hb2) hVs t2) | (go_at_call 47; with_reducible refine Ans.use HPo _ fun n1 => ?_))
            go_ret
            exact ⟨ret_bool HE.out.symm, bb (bb hBV hB) hb2⟩
end Go.Proofs.YtpjfapibjihbbaaGreatDoor

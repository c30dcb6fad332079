/-
  The contract of the statements' own rows: a row, as the program has it.
-/
import Derived.Test.YtgmdcpkpcajenaaPf6
import Derived.Test.YtgmdcpkpcajenaaPfR
namespace Go.Proofs.Ytgmdcpkpcajenaa
set_option linter.unusedVariables false
open Go.RowKit

theorem EntsAt.ok {w : World} {A : Option Addr} {C : Nat} {es : List En} (h : EntsAt w A C es) : ∀ x ∈ es, x.ok := by
  intro x hx
  obtain ⟨i, hi, rfl⟩ := List.getElem_of_mem hx
  obtain ⟨b, o, A', C', _, _, _, _, _, hP, hp, hg⟩ := h.get i _ (List.getElem?_eq_getElem hi)
  refine ⟨hp, hg, fun f hf => ?_⟩
  obtain ⟨j, hj, rfl⟩ := List.getElem_of_mem hf
  obtain ⟨_, _, _, _, _, _, hok⟩ := hP.get j _ (List.getElem?_eq_getElem hj)
  exact hok

def RowsAns (W : World) (v : Value) (es : List En) : Prop := ∀ w, Below W.heap.size W w → Calls Try.prog 12 #[v] w fun e w' => ∃ A' C', e = .returned (.slice A' es.length C') ∧ EntsAt w' A' C' es ∧ Below w.heap.size w w'
theorem RowsAns.use {W : World} {v : Value} {es : List En} (h : RowsAns W v es) {w : World} (hw : Below W.heap.size W w) {R : Ending → World → Prop} (k : ∀ A' C' w', EntsAt w' A' C' es → Below w.heap.size w w' → R (.returned (.slice A' es.length C')) w') : Calls Try.prog 12 #[v] w R :=
  (h w hw).mono fun _ _ ⟨A', C', he, h1, h2⟩ => by subst he; exact k _ _ _ h1 h2

set_option maxHeartbeats 4000000 in
theorem rows_any (W : World) (A : Option Addr) (C : Nat) (es : List En) (hE : EntsAt W A C es) (hes : es.length ≤ 100) (hfs : ∀ x ∈ es, x.fs.length * 16 ≤ 140737488355328) : RowsAns W (.slice A es.length C) es := by
  intro w hw
  have hok := hE.ok
  obtain ⟨L, hL⟩ : ∃ L, es.length = L := ⟨_, rfl⟩
  have HL : Hid (es.length = L) := hL
  rw [hL] at hes ⊢
  clear hL
  obtain ⟨i1, hi1, hz1, hs1, hb1⟩ := info_parts infoPw
  obtain ⟨i2, hi2, hz2, hs2, hb2⟩ := info_parts infoEn
  go_enter Try.func12, Try.ntmps12
  go_wp2
  go_loopw [3, 11] (fun out v wr => ∃ k : Nat, v = .int .i64 k ∧ k ≤ L ∧ ERow wr w.heap.size out k es ∧ Below w.heap.size w wr) (fun _ v _ => L - (intOf v).toNat)
  case atStart => exact ⟨0, rfl, by omega, ERow.nil _ _ _, Below.refl _ _⟩
  case round =>
    obtain ⟨k, rfl, hk, HR, hB⟩ := hrel
    by_cases hlt : k < L
    · have hlt' : k < es.length := by rw [HL.out]; exact hlt
      obtain ⟨x, hx⟩ : ∃ x, es[k]? = some x := ⟨_, List.getElem?_eq_getElem hlt'⟩
      have hfl := hfs x (List.mem_of_getElem? hx)
      obtain ⟨b, o, A', C', rfl, hb, c0, c1, c2, hP, hp, hg⟩ := hE.get k x hx
      have hBW : Below W.heap.size W wr := bb hw hB
      have c0' := keep_cell hBW hb c0
      have c1' := keep_cell hBW hb c1
      have c2' := keep_cell hBW hb c2
      obtain ⟨p, hp'⟩ : ∃ p : Int, (x.p : Int) = p := ⟨_, rfl⟩
      obtain ⟨g, hg'⟩ : ∃ g : Int, (x.g : Int) = g := ⟨_, rfl⟩
      obtain ⟨fl, hfl'⟩ : ∃ fl : Nat, x.fs.length = fl := ⟨_, rfl⟩
      have HF : Hid (x.fs.length = fl ∧ (x.p : Int) = p ∧ (x.g : Int) = g) := ⟨hfl', hp', hg'⟩
      rw [hp'] at c0'
      rw [hg'] at c1'
      rw [hfl'] at c2' hfl
      obtain ⟨t0, t1, t2⟩ := three_cells wr (.int .u64 p) (.int .u64 g) (.slice A' fl C') 35
      obtain ⟨V, hV⟩ : ∃ V, wr.alloc (.cells #[.int .u64 p, .int .u64 g, .slice A' fl C'] 35) = V := ⟨_, rfl⟩
      have hBV : Below wr.heap.size wr V := hV ▸ below_alloc _ _
      rw [hV] at t0 t1 t2
      have hBWV : Below W.heap.size W V := bb hBW hBV
      have hBwV : Below w.heap.size w V := bb hB hBV
      have HRV : ERow V w.heap.size u3 k es := HR.below hBV (Nat.le_refl _)
      obtain ⟨bo, hbo⟩ : ∃ bo, wr.heap.size = bo := ⟨_, rfl⟩
      have hVs : bo < V.heap.size := by rw [← hV, ← hbo]; simp
      rw [hbo] at t0 t1 t2
      clear c0 c1 c2 hp' hg' hfl' hlt' HR hBV hB hBW
      go_wp2
      clear hbo hV
      go_loopw [6, 18] (fun l v wi => ∃ j : Nat, v = .int .i64 j ∧ j ≤ fl ∧ PRow wi V.heap.size l j x.fs ∧ Below V.heap.size V wi) (fun _ v _ => fl - (intOf v).toNat)
      case atStart => exact ⟨0, rfl, by omega, PRow.nil _ _ _, Below.refl _ _⟩
      case round =>
        obtain ⟨j, rfl, hj, HP, hBi⟩ := hrel
        by_cases hjl : j < fl
        · have hjl' : j < x.fs.length := by rw [HF.out.1]; exact hjl
          obtain ⟨f, hf⟩ : ∃ f, x.fs[j]? = some f := ⟨_, List.getElem?_eq_getElem hjl'⟩
          obtain ⟨b2, o2, rfl, hb2', d0, d1, hfok⟩ := hP.get j f hf
          have d0' := keep_cell (bb hBWV hBi) hb2' d0
          have d1' := keep_cell (bb hBWV hBi) hb2' d1
          obtain ⟨ys, hown, hys⟩ := HP
          have HQ : Hid (x.fs[j]? = some f) := hf
          clear d0 d1 hjl' hf
          have hnews : ∀ i u, [Value.int .u64 (f.q : Int), .int .i64 f.e][i]? = some u → ((wr.alloc (.cells #[.int .u64 (f.q : Int), .int .i64 f.e] 50)).alloc (.cells #[.int .u64 (f.q : Int), .int .i64 f.e] 49)).cell? ((⟨wr.heap.size + 1, 0, none⟩ : Addr).add i) = some u := by
            intro i u hu
            obtain ⟨e0, e1⟩ := two_cells (wr.alloc (.cells #[.int .u64 (f.q : Int), .int .i64 f.e] 50)) (.int .u64 (f.q : Int)) (.int .i64 f.e) 49
            rw [show (wr.alloc (.cells #[.int .u64 (f.q : Int), .int .i64 f.e] 50)).heap.size = wr.heap.size + 1 by simp] at e0 e1
            rw [Addr.add_lit]
            match i, hu with
            | 0, hu => cases hu; exact e0
            | 1, hu => cases hu; exact e1
            | i + 2, hu => simp at hu
          have hO2 := (hown.alloc (.cells #[.int .u64 (f.q : Int), .int .i64 f.e] 50)).alloc (.cells #[.int .u64 (f.q : Int), .int .i64 f.e] 49)
          have hBa : Below V.heap.size V ((wr.alloc (.cells #[.int .u64 (f.q : Int), .int .i64 f.e] 50)).alloc (.cells #[.int .u64 (f.q : Int), .int .i64 f.e] 49)) := bb (bb hBi (below_alloc _ _)) (below_alloc _ _)
          go_wp2_with (at_builtin; refine Hid.out ?_)
          unfold Hid
          refine (wpList_append_own _ rfl _ _ 42 rfl V.heap.size 49 i1 _ 2 16 Try.underlying42 hi1 hz1 hs1 hb1 rfl (by omega) _ j _ rfl hO2 ⟨wr.heap.size + 1, 0, none⟩ 1 1 [.int .u64 (f.q : Int), .int .i64 f.e] rfl rfl hnews (by simp [Value.oneCell']) (by unfold maxLen; omega) (by omega) hBa.size ?_)
          intro v' w2 hO3 hG _
          have HP3 : PRow w2 V.heap.size v' (j + 1) x.fs := PRow.push hown.1 hys HQ.out hO3
          have hB2 : Below V.heap.size V w2 := hBa.grown hG hBa.size (fun n hn => (hO2.lt n hn).1)
          clear hO3 hG hO2 hBa hnews hys hown
          go_wp2
          go_roundw
          case rel => exact ⟨j + 1, by go_num, by omega, HP3, hB2⟩
          case measure => simp [intOf]; omega
        · obtain rfl : j = fl := by omega
          obtain ⟨xs, hown, hxs⟩ := HRV.below hBi (Nat.le_refl _)
          have e0 := keep_cell hBi hVs t0
          have e1 := keep_cell hBi hVs t1
          have hPu : PRow wr w.heap.size u6 x.fs.length x.fs := by rw [HF.out.1]; exact HP.mono hBwV.size
          obtain ⟨ua, uc, hu⟩ : ∃ ua uc, u6 = .slice ua j uc := by
            obtain ⟨_, h6, _⟩ := HP
            rcases h6.2 with ⟨rfl, hn⟩ | ⟨_, _, _, rfl, _⟩
            · exact ⟨none, 0, by rw [hn]⟩
            · exact ⟨_, _, rfl⟩
          subst hu
          have hnews : ∀ i u, [Value.int .u64 p, .int .u64 g, .slice ua j uc][i]? = some u → (wr.alloc (.cells #[.int .u64 p, .int .u64 g, .slice ua j uc] 44)).cell? ((⟨wr.heap.size, 0, none⟩ : Addr).add i) = some u := by
            intro i u hu
            obtain ⟨k0, k1, k2⟩ := three_cells wr (.int .u64 p) (.int .u64 g) (.slice ua j uc) 44
            rw [Addr.add_lit]
            match i, hu with
            | 0, hu => cases hu; exact k0
            | 1, hu => cases hu; exact k1
            | 2, hu => cases hu; exact k2
            | i + 3, hu => simp at hu
          have hO2 := hown.alloc (.cells #[.int .u64 p, .int .u64 g, .slice ua j uc] 44)
          have hBa : Below w.heap.size w (wr.alloc (.cells #[.int .u64 p, .int .u64 g, .slice ua j uc] 44)) := bb (bb hBwV hBi) (below_alloc _ _)
          have hPa := hPu.below (below_alloc wr (.cells #[.int .u64 p, .int .u64 g, .slice ua j uc] 44)) (Nat.le_refl _)
          have hxa : ∀ i x, i < k → es[i]? = some x → ∃ u, xs[i * 3]? = some (.int .u64 (x.p : Int)) ∧ xs[i * 3 + 1]? = some (.int .u64 (x.g : Int)) ∧ xs[i * 3 + 2]? = some u ∧ PRow (wr.alloc (.cells #[.int .u64 p, .int .u64 g, .slice ua j uc] 44)) w.heap.size u x.fs.length x.fs := by
            intro i y hi hy
            obtain ⟨u, a1, a2, a3, a4⟩ := hxs i y hi hy
            exact ⟨u, a1, a2, a3, a4.below (below_alloc _ _) (Nat.le_refl _)⟩
          have HX : Hid (es[k]? = some x) := hx
          clear hx hxs HP hPu
          go_wp2_with (at_builtin; refine Hid.out ?_)
          unfold Hid
          refine (wpList_append_own _ rfl _ _ 28 rfl w.heap.size 44 i2 _ 3 40 Try.underlying28 hi2 hz2 hs2 hb2 rfl (by omega) _ k _ rfl hO2 ⟨wr.heap.size, 0, none⟩ 1 1 [.int .u64 p, .int .u64 g, .slice ua j uc] rfl rfl hnews (by simp [Value.oneCell']) (by unfold maxLen; omega) (by omega) hBa.size ?_)
          intro v' w2 hO3 hG _
          have hR3 : ERow w2 w.heap.size v' (k + 1) es := by
            obtain ⟨_, hp1, hg1⟩ := HF.out
            refine ERow.push hO2 hxa HX.out hPa hG ?_
            rw [hp1, hg1]; exact hO3
          have hB2 : Below w.heap.size w w2 := hBa.grown hG hBa.size (fun n hn => (hO2.lt n hn).1)
          clear hO3 hG hO2 hBa hnews hown hxa hPa
          go_wp2
          go_roundw
          case rel => exact ⟨k + 1, by go_num, by omega, hR3, hB2⟩
          case measure => simp [intOf]; omega
    · obtain rfl : k = L := by omega
      have hR : ERow wr w.heap.size u3 es.length es := by rw [HL.out]; exact HR
      obtain ⟨A', C', rfl, hE'⟩ := hR.to hok
      have HE : Hid (EntsAt wr A' C' es) := hE'
      clear hE' HR hR
      rw [HL.out]
      go_wp2
      go_ret
      exact ⟨A', C', rfl, HE.out, hB⟩
end Go.Proofs.Ytgmdcpkpcajenaa

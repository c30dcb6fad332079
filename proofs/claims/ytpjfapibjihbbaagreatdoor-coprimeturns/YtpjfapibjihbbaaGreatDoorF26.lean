/-
  The contract of the statements' own rows: a row, as the program has it.
-/
import Derived.Test.YtpjfapibjihbbaaGreatDoorF4
import Derived.Test.YtpjfapibjihbbaaGreatDoorF20
import Derived.Test.YtpjfapibjihbbaaGreatDoorF21
import Derived.Test.YtpjfapibjihbbaaGreatDoorF25
namespace Go.Proofs.YtpjfapibjihbbaaGreatDoor
set_option linter.unusedVariables false
open Go.RowKit

theorem EntsAt.ok {w : World} {A : Option Addr} {C : Nat} {es : List En} (h : EntsAt w A C es) : ∀ x ∈ es, x.ok := by
  intro x hx
  obtain ⟨i, hi, rfl⟩ := List.getElem_of_mem hx
  obtain ⟨b, o, A', C', _, _, _, _, _, hP, hp, hg⟩ := h.get i _ (List.getElem?_eq_getElem hi)
  refine ⟨hp, hg, fun f hf => ?_⟩
  obtain ⟨j, hj, rfl⟩ := List.getElem_of_mem hf
  obtain ⟨_, _, _, _, _, _, hok⟩ := hP.get j _ (List.getElem?_eq_getElem hj)
  exact hok

def RowsAns (W : World) (v : Value) (es : List En) : Prop := ∀ w, Below W.heap.size W w → Calls Tryz.prog 19 #[v] w fun e w' => ∃ A' C', e = .returned (.slice A' es.length C') ∧ EntsAt w' A' C' es ∧ Below w.heap.size w w'
theorem RowsAns.use {W : World} {v : Value} {es : List En} (h : RowsAns W v es) {w : World} (hw : Below W.heap.size W w) {R : Ending → World → Prop} (k : ∀ A' C' w', EntsAt w' A' C' es → Below w.heap.size w w' → R (.returned (.slice A' es.length C')) w') : Calls Tryz.prog 19 #[v] w R :=
  (h w hw).mono fun _ _ ⟨A', C', he, h1, h2⟩ => by subst he; exact k _ _ _ h1 h2

set_option maxHeartbeats 4000000 in
theorem rows_any (W : World) (A : Option Addr) (C : Nat) (es : List En) (hE : EntsAt W A C es) (hes : es.length ≤ 100) (hfs : ∀ x ∈ es, x.fs.length * 16 ≤ 140737488355328) : RowsAns W (.slice A es.length C) es := by
  intro w hw
  have hok := hE.ok
  obtain ⟨L, hL⟩ : ∃ L, es.length = L := ⟨_, rfl⟩
  have HL : Hid (es.length = L) := hL
  rw [hL] at hes ⊢
  clear hL
  obtain ⟨i1, hi1, hz1, hs1, hb1⟩ := info_parts infoPw
  obtain ⟨i2, hi2, hz2, hs2, hb2⟩ := info_parts infoEn
  go_enter Tryz.func19, Tryz.ntmps19
  go_wp2
  go_loopw [3, 11] (fun out v wr => ∃ k : Nat, v = .int .i64 k ∧ k ≤ L ∧ ERow wr w.heap.size out k es ∧ Below w.heap.size w wr) (fun _ v _ => L - (intOf v).toNat)
  case atStart => exact ⟨0, rfl, by omega, ERow.nil _ _ _, Below.refl _ _⟩
  case round =>
    obtain ⟨k, rfl, hk, HR, hB⟩ := hrel
    by_cases hlt : k < L
    · have hlt' : k < es.length := by rw [HL.out]; exact hlt
      obtain ⟨x, hx⟩ : ∃ x, es[k]? = some x := ⟨_, List.getElem?_eq_getElem hlt'⟩
      have hfl := hfs x (List.mem_of_getElem? hx)
      obtain ⟨b, o, A', C', rfl, hb, c0, c1, c2, hP, hp, hg⟩ := hE.get k x hx
      have hBW : Below W.heap.size W wr := bb hw hB
      have c0' := keep_cell hBW hb c0
      have c1' := keep_cell hBW hb c1
      have c2' := keep_cell hBW hb c2
      obtain ⟨p, hp'⟩ : ∃ p : Int, (x.p : Int) = p := ⟨_, rfl⟩
      obtain ⟨g, hg'⟩ : ∃ g : Int, (x.g : Int) = g := ⟨_, rfl⟩
      obtain ⟨fl, hfl'⟩ : ∃ fl : Nat, x.fs.length = fl := ⟨_, rfl⟩
      have HF : Hid (x.fs.length = fl ∧ (x.p : Int) = p ∧ (x.g : Int) = g) := ⟨hfl', hp', hg'⟩
      rw [hp'] at c0'
      rw [hg'] at c1'
      rw [hfl'] at c2' hfl
      obtain ⟨t0, t1, t2⟩ := three_cells wr (.int .u64 p) (.int .u64 g) (.slice A' fl C') 71
      obtain ⟨V, hV⟩ : ∃ V, wr.alloc (.cells #[.int .u64 p, .int .u64 g, .slice A' fl C'] 71) = V := ⟨_, rfl⟩
      have hBV : Below wr.heap.size wr V := hV ▸ below_alloc _ _
      rw [hV] at t0 t1 t2
      have hBWV : Below W.heap.size W V := bb hBW hBV
      have hBwV : Below w.heap.size w V := bb hB hBV
      have HRV : ERow V w.heap.size u3 k es := HR.below hBV (Nat.le_refl _)
      obtain ⟨bo, hbo⟩ : ∃ bo, wr.heap.size = bo := ⟨_, rfl⟩
      have hVs : bo < V.heap.size := by rw [← hV, ← hbo]; simp
      rw [hbo] at t0 t1 t2
      clear c0 c1 c2 hp' hg' hfl' hlt' HR hBV hB hBW
      go_wp2
      clear hbo hV
      go_loopw [6, 18] (fun l v wi => ∃ j : Nat, v = .int .i64 j ∧ j ≤ fl ∧ PRow wi V.heap.size l j x.fs ∧ Below V.heap.size V wi) (fun _ v _ => fl - (intOf v).toNat)
      case atStart => exact ⟨0, rfl, by omega, PRow.nil _ _ _, Below.refl _ _⟩
      case round =>
        obtain ⟨j, rfl, hj, HP, hBi⟩ := hrel
        by_cases hjl : j < fl
        · have hjl' : j < x.fs.length := by rw [HF.out.1]; exact hjl
          obtain ⟨f, hf⟩ : ∃ f, x.fs[j]? = some f := ⟨_, List.getElem?_eq_getElem hjl'⟩
          obtain ⟨b2, o2, rfl, hb2', d0, d1, hfok⟩ := hP.get j f hf
          have d0' := keep_cell (bb hBWV hBi) hb2' d0
          have d1' := keep_cell (bb hBWV hBi) hb2' d1
          obtain ⟨ys, hown, hys⟩ := HP
          have HQ : Hid (x.fs[j]? = some f) := hf
          clear d0 d1 hjl' hf
          have hnews : ∀ i u, [Value.int .u64 (f.q : Int), .int .i64 f.e][i]? = some u → ((wr.alloc (.cells #[.int .u64 (f.q : Int), .int .i64 f.e] 92)).alloc (.cells #[.int .u64 (f.q : Int), .int .i64 f.e] 93)).cell? ((⟨wr.heap.size + 1, 0, none⟩ : Addr).add i) = some u := by
            intro i u hu
            obtain ⟨e0, e1⟩ := two_cells (wr.alloc (.cells #[.int .u64 (f.q : Int), .int .i64 f.e] 92)) (.int .u64 (f.q : Int)) (.int .i64 f.e) 93
            rw [show (wr.alloc (.cells #[.int .u64 (f.q : Int), .int .i64 f.e] 92)).heap.size = wr.heap.size + 1 by simp] at e0 e1
            rw [Addr.add_lit]
            match i, hu with
            | 0, hu => cases hu; exact e0
            | 1, hu => cases hu; exact e1
            | i + 2, hu => simp at hu
          have hO2 := (hown.alloc (.cells #[.int .u64 (f.q : Int), .int .i64 f.e] 92)).alloc (.cells #[.int .u64 (f.q : Int), .int .i64 f.e] 93)
          have hBa : Below V.heap.size V ((wr.alloc (.cells #[.int .u64 (f.q : Int), .int .i64 f.e] 92)).alloc (.cells #[.int .u64 (f.q : Int), .int .i64 f.e] 93)) := bb (bb hBi (below_alloc _ _)) (below_alloc _ _)
          go_wp2_with (at_builtin; refine Hid.out ?_)
          unfold Hid
          refine (wpList_append_own _ rfl _ _ 76 rfl V.heap.size 93 i1 _ 2 16 Tryz.underlying76 hi1 hz1 hs1 hb1 rfl (by omega) _ j _ rfl hO2 ⟨wr.heap.size + 1, 0, none⟩ 1 1 [.int .u64 (f.q : Int), .int .i64 f.e] rfl rfl hnews (by simp [Value.oneCell']) (by unfold maxLen; omega) (by omega) hBa.size ?_)
          intro v' w2 hO3 hG _
          have HP3 : PRow w2 V.heap.size v' (j + 1) x.fs := PRow.push hown.1 hys HQ.out hO3
          have hB2 : Below V.heap.size V w2 := hBa.grown hG hBa.size (fun n hn => (hO2.lt n hn).1)
          clear hO3 hG hO2 hBa hnews hys hown
          go_wp2
          go_roundw
          case rel => exact ⟨j + 1, by go_num, by omega, HP3, hB2⟩
          case measure => simp [intOf]; omega
        · obtain rfl : j = fl := by omega
          obtain ⟨xs, hown, hxs⟩ := HRV.below hBi (Nat.le_refl _)
          have e0 := keep_cell hBi hVs t0
          have e1 := keep_cell hBi hVs t1
          have hPu : PRow wr w.heap.size u6 x.fs.length x.fs := by rw [HF.out.1]; exact HP.mono hBwV.size
          obtain ⟨ua, uc, hu⟩ : ∃ ua uc, u6 = .slice ua j uc := by
            obtain ⟨_, h6, _⟩ := HP
            rcases h6.2 with ⟨rfl, hn⟩ | ⟨_, _, _, rfl, _⟩
            · exact ⟨none, 0, by rw [hn]⟩
            · exact ⟨_, _, rfl⟩
          subst hu
          have hnews : ∀ i u, [Value.int .u64 p, .int .u64 g, .slice ua j uc][i]? = some u → (wr.alloc (.cells #[.int .u64 p, .int .u64 g, .slice ua j uc] 78)).cell? ((⟨wr.heap.size, 0, none⟩ : Addr).add i) = some u := by
            intro i u hu
            obtain ⟨k0, k1, k2⟩ := three_cells wr (.int .u64 p) (.int .u64 g) (.slice ua j uc) 78
            rw [Addr.add_lit]
            match i, hu with
            | 0, hu => cases hu; exact k0
            | 1, hu => cases hu; exact k1
            | 2, hu => cases hu; exact k2
            | i + 3, hu => simp at hu
          have hO2 := hown.alloc (.cells #[.int .u64 p, .int .u64 g, .slice ua j uc] 78)
          have hBa : Below w.heap.size w (wr.alloc (.cells #[.int .u64 p, .int .u64 g, .slice ua j uc] 78)) := bb (bb hBwV hBi) (below_alloc _ _)
          have hPa := hPu.below (below_alloc wr (.cells #[.int .u64 p, .int .u64 g, .slice ua j uc] 78)) (Nat.le_refl _)
          have hxa : ∀ i x, i < k → es[i]? = some x → ∃ u, xs[i * 3]? = some (.int .u64 (x.p : Int)) ∧ xs[i * 3 + 1]? = some (.int .u64 (x.g : Int)) ∧ xs[i * 3 + 2]? = some u ∧ PRow (wr.alloc (.cells #[.int .u64 p, .int .u64 g, .slice ua j uc] 78)) w.heap.size u x.fs.length x.fs := by
            intro i y hi hy
            obtain ⟨u, a1, a2, a3, a4⟩ := hxs i y hi hy
            exact ⟨u, a1, a2, a3, a4.below (below_alloc _ _) (Nat.le_refl _)⟩
          have HX : Hid (es[k]? = some x) := hx
          clear hx hxs HP hPu
          go_wp2_with (at_builtin; refine Hid.out ?_)
          unfold Hid
          refine (wpList_append_own _ rfl _ _ 48 rfl w.heap.size 78 i2 _ 3 40 Tryz.underlying48 hi2 hz2 hs2 hb2 rfl (by omega) _ k _ rfl hO2 ⟨wr.heap.size, 0, none⟩ 1 1 [.int .u64 p, .int .u64 g, .slice ua j uc] rfl rfl hnews (by simp [Value.oneCell']) (by unfold maxLen; omega) (by omega) hBa.size ?_)
          intro v' w2 hO3 hG _
          have hR3 : ERow w2 w.heap.size v' (k + 1) es := by
            obtain ⟨_, hp1, hg1⟩ := HF.out
            refine ERow.push hO2 hxa HX.out hPa hG ?_
            rw [hp1, hg1]; exact hO3
          have hB2 : Below w.heap.size w w2 := hBa.grown hG hBa.size (fun n hn => (hO2.lt n hn).1)
          clear hO3 hG hO2 hBa hnews hown hxa hPa
          go_wp2
          go_roundw
          case rel => exact ⟨k + 1, by go_num, by omega, hR3, hB2⟩
          case measure => simp [intOf]; omega
    · obtain rfl : k = L := by omega
      have hR : ERow wr w.heap.size u3 es.length es := by rw [HL.out]; exact HR
      obtain ⟨A', C', rfl, hE'⟩ := hR.to hok
      have HE : Hid (EntsAt wr A' C' es) := hE'
      clear hE' HR hR
      rw [HL.out]
      go_wp2
      go_ret
      exact ⟨A', C', rfl, HE.out, hB⟩
end Go.Proofs.YtpjfapibjihbbaaGreatDoor
/-
  What the document tells (alive), of layer 6; a source's field, by the program and by the document (made).
-/
namespace Go.Proofs.YtpjfapibjihbbaaGreatDoor
set_option linter.unusedVariables false
open Go.RowKit

theorem odd17 : Odd16 17 := ⟨prm_of 17 (by omega) (by decide), by omega, by omega⟩
theorem gen17 : genOf 17 = 3 := by
  obtain ⟨h1, h2, h3, h4⟩ := genOf_spec odd17
  have g3 : GenP 3 17 := by
    intro q hq
    obtain ⟨pq, dq⟩ := (mem_pf (by omega)).1 hq
    have h5 := pq.1
    have h6 := Nat.le_of_dvd (by omega) dq
    have key : ∀ q, q < 17 → 2 ≤ q → 3 ^ ((17 - 1) / q) % 17 ≠ 1 := by decide
    exact key q (by omega) h5
  have n2 : ¬ GenP 2 17 := fun h => h 2 ((mem_pf (by omega)).2 ⟨prm_two, ⟨8, rfl⟩⟩) rfl
  by_cases e2 : genOf 17 = 2
  · rw [e2] at h3; exact absurd h3 n2
  · by_cases e3 : 3 < genOf 17
    · exact absurd g3 (h4 3 (by omega) e3)
    · omega
/-! ### made -/
abbrev noV : Value := .tuple #[.pointer none, .int .u64 0, .int .u64 0]
def Made (W : World) (s : Value) (p g : Int) (x : En) : Prop := ∀ w, Below W.heap.size W w → Calls Tryz.prog 6 #[s] w fun e w' => ∃ b, e = .returned (.tuple #[pt b, .int .u64 p, .int .u64 g]) ∧ FieldAt w' b x ∧ Below w.heap.size w w'
theorem Made.use {W : World} {s : Value} {p g : Int} {x : En} (h : Made W s p g x) {w : World} (hw : Below W.heap.size W w) {R : Ending → World → Prop} (k : ∀ b w', FieldAt w' b x → Below w.heap.size w w' → R (.returned (.tuple #[pt b, .int .u64 p, .int .u64 g])) w') : Calls Tryz.prog 6 #[s] w R :=
  (h w hw).mono fun _ _ ⟨b, he, h1, h2⟩ => by subst he; exact k b _ h1 h2
set_option maxHeartbeats 1000000 in
theorem made_small_no (W : World) (z q e : Int) (A : Option Addr) (L C : Nat) (HO : AnsB W 15 #[srcV 0 z q A L C] (ofV 0 0 e)) (HF : AnsB W 16 #[.int .u64 q] (.tuple #[.pointer none, .int .i64 1])) : AnsB W 6 #[srcV 0 z q A L C] noV := by
  intro w hw
  obtain ⟨t0, t1, t2, t3⟩ := four_cells w (.int .i64 0) (.int .i64 z) (.int .u64 q) (.slice A L C) 25
  obtain ⟨V, hV⟩ : ∃ V, w.alloc (.cells #[.int .i64 0, .int .i64 z, .int .u64 q, .slice A L C] 25) = V := ⟨_, rfl⟩
  have hBV : Below w.heap.size w V := hV ▸ below_alloc _ _
  obtain ⟨bo, hbo⟩ : ∃ bo, w.heap.size = bo := ⟨_, rfl⟩
  have hVs : bo < V.heap.size := by rw [← hV, ← hbo]; simp
  rw [hV, hbo] at t0 t1 t2 t3
  have hWV := bb hw hBV
  go_enter Tryz.func6, Tryz.ntmps6
  go_wp2_with (first
    | (go_at_call 15; with_reducible refine AnsB.use HO hWV fun w1 hb1 => ?_; have s0 := keep_cell hb1 hVs t0; have s1 := keep_cell hb1 hVs t1; have s2 := keep_cell hb1 hVs t2; have s3 := keep_cell hb1 hVs t3; have hW1 := bb hWV hb1)
    | (go_at_call 16; with_reducible refine AnsB.use HF hW1 fun w2 hb2 => ?_))
  go_ret3
  exact ⟨rfl, bb hBV (bb hb1 hb2)⟩
set_option maxHeartbeats 1000000 in
theorem made_small_yes (W : World) (z q p g : Int) (x : En) (A : Option Addr) (L C : Nat) (HO : AnsB W 15 #[srcV 0 z q A L C] (ofV p g 0)) (HF : FNew W 16 #[.int .u64 q] x) : Made W (srcV 0 z q A L C) p g x := by
  intro w hw
  obtain ⟨t0, t1, t2, t3⟩ := four_cells w (.int .i64 0) (.int .i64 z) (.int .u64 q) (.slice A L C) 25
  obtain ⟨V, hV⟩ : ∃ V, w.alloc (.cells #[.int .i64 0, .int .i64 z, .int .u64 q, .slice A L C] 25) = V := ⟨_, rfl⟩
  have hBV : Below w.heap.size w V := hV ▸ below_alloc _ _
  obtain ⟨bo, hbo⟩ : ∃ bo, w.heap.size = bo := ⟨_, rfl⟩
  have hVs : bo < V.heap.size := by rw [← hV, ← hbo]; simp
  rw [hV, hbo] at t0 t1 t2 t3
  have hWV := bb hw hBV
  go_enter Tryz.func6, Tryz.ntmps6
  go_wp2_with (first
    | (go_at_call 15; with_reducible refine AnsB.use HO hWV fun w1 hb1 => ?_; have s0 := keep_cell hb1 hVs t0; have s1 := keep_cell hb1 hVs t1; have s2 := keep_cell hb1 hVs t2; have s3 := keep_cell hb1 hVs t3; have hW1 := bb hWV hb1)
    | (go_at_call 16; with_reducible refine FNew.use HF hW1 fun b w2 hF2 hb2 => ?_))
  go_ret3
  exact ⟨b, rfl, hF2, bb hBV (bb hb1 hb2)⟩
set_option maxHeartbeats 1000000 in
theorem made_known_no (W : World) (z q e : Int) (A : Option Addr) (L C : Nat) (HO : AnsB W 15 #[srcV 1 z q A L C] (ofV 0 0 e)) (HF : AnsB W 17 #[.int .i64 z] (.tuple #[.pointer none, .int .i64 1])) : AnsB W 6 #[srcV 1 z q A L C] noV := by
  intro w hw
  obtain ⟨t0, t1, t2, t3⟩ := four_cells w (.int .i64 1) (.int .i64 z) (.int .u64 q) (.slice A L C) 25
  obtain ⟨V, hV⟩ : ∃ V, w.alloc (.cells #[.int .i64 1, .int .i64 z, .int .u64 q, .slice A L C] 25) = V := ⟨_, rfl⟩
  have hBV : Below w.heap.size w V := hV ▸ below_alloc _ _
  obtain ⟨bo, hbo⟩ : ∃ bo, w.heap.size = bo := ⟨_, rfl⟩
  have hVs : bo < V.heap.size := by rw [← hV, ← hbo]; simp
  rw [hV, hbo] at t0 t1 t2 t3
  have hWV := bb hw hBV
  go_enter Tryz.func6, Tryz.ntmps6
  go_wp2_with (first
    | (go_at_call 15; with_reducible refine AnsB.use HO hWV fun w1 hb1 => ?_; have s0 := keep_cell hb1 hVs t0; have s1 := keep_cell hb1 hVs t1; have s2 := keep_cell hb1 hVs t2; have s3 := keep_cell hb1 hVs t3; have hW1 := bb hWV hb1)
    | (go_at_call 17; with_reducible refine AnsB.use HF hW1 fun w2 hb2 => ?_))
  go_ret3
  exact ⟨rfl, bb hBV (bb hb1 hb2)⟩
set_option maxHeartbeats 1000000 in
theorem made_known_yes (W : World) (z q p g : Int) (x : En) (A : Option Addr) (L C : Nat) (HO : AnsB W 15 #[srcV 1 z q A L C] (ofV p g 0)) (HF : FNew W 17 #[.int .i64 z] x) : Made W (srcV 1 z q A L C) p g x := by
  intro w hw
  obtain ⟨t0, t1, t2, t3⟩ := four_cells w (.int .i64 1) (.int .i64 z) (.int .u64 q) (.slice A L C) 25
  obtain ⟨V, hV⟩ : ∃ V, w.alloc (.cells #[.int .i64 1, .int .i64 z, .int .u64 q, .slice A L C] 25) = V := ⟨_, rfl⟩
  have hBV : Below w.heap.size w V := hV ▸ below_alloc _ _
  obtain ⟨bo, hbo⟩ : ∃ bo, w.heap.size = bo := ⟨_, rfl⟩
  have hVs : bo < V.heap.size := by rw [← hV, ← hbo]; simp
  rw [hV, hbo] at t0 t1 t2 t3
  have hWV := bb hw hBV
  go_enter Tryz.func6, Tryz.ntmps6
  go_wp2_with (first
    | (go_at_call 15; with_reducible refine AnsB.use HO hWV fun w1 hb1 => ?_; have s0 := keep_cell hb1 hVs t0; have s1 := keep_cell hb1 hVs t1; have s2 := keep_cell hb1 hVs t2; have s3 := keep_cell hb1 hVs t3; have hW1 := bb hWV hb1)
    | (go_at_call 17; with_reducible refine FNew.use HF hW1 fun b w2 hF2 hb2 => ?_))
  go_ret3
  exact ⟨b, rfl, hF2, bb hBV (bb hb1 hb2)⟩
set_option maxHeartbeats 1000000 in
theorem made_long (W : World) (kind z q e : Int) (A : Option Addr) (L C : Nat) (h0 : (kind == 0) = false) (h1 : (kind == 1) = false) (hL : 40 < (L : Int)) (HO : AnsB W 15 #[srcV kind z q A L C] (ofV 0 0 e)) : AnsB W 6 #[srcV kind z q A L C] noV := by
  intro w hw
  obtain ⟨t0, t1, t2, t3⟩ := four_cells w (.int .i64 kind) (.int .i64 z) (.int .u64 q) (.slice A L C) 25
  obtain ⟨V, hV⟩ : ∃ V, w.alloc (.cells #[.int .i64 kind, .int .i64 z, .int .u64 q, .slice A L C] 25) = V := ⟨_, rfl⟩
  have hBV : Below w.heap.size w V := hV ▸ below_alloc _ _
  obtain ⟨bo, hbo⟩ : ∃ bo, w.heap.size = bo := ⟨_, rfl⟩
  have hVs : bo < V.heap.size := by rw [← hV, ← hbo]; simp
  rw [hV, hbo] at t0 t1 t2 t3
  have hWV := bb hw hBV
  go_enter Tryz.func6, Tryz.ntmps6
  go_wp2_with (first
    | (go_at_call 15; with_reducible refine AnsB.use HO hWV fun w1 hb1 => ?_; have s0 := keep_cell hb1 hVs t0; have s1 := keep_cell hb1 hVs t1; have s2 := keep_cell hb1 hVs t2; have s3 := keep_cell hb1 hVs t3; have hW1 := bb hWV hb1))
  go_ret3
  exact ⟨rfl, bb hBV hb1⟩
def RowsC (W : World) (s : Value) (L : Nat) (es : List En) : Prop := ∀ w, Below W.heap.size W w → ∀ {R : Ending → World → Prop}, (∀ A' C' w', EntsAt w' A' C' es → Below w.heap.size w w' → R (.returned (.slice A' L C')) w') → Calls Tryz.prog 19 #[s] w R
theorem RowsC.use {W : World} {s : Value} {L : Nat} {es : List En} (h : RowsC W s L es) {w : World} (hw : Below W.heap.size W w) {R : Ending → World → Prop} (k : ∀ A' C' w', EntsAt w' A' C' es → Below w.heap.size w w' → R (.returned (.slice A' L C')) w') : Calls Tryz.prog 19 #[s] w R := h w hw k
set_option maxHeartbeats 1000000 in
theorem made_row_no (W : World) (kind z q e e' : Int) (A : Option Addr) (L C : Nat) (es : List En) (h0 : (kind == 0) = false) (h1 : (kind == 1) = false) (hL : (L : Int) ≤ 40) (HO : AnsB W 15 #[srcV kind z q A L C] (ofV 0 0 e)) (HR : RowsC W (.slice A L C) L es)
    (HN : ∀ w A' C', EntsAt w A' C' es → AnsB w 18 #[.slice A' L C', .int .u64 q] (.tuple #[.pointer none, .int .i64 e'])) : AnsB W 6 #[srcV kind z q A L C] noV := by
  intro w hw
  obtain ⟨t0, t1, t2, t3⟩ := four_cells w (.int .i64 kind) (.int .i64 z) (.int .u64 q) (.slice A L C) 25
  obtain ⟨V, hV⟩ : ∃ V, w.alloc (.cells #[.int .i64 kind, .int .i64 z, .int .u64 q, .slice A L C] 25) = V := ⟨_, rfl⟩
  have hBV : Below w.heap.size w V := hV ▸ below_alloc _ _
  obtain ⟨bo, hbo⟩ : ∃ bo, w.heap.size = bo := ⟨_, rfl⟩
  have hVs : bo < V.heap.size := by rw [← hV, ← hbo]; simp
  rw [hV, hbo] at t0 t1 t2 t3
  have hWV := bb hw hBV
  go_enter Tryz.func6, Tryz.ntmps6
  go_wp2_with (first
    | (go_at_call 15; with_reducible refine AnsB.use HO hWV fun w1 hb1 => ?_; have s0 := keep_cell hb1 hVs t0; have s1 := keep_cell hb1 hVs t1; have s2 := keep_cell hb1 hVs t2; have s3 := keep_cell hb1 hVs t3; have hW1 := bb hWV hb1))
  go_region_with (first
    | (go_at_call 19; with_reducible refine RowsC.use HR (bb hW1 (below_drew _)) fun A2 C2 w2 hE2 hb2 => ?_; have HN2 := HN w2 A2 C2 hE2; have hbd := bb (below_drew w1) hb2; have r2 := keep_cell hbd (Nat.lt_of_lt_of_le hVs hb1.size) s2)
    | (go_at_call 18; with_reducible refine AnsB.use HN2 (Below.refl _ _) fun w3 hb3 => ?_))
  all_goals
    go_wp2
    go_ret3
    exact ⟨rfl, bb hBV (bb hb1 (bb hbd hb3))⟩
set_option maxHeartbeats 1000000 in
theorem made_row_yes (W : World) (kind z q p g : Int) (x : En) (A : Option Addr) (L C : Nat) (es : List En) (h0 : (kind == 0) = false) (h1 : (kind == 1) = false) (hL : (L : Int) ≤ 40) (HO : AnsB W 15 #[srcV kind z q A L C] (ofV p g 0)) (HR : RowsC W (.slice A L C) L es)
    (HN : ∀ w A' C', EntsAt w A' C' es → FNew w 18 #[.slice A' L C', .int .u64 q] x) : Made W (srcV kind z q A L C) p g x := by
  intro w hw
  obtain ⟨t0, t1, t2, t3⟩ := four_cells w (.int .i64 kind) (.int .i64 z) (.int .u64 q) (.slice A L C) 25
  obtain ⟨V, hV⟩ : ∃ V, w.alloc (.cells #[.int .i64 kind, .int .i64 z, .int .u64 q, .slice A L C] 25) = V := ⟨_, rfl⟩
  have hBV : Below w.heap.size w V := hV ▸ below_alloc _ _
  obtain ⟨bo, hbo⟩ : ∃ bo, w.heap.size = bo := ⟨_, rfl⟩
  have hVs : bo < V.heap.size := by rw [← hV, ← hbo]; simp
  rw [hV, hbo] at t0 t1 t2 t3
  have hWV := bb hw hBV
  go_enter Tryz.func6, Tryz.ntmps6
  go_wp2_with (first
    | (go_at_call 15; with_reducible refine AnsB.use HO hWV fun w1 hb1 => ?_; have s0 := keep_cell hb1 hVs t0; have s1 := keep_cell hb1 hVs t1; have s2 := keep_cell hb1 hVs t2; have s3 := keep_cell hb1 hVs t3; have hW1 := bb hWV hb1))
  go_region_with (first
    | (go_at_call 19; with_reducible refine RowsC.use HR (bb hW1 (below_drew _)) fun A2 C2 w2 hE2 hb2 => ?_; have HN2 := HN w2 A2 C2 hE2; have hbd := bb (below_drew w1) hb2; have r2 := keep_cell hbd (Nat.lt_of_lt_of_le hVs hb1.size) s2)
    | (go_at_call 18; with_reducible refine FNew.use HN2 (Below.refl _ _) fun b w3 hF3 hb3 => ?_))
  all_goals
    go_wp2
    go_ret3
    exact ⟨b, rfl, hF3, bb hBV (bb hb1 (bb hbd hb3))⟩

/-! ### Of all sources -/
/-- What a field's entry is: an odd prime below 2^63, and a number whose powers are all. -/
structure Fld (x : En) : Prop where
  gd : Gd x.p
  gl : x.g < x.p
  g2 : 2 ≤ x.g
  luc : ∃ l, Luc x.p x.g l
theorem Fld.prm {x : En} (h : Fld x) : Prm x.p := by
  obtain ⟨l, hl⟩ := h.luc
  exact hl.prime
theorem RightRow.fld {es : List En} (h : RightRow es) {k : Nat} {x : En} (hx : es[k]? = some x) : Fld x := by
  obtain ⟨a, b, c, d, _⟩ := h.luc hx
  exact ⟨a, b, c, _, d⟩
theorem kn_fld (i : Nat) (h : i ≤ 5) : Fld (kn i) := (kn_row i h).fld (knRow_last i)
theorem small_fld {p : Nat} (h : Odd16 p) : Fld (enOf p) := by
  obtain ⟨k, _, h2, _⟩ := row_last h
  exact (small_row h).fld (k := k) (by rw [rowOf, List.getElem?_map, h2]; rfl)
theorem check_two (es : List En) : (∃ i e : Int, (e != 0) = true ∧ checkV es = .tuple #[.int .i64 i, .int .i64 e]) ∨ RightRow es := by
  unfold checkV
  by_cases h : 32 < es.length
  · rw [if_pos h]; exact Or.inl ⟨0, 13, rfl, rfl⟩
  · rw [if_neg h]
    cases ho : checkO es with
    | none => exact Or.inr ⟨by omega, ho⟩
    | some k => exact Or.inl ⟨k, 3, rfl, rfl⟩
theorem big_not {es : List En} (h : bigF es = true) : ¬ RightRow es := fun hr => by
  obtain ⟨x, hx, hd⟩ := List.any_eq_true.1 h
  obtain ⟨k, hk, rfl⟩ := List.getElem_of_mem hx
  obtain ⟨_, _, _, _, hl⟩ := hr.luc (List.getElem?_eq_getElem hk)
  have := of_decide_eq_true hd
  omega
theorem rows_c (W : World) (A : Option Addr) (C : Nat) (es : List En) (hE : EntsAt W A C es) (h40 : es.length ≤ 40) (hfs : ∀ x ∈ es, x.fs.length * 16 ≤ 140737488355328) : RowsC W (.slice A es.length C) es.length es :=
  fun w hw R k => RowsAns.use (rows_any W A C es hE (by omega) hfs) hw k
/-- A source: there is no field, by the program and by the document; or there is one, the same. -/
theorem made_any (W : World) (kind z : Int) (hz : z < 9223372036854775808) (q : Nat) (hq : q < 18446744073709551616) (A : Option Addr) (C : Nat) (es : List En) (hE : EntsAt W A C es) (hfs : ∀ x ∈ es, x.fs.length * 16 ≤ 140737488355328) :
    AnsB W 6 #[srcV kind z (q : Int) A es.length C] noV ∨ ∃ x, Fld x ∧ Made W (srcV kind z (q : Int) A es.length C) (x.p : Int) (x.g : Int) x := by
  by_cases k0 : kind = 0
  · subst k0
    by_cases ho : Odd16 q
    · exact Or.inr ⟨enOf q, small_fld ho, made_small_yes W z q q (genOf q) (enOf q) A _ C ((of_odd1 z q (genOf q) A _ C ((rodd_any q hq).to (by rw [oddB_iff.2 ho])) (rgen_any q hq)).toB W) (small_yes W q ho)⟩
    · exact Or.inl (made_small_no W z q 1 A _ C ((of_odd0 z q A _ C ((rodd_any q hq).to (by rw [Bool.eq_false_iff.2 (fun h => ho (oddB_iff.1 h))]))).toB W) ((small_none q hq ho).toB W))
  · by_cases k1 : kind = 1
    · subst k1
      by_cases hr : 0 ≤ z ∧ z ≤ 5
      · obtain ⟨i, rfl⟩ := Int.eq_ofNat_of_zero_le hr.1
        exact Or.inr ⟨kn i, kn_fld i (by omega), made_known_yes W i q _ _ (kn i) A _ C ((of_known i (by omega) q A _ C).toB W) (known_yes W i (by omega))⟩
      · exact Or.inl (made_known_no W z q 1 A _ C ((of_known0 z q A _ C (by omega)).toB W) ((known_none z (by omega)).toB W))
    · have h0 : (kind == 0) = false := by simpa using k0
      have h1 : (kind == 1) = false := by simpa using k1
      have hcl := hE.cap
      have hcm := hE.max
      unfold maxLen at hcm
      by_cases h40 : 40 < es.length
      · exact Or.inl (made_long W kind z q 13 A _ C h0 h1 (by omega) ((of_long kind z q A _ C h0 h1 (by omega) (by omega)).toB W))
      · have HR := rows_c W A C es hE (by omega) hfs
        have HC := rcheck_any W A C es hE
        rcases check_two es with ⟨i, e, he, hv⟩ | hr
        · rw [hv] at HC
          refine Or.inl ?_
          have HN : ∀ w A' C', EntsAt w A' C' es → AnsB w 18 #[.slice A' es.length C', .int .u64 (q : Int)] (.tuple #[.pointer none, .int .i64 e]) := fun w A' C' h => new_err w _ q i e he (by have := check_any w A' C' es h; rw [hv] at this; exact this)
          by_cases hb : bigF es = true
          · exact made_row_no W kind z q 3 e A _ C es h0 h1 (by omega) (of_row W kind z q A C es hE (by omega) h0 h1 i e 0 0 3 (Or.inr he) HC ⟨fun _ => ⟨rfl, rfl, rfl⟩, fun h => (by rw [hb] at h; cases h), fun h => (by rw [hb] at h; cases h), fun h => (by rw [hb] at h; cases h)⟩) HR HN
          · exact made_row_no W kind z q e e A _ C es h0 h1 (by omega) (of_row W kind z q A C es hE (by omega) h0 h1 i e 0 0 e (Or.inr he) HC ⟨fun h => absurd h hb, fun _ _ => ⟨rfl, rfl, rfl⟩, fun _ h => (by subst h; cases he), fun _ h => (by subst h; cases he)⟩) HR HN
        · have hv := hr.check
          rw [hv] at HC
          have hb : ¬ bigF es = true := fun h => big_not h hr
          cases hf : es.findIdx? fun y => y.p == q with
          | none =>
            have hn : ∀ (j : Nat) (y : En), es[j]? = some y → y.p ≠ q := fun j y hy e => by
              have := List.findIdx?_eq_none_iff.1 hf y (List.mem_of_getElem? hy)
              simp [e] at this
            exact Or.inl (made_row_no W kind z q 14 14 A _ C es h0 h1 (by omega) (of_row W kind z q A C es hE (by omega) h0 h1 0 0 0 0 14 (Or.inl rfl) HC ⟨fun h => absurd h hb, fun _ h => (by cases h), fun _ _ k x hx hp => absurd hp (hn k x hx), fun _ _ _ => ⟨rfl, rfl, rfl⟩⟩) HR fun w A' C' h => new_not w A' C' es h hr q hf)
          | some k =>
            obtain ⟨hk, h1', h2'⟩ := List.findIdx?_eq_some_iff_getElem.1 hf
            have hx : es[k]? = some es[k] := List.getElem?_eq_getElem hk
            have hp : es[k].p = q := by simpa using h1'
            refine Or.inr ⟨es[k], hr.fld hx, made_row_yes W kind z q _ _ es[k] A _ C es h0 h1 (by omega) (of_row W kind z q A C es hE (by omega) h0 h1 0 0 (es[k].p : Int) (es[k].g : Int) 0 (Or.inl rfl) HC ⟨fun h => absurd h hb, fun _ h => (by cases h), fun _ _ j x hj hxp hl => ?_, fun _ _ h => absurd hp (h k _ hx)⟩) HR fun w A' C' h => ?_⟩
            · have hjk : j = k := by
                rcases Nat.lt_trichotomy j k with h | h | h
                · have hjl := (List.getElem?_eq_some_iff.1 hj).1
                  have := h2' j h
                  have e : es[j] = x := (List.getElem?_eq_some_iff.1 hj).2
                  rw [e] at this
                  simp [hxp] at this
                · exact h
                · exact absurd hp (hl k _ h hx)
              subst hjk
              rw [hx] at hj; cases hj
              exact ⟨rfl, rfl, rfl⟩
            · have := new_right w A' C' es h hr k _ hx
              rw [hp] at this
              exact this
end Go.Proofs.YtpjfapibjihbbaaGreatDoor

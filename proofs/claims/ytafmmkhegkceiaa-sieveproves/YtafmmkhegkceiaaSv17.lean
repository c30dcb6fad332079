/-
  The contract of sieve's enter: the entries of a prime, and of all that it leans on, are laid by those that are there.
-/
import Derived.Test.YtafmmkhegkceiaaSv16
import Derived.Test.YtafmmkhegkceiaaCloM
namespace Go.Proofs.Ytafmmkhegkceiaa
set_option linter.unusedVariables false
open Go.RowKit Go.Maps

theorem rcells (w : World) (a b c : Value) (t : TypeId) : (w.alloc (.cells #[a, b, c] t)).cell? ⟨w.heap.size, 0, none⟩ = some a ∧ (w.alloc (.cells #[a, b, c] t)).cell? ⟨w.heap.size, 1, none⟩ = some b ∧ (w.alloc (.cells #[a, b, c] t)).cell? ⟨w.heap.size, 2, none⟩ = some c := by
  refine ⟨?_, ?_, ?_⟩ <;> (rw [World.cell?_alloc_at _ _ _ _ rfl]; rfl)
def heldV (v : Value) : Option (DataW Value × List MemPlace) := some (.held v, [])
noncomputable def lenF (q : Nat) : Nat := (facOf (q - 1)).length
/-- A prime's entry. -/
def EntV (w : World) (q : Nat) (v : Value) : Prop := ∃ A C, v = .agg #[.int .u64 (q : Int), .int .u64 (genOf q : Int), .slice A (lenF q) C] ∧ PowsAt w A C (facOf (q - 1))
/-- A map of entries lies there: of just those of S. -/
def EMap (w : World) (b : Nat) (S : Nat → Prop) : Prop := ∃ (D : DataW Value) (m : Nat → Option Value), w.ownsMap Try.prog 26 heldV b (Maps.size D) D ∧ (∀ (q : Nat) z, D.atKey (keyU q) z = match m q with | some v => .held v | none => z) ∧ (∀ q : Nat, has D (keyU q) = (m q).isSome) ∧ (∀ q, (m q).isSome = true ↔ S q) ∧ (∀ q v, m q = some v → EntV w q v) ∧ ∀ q, S q → q ≤ 65536
theorem pows_kept {w w' : World} {A : Option Addr} {C : Nat} {l : List Pw} (h : PowsAt w A C l) {row : Option Nat} (hg : w.grownBy w' row) (hr : ∀ b, row = some b → ∃ es clock, w.heap[b]? = some (.map es clock)) : PowsAt w' A C l := by
  refine ⟨h.cap, h.max, fun i f hf => ?_⟩
  obtain ⟨b, o, hA, hl, c0, c1, k⟩ := h.get i f hf
  have hne : some b ≠ row := by
    intro e
    obtain ⟨es, clock, hm⟩ := hr b e.symm
    unfold World.cell? at c0
    rw [hm] at c0
    simp at c0
  exact ⟨b, o, hA, Nat.lt_of_lt_of_le hl hg.size, hg.cell c0 hne, hg.cell c1 hne, k⟩
theorem EntV.kept {w w' : World} {q : Nat} {v : Value} (h : EntV w q v) {row : Option Nat} (hg : w.grownBy w' row) (hr : ∀ b, row = some b → ∃ es clock, w.heap[b]? = some (.map es clock)) : EntV w' q v := by
  obtain ⟨A, C, hv, hP⟩ := h
  exact ⟨A, C, hv, pows_kept hP hg hr⟩
theorem grown_of_below {w w' : World} (h : Below w.heap.size w w') (row : Option Nat) : w.grownBy w' row := ⟨h.os, h.tape, h.output, h.size, fun k hk _ => h.block k hk⟩
theorem tight {H : Type} {w : World} {P : Program} {k : TypeId} {R : Value → Option (DataW H × List MemPlace)} {b n : Nat} {D : DataW H} (h : w.ownsMap P k R b n D) : w.ownsMap P k R b (Maps.size D) D := by
  obtain ⟨es, clock, hb, F, hs, hD⟩ := h
  refine ⟨es, clock, hb, F, ?_, hD⟩
  rw [hD]; simp [Maps.size, length_sorted]
theorem EMap.below {w w' : World} {b : Nat} {S : Nat → Prop} (h : EMap w b S) (hb : Below w.heap.size w w') : EMap w' b S := by
  obtain ⟨D, m, h1, h2, h3, h4, h5, h6⟩ := h
  exact ⟨D, m, h1.kept (grown_of_below hb none) (by simp), h2, h3, h4, fun q v hv => (h5 q v hv).kept (grown_of_below hb none) (fun b e => by cases e), h6⟩
theorem EMap.lt {w : World} {b : Nat} {S : Nat → Prop} (h : EMap w b S) : b < w.heap.size := by
  obtain ⟨D, m, h1, _⟩ := h
  exact h1.lt
theorem EMap.isMap {w : World} {b : Nat} {S : Nat → Prop} (h : EMap w b S) : ∃ es clock, w.heap[b]? = some (.map es clock) := by
  obtain ⟨D, m, ⟨es, clock, hb, _⟩, _⟩ := h
  exact ⟨es, clock, hb⟩
theorem emap_size {w : World} {b n : Nat} {D : DataW Value} {m : Nat → Option Value} {S : Nat → Prop} (h1 : w.ownsMap Try.prog 26 heldV b n D) (h3 : ∀ q : Nat, has D (keyU q) = (m q).isSome) (h4 : ∀ q, (m q).isSome = true ↔ S q) (L : List Nat) (hL : ∀ x, S x → x ∈ L) : Maps.size D ≤ L.length := by
  obtain ⟨ks, k1, k2, k3⟩ := size_keys h1
  rw [← k2]
  exact nodup_sub_le k1 fun x hx => hL x ((h4 x).1 (by rw [← h3]; exact k3 x hx))
theorem emap_put {w w' : World} {b n : Nat} {D : DataW Value} {m : Nat → Option Value} {S : Nat → Prop} (h1 : w.ownsMap Try.prog 26 heldV b n D) (h2 : ∀ (q : Nat) z, D.atKey (keyU q) z = match m q with | some v => .held v | none => z) (h3 : ∀ q : Nat, has D (keyU q) = (m q).isSome) (h4 : ∀ q, (m q).isSome = true ↔ S q) (h5 : ∀ q v, m q = some v → EntV w q v) (h6 : ∀ q, S q → q ≤ 65536)
    (q : Nat) (v : Value) (hq : q ≤ 65536) (hv : EntV w q v) (hown : w'.ownsMap Try.prog 26 heldV b (n + 1) (D.put (keyU q) (.held v))) (hg : w.grownBy w' (some b)) : EMap w' b (fun x => x = q ∨ S x) := by
  have hD : IsMap D := h1.isMap
  have hm : ∃ es clock, w.heap[b]? = some (.map es clock) := by obtain ⟨es, clock, hb, _⟩ := h1; exact ⟨es, clock, hb⟩
  refine ⟨_, fun x => if x = q then some v else m x, tight hown, fun x z => ?_, fun x => ?_, fun x => ?_, fun x u hu => ?_, fun x hx => ?_⟩
  · by_cases e : x = q
    · subst e; rw [atKey_put_same hD (isKeyU x)]; simp
    · rw [atKey_put_other (fun e' => e (keyU_inj e')), h2]; simp [e]
  · by_cases e : x = q
    · subst e; rw [has_put_same hD (isKeyU x)]; simp
    · rw [has_put_other (fun e' => e (keyU_inj e')), h3]; simp [e]
  · by_cases e : x = q
    · subst e; simp
    · simp only [if_neg e, h4]
      exact ⟨fun h => Or.inr h, fun h => h.resolve_left e⟩
  · by_cases e : x = q
    · subst e
      simp at hu
      subst hu
      exact hv.kept hg (fun b' e => by cases e; exact hm)
    · replace hu : (if x = q then some v else m x) = some u := hu
      rw [if_neg e] at hu
      exact (h5 x u hu).kept hg (fun b' e => by cases e; exact hm)
  · rcases hx with rfl | hx
    · exact hq
    · exact h6 x hx
theorem zeroEn (w : World) : (zeroValue 45).run Try.prog w = .ok (.agg #[.int .u64 0, .int .u64 0, .slice none 0 0]) w := by kernel_rfl
theorem EMap.look {w : World} {b : Nat} {S : Nat → Prop} (h : EMap w b S) {q : Nat} (hq : q < 18446744073709551616) (hS : S q) : ∃ v, EntV w q v ∧ (Instr.lookup 62 (.map (some b)) (.int .u64 (q : Int)) true).run Try.prog w = .ok (.tuple #[v, .bool true]) w ∧ (Instr.lookup 62 (.map (some b)) (.int .u64 (q : Int)) false).run Try.prog w = .ok v w := by
  obtain ⟨D, m, h1, h2, h3, h4, h5, h6⟩ := h
  obtain ⟨v, hv⟩ := Option.isSome_iff_exists.1 ((h4 q).2 hS)
  obtain ⟨v1, ps, hr, hR⟩ := h1.look_ok keyed64 Try.underlying62 (zeroEn w) (R := heldV) rfl (keyOf_mk hq)
  obtain ⟨v2, ps2, hr2, hR2⟩ := h1.lookup keyed64 Try.underlying62 (zeroEn w) (R := heldV) rfl (keyOf_mk hq)
  rw [h2, hv] at hR hR2
  unfold heldV at hR hR2
  obtain rfl : v1 = v := by simpa using congrArg Prod.fst (Option.some.inj hR)
  obtain rfl : v2 = v1 := by simpa using congrArg Prod.fst (Option.some.inj hR2)
  rw [h3, hv] at hr
  exact ⟨v2, h5 q v2 hv, hr, hr2⟩
theorem EMap.miss {w : World} {b : Nat} {S : Nat → Prop} (h : EMap w b S) {q : Nat} (hq : q < 18446744073709551616) (hS : ¬ S q) : (Instr.lookup 62 (.map (some b)) (.int .u64 (q : Int)) true).run Try.prog w = .ok (.tuple #[.agg #[.int .u64 0, .int .u64 0, .slice none 0 0], .bool false]) w := by
  obtain ⟨D, m, h1, h2, h3, h4, h5, h6⟩ := h
  have hn : m q = none := by
    cases hc : m q with
    | none => rfl
    | some v => exact absurd ((h4 q).1 (by rw [hc]; rfl)) hS
  obtain ⟨v1, ps, hr, hR⟩ := h1.look_ok keyed64 Try.underlying62 (zeroEn w) (R := heldV) rfl (keyOf_mk hq)
  rw [h2, hn] at hR
  unfold heldV at hR
  obtain rfl : v1 = _ := by simpa using congrArg Prod.fst (Option.some.inj hR)
  rw [h3, hn] at hr
  exact hr

/-! ### What enter does to the keys -/
structure EnterPost (q : Nat) (S S' : Nat → Prop) : Prop where
  sub : ∀ x, S x → S' x
  has : q ≠ 2 → S' q
  only : ∀ x, S' x → S x ∨ (q ≠ 2 ∧ Cl q x)
  closed : ∀ x, S' x → ¬ S x → ∀ r, Prm r → r ≠ 2 → r ∣ x - 1 → S' r
structure LInv (q : Nat) (S : Nat → Prop) (k : Nat) (T : Nat → Prop) : Prop where
  sub : ∀ x, S x → T x
  self : T q
  only : ∀ x, T x → S x ∨ Cl q x
  closed : ∀ x, T x → ¬ S x → x ≠ q → ∀ r, Prm r → r ≠ 2 → r ∣ x - 1 → T r
  done : ∀ j r, j < k → (pf (q - 1))[j]? = some r → r ≠ 2 → T r
theorem LInv.start (q : Nat) (S : Nat → Prop) : LInv q S 0 (fun x => x = q ∨ S x) :=
  ⟨fun x h => Or.inr h, Or.inl rfl, fun x h => h.elim (fun e => Or.inr (e ▸ Cl.self)) Or.inl, fun x h h1 h2 => absurd (h.resolve_left h2) h1, fun j r hj => by omega⟩
theorem LInv.step {q k r : Nat} {S T T' : Nat → Prop} (h : LInv q S k T) (hq : 3 ≤ q) (hr : (pf (q - 1))[k]? = some r) (hp : EnterPost r T T') : LInv q S (k + 1) T' := by
  obtain ⟨pr, dr⟩ := (mem_pf (show 1 ≤ q - 1 by omega)).1 (List.mem_of_getElem? hr)
  refine ⟨fun x hx => hp.sub x (h.sub x hx), hp.sub q h.self, fun x hx => ?_, fun x hx h1 h2 s ps s2 ds => ?_, fun j s hj hs s2 => ?_⟩
  · rcases hp.only x hx with a | ⟨n2, c⟩
    · exact h.only x a
    · exact Or.inr ((Cl.step Cl.self pr n2 dr).trans c)
  · by_cases hT : T x
    · exact hp.sub s (h.closed x hT h1 h2 s ps s2 ds)
    · exact hp.closed x hx hT s ps s2 ds
  · by_cases hjk : j < k
    · exact hp.sub s (h.done j s hjk hs s2)
    · obtain rfl : j = k := by omega
      rw [hr] at hs; cases hs
      exact hp.has s2
theorem LInv.post {q k : Nat} {S T : Nat → Prop} (h : LInv q S k T) (hq : 3 ≤ q) (hk : (pf (q - 1)).length ≤ k) : EnterPost q S T := by
  refine ⟨h.sub, fun _ => h.self, fun x hx => (h.only x hx).imp id fun c => ⟨by omega, c⟩, fun x hx h1 r pr r2 dr => ?_⟩
  by_cases e : x = q
  · subst e
    have hm := (mem_pf (show 1 ≤ x - 1 by omega)).2 ⟨pr, dr⟩
    obtain ⟨j, hj, rfl⟩ := List.getElem_of_mem hm
    exact h.done j _ (by omega) (List.getElem?_eq_getElem hj) r2
  · exact h.closed x hx h1 e r pr r2 dr
def EnterAns (q : Nat) : Prop := ∀ (w : World) (b : Nat) (S : Nat → Prop), EMap w b S → Calls Try.prog 29 #[.map (some b), .int .u64 (q : Int)] w fun e w' => e = .returned (.tuple #[]) ∧ ∃ S', EnterPost q S S' ∧ EMap w' b S' ∧ w.grownBy w' (some b)
theorem EnterAns.use {q : Nat} (h : EnterAns q) {w : World} {b : Nat} {S : Nat → Prop} (hE : EMap w b S) {R : Ending → World → Prop} (k : ∀ w' S', EnterPost q S S' → EMap w' b S' → w.grownBy w' (some b) → R (.returned (.tuple #[])) w') : Calls Try.prog 29 #[.map (some b), .int .u64 (q : Int)] w R :=
  (h w b S hE).mono fun _ _ ⟨he, S', h1, h2, h3⟩ => by subst he; exact k _ _ h1 h2 h3
theorem enter_met (q : Nat) (hq : q ≤ 65536) (w : World) (b : Nat) (S : Nat → Prop) (hE : EMap w b S) (hS : S q) : Calls Try.prog 29 #[.map (some b), .int .u64 (q : Int)] w fun e w' => e = .returned (.tuple #[]) ∧ ∃ S', EnterPost q S S' ∧ EMap w' b S' ∧ w.grownBy w' (some b) := by
  obtain ⟨v, ⟨A, C, rfl, _⟩, hr, _⟩ := hE.look (by omega) hS
  obtain ⟨g, hg⟩ : ∃ g, genOf q = g := ⟨_, rfl⟩
  obtain ⟨l, hl⟩ : ∃ l, lenF q = l := ⟨_, rfl⟩
  rw [hg, hl] at hr
  clear hg hl
  go_enter Try.func29, Try.ntmps29
  go_wp2
  refine bodyPost_ret (results_none rfl _ _ _) rfl ?_
  exact ⟨rfl, S, ⟨fun _ h => h, fun _ => hS, fun _ h => Or.inl h, fun _ h1 h2 => absurd h1 h2⟩, hE.below (below_alloc _ _), grown_of_below (below_alloc _ _) _⟩
theorem enter_two (w : World) (b : Nat) (S : Nat → Prop) (hE : EMap w b S) (hS : ¬ S 2) : Calls Try.prog 29 #[.map (some b), .int .u64 2] w fun e w' => e = .returned (.tuple #[]) ∧ ∃ S', EnterPost 2 S S' ∧ EMap w' b S' ∧ w.grownBy w' (some b) := by
  have hr := hE.miss (q := 2) (by omega) hS
  rw [show ((2 : Nat) : Int) = 2 from rfl] at hr
  go_enter Try.func29, Try.ntmps29
  go_wp2
  refine bodyPost_ret (results_none rfl _ _ _) rfl ?_
  exact ⟨rfl, S, ⟨fun _ h => h, fun h => absurd rfl h, fun _ h => Or.inl h, fun _ h1 h2 => absurd h1 h2⟩, hE.below (below_alloc _ _), grown_of_below (below_alloc _ _) _⟩

set_option maxRecDepth 100000 in
set_option maxHeartbeats 4000000 in
theorem enter_walk (q : Nat) (ho : Odd16 q) (ih : ∀ r, Prm r → r < q → EnterAns r) (w : World) (b : Nat) (S : Nat → Prop) (hE : EMap w b S) (hS : ¬ S q) : Calls Try.prog 29 #[.map (some b), .int .u64 (q : Int)] w fun e w' => e = .returned (.tuple #[]) ∧ ∃ S', EnterPost q S S' ∧ EMap w' b S' ∧ w.grownBy w' (some b) := by
  have h3 := ho.2.1
  have h6 := ho.2.2
  have hr := hE.miss (by omega) hS
  have HG := generator_any q (by omega)
  have HF := factor_any (q - 1) (by omega)
  rw [facS_in (by omega) (by omega)] at HF
  obtain ⟨G, hG⟩ : ∃ G, genOf q = G := ⟨_, rfl⟩
  rw [hG] at HG
  have HGd : Hid (genOf q = G) := hG
  have hGq : G < q := hG ▸ (genOf_spec ho).2.1
  obtain ⟨q1, hq1⟩ : ∃ q1, q - 1 = q1 := ⟨_, rfl⟩
  have HQ1 : Hid (q - 1 = q1) := hq1
  have e1 : (q : Int) - 1 = (q1 : Int) := by omega
  have e2 : ((q : Int) == 2) = false := by rw [beq_eq_false_iff_ne]; omega
  rw [hq1] at HF
  obtain ⟨L, hL⟩ : ∃ L, (facOf q1).length = L := ⟨_, rfl⟩
  have HL : Hid ((facOf q1).length = L) := hL
  have HL2 : Hid (lenF q = L) := by unfold Hid lenF; rw [hq1]; exact hL
  have hpl : L ≤ 11 := by rw [← hL, facOf_len]; exact pf_few (by omega) (by omega)
  have hEa : EMap (w.alloc (.cells #[.int .u64 0, .int .u64 0, .slice none 0 0] 45)) b S := hE.below (below_alloc _ _)
  have hBa : Below w.heap.size w (w.alloc (.cells #[.int .u64 0, .int .u64 0, .slice none 0 0] 45)) := below_alloc _ _
  have HH : Hid (EMap (w.alloc (.cells #[.int .u64 0, .int .u64 0, .slice none 0 0] 45)) b S) := hEa
  have HS : Hid (¬ S q) := hS
  clear hG hq1 hL hEa hE hS ho
  go_enter Try.func29, Try.ntmps29
  go_wp2_with (first
    | (go_at_call 14; with_reducible refine AnsM.use HG fun w1 hB1 => ?_)
    | (go_at_call 11; with_reducible refine FacAns.use HF fun A C w2 hP2 hB2 => ?_; rw [HL.out]; refine Hid.out ?_))
  unfold Hid
  have hE2 : EMap w2 b S := (EMap.below HH.out hB1).below hB2
  have hBw2 : Below w.heap.size w w2 := bb (bb hBa hB1) hB2
  have hE3 : EMap (w2.alloc (.cells #[.int .u64 (q : Int), .int .u64 (G : Int), .slice A L C] 45)) b S := hE2.below (below_alloc _ _)
  have hP3 : PowsAt (w2.alloc (.cells #[.int .u64 (q : Int), .int .u64 (G : Int), .slice A L C] 45)) A C (facOf q1) := hP2.below (below_alloc _ _)
  have hB3 : Below w.heap.size w (w2.alloc (.cells #[.int .u64 (q : Int), .int .u64 (G : Int), .slice A L C] 45)) := bb hBw2 (below_alloc _ _)
  obtain ⟨t0, t1, t2⟩ := rcells w2 (.int .u64 (q : Int)) (.int .u64 (G : Int)) (.slice A L C) 45
  obtain ⟨V, hV⟩ : ∃ V, w2.alloc (.cells #[.int .u64 (q : Int), .int .u64 (G : Int), .slice A L C] 45) = V := ⟨_, rfl⟩
  have hbo0 : w2.heap.size < V.heap.size := by rw [← hV]; simp
  rw [hV] at hE3 hP3 hB3 t0 t1 t2
  obtain ⟨bo, hbo⟩ : ∃ bo, w2.heap.size = bo := ⟨_, rfl⟩
  have hbb : bo ≠ b := by have := hE2.lt; omega
  rw [hbo] at t0 t1 t2
  have hm3 := hE3.isMap
  obtain ⟨D, m, m1, m2, m3, m4, m5, m6⟩ := hE3
  have hsz : Maps.size D ≤ 65537 := by
    have := emap_size m1 m3 m4 (List.range 65537) (fun x hx => List.mem_range.2 (by have := m6 x hx; omega))
    rwa [List.length_range] at this
  have HNM : Hid (Maps.size D < maxLen) := by unfold Hid maxLen; omega
  have HKQ : Hid (keyOf Try.prog 26 (.int .u64 (q : Int)) = some (keyU q)) := keyOf_mk (x := q) (by omega)
  have HEV : Hid (EntV V q (.agg #[.int .u64 (q : Int), .int .u64 (G : Int), .slice A L C])) := by
    refine ⟨A, C, ?_, by rw [HQ1.out]; exact hP3⟩
    rw [HGd.out, HL2.out]
  have HM : Hid ((∀ (q : Nat) z, D.atKey (keyU q) z = match m q with | some v => .held v | none => z) ∧ (∀ q : Nat, has D (keyU q) = (m q).isSome) ∧ (∀ q, (m q).isSome = true ↔ S q) ∧ (∀ q v, m q = some v → EntV V q v) ∧ ∀ q, S q → q ≤ 65536) := ⟨m2, m3, m4, m5, m6⟩
  have HP3 : Hid (PowsAt V A C (facOf q1)) := hP3
  clear m2 m3 m4 m5 m6 hP3 hP2 hE2 hB1 hB2 hBa hBw2 hsz hr HG HF HH
  go_wp2_with (at_mapUpdate; refine wpList_mapUpdate_own _ rfl _ _ _ 62 rfl 26 45 keyed64 Try.underlying62 heldV b (Maps.size D) D rfl m1 HNM.out _ _ _ rfl rfl HKQ.out _ [] rfl ?_; intro w4 hown4 hg4; refine Hid.out ?_)
  unfold Hid
  have hE4 := emap_put m1 HM.out.1 HM.out.2.1 HM.out.2.2.1 HM.out.2.2.2.1 HM.out.2.2.2.2 q _ (by omega) HEV.out hown4 hg4
  have s2 := hg4.cell t2 (by intro e; cases e; exact hbb rfl)
  have hP4 : PowsAt w4 A C (facOf q1) := pows_kept HP3.out hg4 (fun b' e => by cases e; exact hm3)
  have hG4 : w.grownBy w4 (some b) := (grown_of_below hB3 (some b)).trans hg4
  have HE4 : Hid (EMap w4 b (fun x => x = q ∨ S x)) := hE4
  have HP4 : Hid (PowsAt w4 A C (facOf q1)) := hP4
  clear hE4 hP4 hown4 hg4 m1 HM HEV HNM HP3 t0 t1 t2 hB3 hm3 hV hbo hbo0
  go_wp2
  go_loopw [33] (fun v wr => ∃ (k : Nat) (T : Nat → Prop), v = .int .i64 (k : Int) ∧ k ≤ L ∧ Hid (LInv q S k T) ∧ Hid (EMap wr b T) ∧ Hid (PowsAt wr A C (facOf q1)) ∧ w.grownBy wr (some b)) (fun v _ => L - (intOf v).toNat)
  case atStart => exact ⟨0, _, rfl, by omega, LInv.start q S, HE4, HP4, hG4⟩
  case round =>
    clear HE4 HP4 hG4 s2
    obtain ⟨k, T, rfl, hk, HI, HE, HP, hG⟩ := hrel
    by_cases hlt : k < L
    · obtain ⟨r, hr⟩ : ∃ r, (pf q1)[k]? = some r := ⟨_, List.getElem?_eq_getElem (by rw [← facOf_len, HL.out]; exact hlt)⟩
      obtain ⟨pr, dr⟩ := (mem_pf (show 1 ≤ q1 by have := HQ1.out; omega)).1 (List.mem_of_getElem? hr)
      have hrl : r ≤ q1 := Nat.le_of_dvd (by have := HQ1.out; omega) dr
      have HA := ih r pr (by have := HQ1.out; omega)
      have hf := facOf_get hr
      obtain ⟨e, he⟩ : ∃ e, vp r q1 = e := ⟨_, rfl⟩
      rw [he] at hf
      obtain ⟨bk, o, hA, hbl, c0, c1, _⟩ := HP.out.get k _ hf
      subst hA
      replace c0 : wr.cell? ⟨bk, o + k * 2, none⟩ = some (.int .u64 (r : Int)) := c0
      replace c1 : wr.cell? ⟨bk, o + k * 2 + 1, none⟩ = some (.int .i64 (e : Int)) := c1
      have HR : Hid ((pf (q - 1))[k]? = some r) := by unfold Hid; rw [HQ1.out]; exact hr
      have hEv : EMap (wr.alloc (.cells #[.int .u64 (r : Int), .int .i64 (e : Int)] 33)) b T := EMap.below HE.out (below_alloc _ _)
      have hPv : PowsAt (wr.alloc (.cells #[.int .u64 (r : Int), .int .i64 (e : Int)] 33)) (some ⟨bk, o, none⟩) C (facOf q1) := PowsAt.below HP.out (below_alloc _ _)
      have hGv : w.grownBy (wr.alloc (.cells #[.int .u64 (r : Int), .int .i64 (e : Int)] 33)) (some b) := hG.trans (World.grownBy_alloc _ _ _)
      obtain ⟨t0, t1⟩ := tcells wr (.int .u64 (r : Int)) (.int .i64 (e : Int)) 33
      obtain ⟨V, hV⟩ : ∃ V, wr.alloc (.cells #[.int .u64 (r : Int), .int .i64 (e : Int)] 33) = V := ⟨_, rfl⟩
      rw [hV] at hEv hPv hGv t0 t1
      have HEv : Hid (EMap V b T) := hEv
      have HPv : Hid (PowsAt V (some ⟨bk, o, none⟩) C (facOf q1)) := hPv
      have hmv := hEv.isMap
      clear hr pr dr hf he hEv hPv HE HP hG
      go_wp2_with (go_at_call 29; refine EnterAns.use HA HEv.out fun w5 T' hp hE5 hg5 => ?_; refine Hid.out ?_)
      unfold Hid
      have HI5 : Hid (LInv q S (k + 1) T') := HI.out.step h3 HR.out hp
      have HE5 : Hid (EMap w5 b T') := hE5
      have HP5 : Hid (PowsAt w5 (some ⟨bk, o, none⟩) C (facOf q1)) := pows_kept HPv.out hg5 (fun b' e => by cases e; exact hmv)
      have hG5 : w.grownBy w5 (some b) := hGv.trans hg5
      clear hp hE5 hg5 hGv hmv HEv HPv t0 t1 c0 c1 HI
      go_wp2
      go_roundw
      case rel => exact ⟨k + 1, T', by go_num, by omega, HI5, HE5, HP5, hG5⟩
      case measure => simp [intOf]; omega
    · obtain rfl : k = L := by omega
      have hpost := HI.out.post h3 (by rw [HQ1.out, ← facOf_len, HL.out]; exact Nat.le_refl _)
      have HPo : Hid (EnterPost q S T) := hpost
      clear hpost HI
      go_wp2
      go_end0
      exact ⟨rfl, T, HPo.out, HE.out, hG⟩
/-- enter, of every prime up to 2^16. -/
theorem enter_any : ∀ q, Prm q → q ≤ 65536 → EnterAns q := by
  intro q
  induction q using Nat.strongRecOn with
  | ind q ih =>
    intro hp h6 w b S hE
    by_cases hS : S q
    · exact enter_met q h6 w b S hE hS
    · by_cases h2 : q = 2
      · subst h2; exact enter_two w b S hE hS
      · have := hp.1
        exact enter_walk q ⟨hp, by omega, h6⟩ (fun r pr hr => ih r hr pr (by omega)) w b S hE hS
end Go.Proofs.Ytafmmkhegkceiaa

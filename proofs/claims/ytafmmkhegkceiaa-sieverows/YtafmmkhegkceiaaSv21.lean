/-
  The contract of the document's Row (layer 5): the same entries.
-/
import Derived.Test.YtafmmkhegkceiaaSv18
import Derived.Laws.AppendOwnNone
namespace Go.Proofs.Ytafmmkhegkceiaa
set_option linter.unusedVariables false
open Go.RowKit

/-! ### The row from above -/
noncomputable def upL (p q : Nat) : List Nat := (rowL p).filter fun x => decide (q < x)
theorem mem_upL {p q x : Nat} (hp : Odd16 p) : x ∈ upL p q ↔ Cl p x ∧ q < x := by
  unfold upL; rw [List.mem_filter, mem_rowL hp, decide_eq_true_iff]
theorem upL_sorted (p q : Nat) : (upL p q).Pairwise (· < ·) := List.Pairwise.filter _ (rowL_sorted p)
theorem upL_start {p : Nat} (hp : Odd16 p) : upL p p = [] := by
  refine sorted_ext (upL_sorted p p) List.Pairwise.nil fun x => ?_
  rw [mem_upL hp]
  constructor
  · rintro ⟨a, b⟩; have := (a.odd hp).2; omega
  · intro h; simp at h
theorem upL_no {p j : Nat} (hp : Odd16 p) (h : ¬ Cl p (j + 1)) : upL p j = upL p (j + 1) := by
  refine sorted_ext (upL_sorted _ _) (upL_sorted _ _) fun x => ?_
  rw [mem_upL hp, mem_upL hp]
  constructor
  · rintro ⟨a, b⟩
    have : x ≠ j + 1 := fun e => h (e ▸ a)
    exact ⟨a, by omega⟩
  · rintro ⟨a, b⟩; exact ⟨a, by omega⟩
theorem upL_yes {p j : Nat} (hp : Odd16 p) (h : Cl p (j + 1)) : upL p j = (j + 1) :: upL p (j + 1) := by
  refine sorted_ext (upL_sorted _ _) ?_ fun x => ?_
  · rw [List.pairwise_cons]
    exact ⟨fun x hx => ((mem_upL hp).1 hx).2, upL_sorted _ _⟩
  · rw [List.mem_cons, mem_upL hp, mem_upL hp]
    constructor
    · rintro ⟨a, b⟩
      by_cases e : x = j + 1
      · exact Or.inl e
      · exact Or.inr ⟨a, by omega⟩
    · rintro (rfl | ⟨a, b⟩)
      · exact ⟨h, by omega⟩
      · exact ⟨a, by omega⟩
theorem upL_two {p : Nat} (hp : Odd16 p) : upL p 2 = rowL p := by
  refine sorted_ext (upL_sorted _ _) (rowL_sorted _) fun x => ?_
  rw [mem_upL hp, mem_rowL hp]
  exact ⟨fun h => h.1, fun h => ⟨h, by have := (h.odd hp).1.2.1; omega⟩⟩
theorem upL_len {p q : Nat} : (upL p q).length ≤ (rowL p).length := List.length_filter_le _ _

/-! ### What is needed -/
def NInv (p q : Nat) (c : Nat → Bool) : Prop := ∀ x, x ≤ 65536 → (c x = true ↔ (x = p ∨ ∃ r, Cl p r ∧ q < r ∧ Prm x ∧ x ∣ r - 1))
def NIn (p q k : Nat) (c : Nat → Bool) : Prop := ∀ x, x ≤ 65536 → (c x = true ↔ (x = p ∨ ∃ r, Cl p r ∧ q < r ∧ Prm x ∧ x ∣ r - 1) ∨ ∃ i, i < k ∧ (pf (q - 1))[i]? = some x)
theorem NInv.start {p : Nat} (hp : Odd16 p) : NInv p p (crossed (fun _ => false) p) := fun x hx => by
  unfold crossed
  by_cases e : x = p
  · rw [if_pos e]; exact ⟨fun _ => Or.inl e, fun _ => rfl⟩
  · rw [if_neg e]
    constructor
    · intro h; cases h
    · rintro (h | ⟨r, a, b, _⟩)
      · exact absurd h e
      · have := (a.odd hp).2; omega
theorem NInv.at {p q : Nat} {c : Nat → Bool} (hp : Odd16 p) (h : NInv p q c) (hq : 2 < q) (h6 : q ≤ 65536) : c q = true ↔ Cl p q := by
  rw [h q h6]
  constructor
  · rintro (rfl | ⟨r, a, b, d, e⟩)
    · exact Cl.self
    · exact Cl.step a d (by omega) e
  · intro hc
    rcases hc.last with rfl | ⟨r, a, b, d, e⟩
    · exact Or.inl rfl
    · have h3 := (a.odd hp).1.2.1
      have := Nat.le_of_dvd (by omega) e
      exact Or.inr ⟨_, a, by omega, b, e⟩
theorem NInv.skip {p j : Nat} {c : Nat → Bool} (h : NInv p (j + 1) c) (hn : ¬ Cl p (j + 1)) : NInv p j c := fun x hx => by
  rw [h x hx]
  constructor
  · rintro (a | ⟨r, a, b, d⟩)
    · exact Or.inl a
    · exact Or.inr ⟨r, a, by omega, d⟩
  · rintro (a | ⟨r, a, b, d⟩)
    · exact Or.inl a
    · have : r ≠ j + 1 := fun e => hn (e ▸ a)
      exact Or.inr ⟨r, a, by omega, d⟩
theorem NInv.inn {p q : Nat} {c : Nat → Bool} (h : NInv p q c) : NIn p q 0 c := fun x hx => by
  rw [h x hx]
  exact ⟨Or.inl, fun h => h.resolve_right fun ⟨i, hi, _⟩ => by omega⟩
theorem NIn.step {p q k r : Nat} {c : Nat → Bool} (h : NIn p q k c) (hr : (pf (q - 1))[k]? = some r) : NIn p q (k + 1) (crossed c r) := fun x hx => by
  unfold crossed
  by_cases e : x = r
  · rw [if_pos e]
    exact ⟨fun _ => Or.inr ⟨k, by omega, e ▸ hr⟩, fun _ => rfl⟩
  · rw [if_neg e, h x hx]
    constructor
    · rintro (a | ⟨i, a, b⟩)
      · exact Or.inl a
      · exact Or.inr ⟨i, by omega, b⟩
    · rintro (a | ⟨i, a, b⟩)
      · exact Or.inl a
      · by_cases hi : i = k
        · subst hi; rw [hr] at b; cases b; exact absurd rfl e
        · exact Or.inr ⟨i, by omega, b⟩
theorem NIn.done {p j k : Nat} {c : Nat → Bool} (h : NIn p (j + 1) k c) (hc : Cl p (j + 1)) (hj : 1 ≤ j) (hk : (pf (j + 1 - 1)).length ≤ k) : NInv p j c := fun x hx => by
  rw [h x hx]
  constructor
  · rintro ((a | ⟨r, a, b, d⟩) | ⟨i, _, b⟩)
    · exact Or.inl a
    · exact Or.inr ⟨r, a, by omega, d⟩
    · obtain ⟨d, e⟩ := (mem_pf (show 1 ≤ j + 1 - 1 by omega)).1 (List.mem_of_getElem? b)
      exact Or.inr ⟨j + 1, hc, by omega, d, e⟩
  · rintro (a | ⟨r, a, b, d, e⟩)
    · exact Or.inl (Or.inl a)
    · by_cases hr : r = j + 1
      · subst hr
        obtain ⟨i, hi, rfl⟩ := List.getElem_of_mem ((mem_pf (show 1 ≤ j + 1 - 1 by omega)).2 ⟨d, e⟩)
        exact Or.inr ⟨i, by omega, List.getElem?_eq_getElem hi⟩
      · exact Or.inl (Or.inr ⟨r, a, by omega, d, e⟩)

/-! ### In memory -/
/-- The entries of a list lie in a row of the call's own, their factors anywhere. -/
def ERowB (w : World) (base : Nat) (v : Value) (l : List Nat) : Prop := ∃ xs, w.ownsRow base 47 3 v l.length xs ∧ ∀ i q, l[i]? = some q → ∃ A C, xs[i * 3]? = some (.int .u64 (q : Int)) ∧ xs[i * 3 + 1]? = some (.int .u64 (genOf q : Int)) ∧ xs[i * 3 + 2]? = some (.slice A (lenF q) C) ∧ PowsAt w A C (facOf (q - 1))
theorem pows_set {w : World} {A : Option Addr} {C : Nat} {l : List Pw} (h : PowsAt w A C l) {base gn n : Nat} {c : Nat → Bool} (hr : w.ownsRow base 4 1 (.slice (some ⟨gn, 0, none⟩) n n) n (rowB n c)) (j : Nat) (u : Value) : PowsAt (w.setCell ⟨gn, j, none⟩ u) A C l := by
  refine ⟨h.cap, h.max, fun i f hf => ?_⟩
  obtain ⟨b, o, hA, hl, c0, c1, k⟩ := h.get i f hf
  have hne : b ≠ gn := by
    intro e
    subst e
    rcases hr.2 with ⟨h', _⟩ | ⟨g', cap', cur, h', _, hg, hn, _, hs, ht⟩
    · simp at h'
    · simp only [Value.slice.injEq, Option.some.injEq, Addr.mk.injEq, and_true, true_and] at h'
      obtain ⟨rfl, rfl⟩ := h'
      rw [cell_of_row w b _ cur _ _ hg] at c0
      have hcur : cur.toList = rowB n c := by
        rw [← ht, List.take_of_length_le (by rw [Array.length_toList]; omega)]
      have hlt : o + i * 2 < n := by
        have := (Array.getElem?_eq_some_iff.1 c0).1; omega
      have hx : cur.toList[o + i * 2]? = some (.int .u64 (f.q : Int)) := by simpa using c0
      rw [hcur, rowB_get hlt] at hx
      simp at hx
  refine ⟨b, o, hA, by simpa [World.setCell] using hl, ?_, ?_, k⟩
  · rw [World.cell?_of_block (w := w) (a := ⟨b, o + i * 2, none⟩) (Below.heap_setCell w ⟨gn, j, none⟩ u b hne)]; exact c0
  · rw [World.cell?_of_block (w := w) (a := ⟨b, o + i * 2 + 1, none⟩) (Below.heap_setCell w ⟨gn, j, none⟩ u b hne)]; exact c1
theorem ERowB.below {w w' : World} {base : Nat} {v : Value} {l : List Nat} (h : ERowB w base v l) (hb : Below w.heap.size w w') : ERowB w' base v l := by
  obtain ⟨xs, h1, h2⟩ := h
  refine ⟨xs, owns_below h1 hb (Nat.le_refl _), fun i q hq => ?_⟩
  obtain ⟨A, C, a, b, c, d⟩ := h2 i q hq
  exact ⟨A, C, a, b, c, d.below hb⟩
theorem ERowB.set {w : World} {base : Nat} {v : Value} {l : List Nat} (h : ERowB w base v l) {gn n : Nat} {c : Nat → Bool} (hr : w.ownsRow base 4 1 (.slice (some ⟨gn, 0, none⟩) n n) n (rowB n c)) (j : Nat) (u : Value) : ERowB (w.setCell ⟨gn, j, none⟩ u) base v l := by
  obtain ⟨xs, h1, h2⟩ := h
  obtain ⟨_, hg⟩ := World.ownsRow.stored hr j u
  refine ⟨xs, World.ownsRow.kept h1 hg (owns_apart h1 hr (by decide)), fun i q hq => ?_⟩
  obtain ⟨A, C, a, b, c, d⟩ := h2 i q hq
  exact ⟨A, C, a, b, c, pows_set d hr j u⟩
theorem erow_one {xs : List Value} {l : List Nat} (hl : xs.length = l.length * 3) (h : ∀ i q, l[i]? = some q → ∃ (A : Option Addr) (C : Nat), xs[i * 3]? = some (.int .u64 (q : Int)) ∧ xs[i * 3 + 1]? = some (.int .u64 (genOf q : Int)) ∧ xs[i * 3 + 2]? = some (.slice A (lenF q) C)) : ∀ u ∈ xs, u.oneCell' = true := by
  intro u hu
  obtain ⟨j, hj, rfl⟩ := List.getElem_of_mem hu
  have hi : j / 3 < l.length := by omega
  obtain ⟨A, C, a, b, c⟩ := h (j / 3) _ (List.getElem?_eq_getElem hi)
  have hx := List.getElem?_eq_getElem hj
  rcases (show j = j / 3 * 3 ∨ j = j / 3 * 3 + 1 ∨ j = j / 3 * 3 + 2 by omega) with e | e | e
  · rw [← e, hx] at a; rw [Option.some.inj a]; rfl
  · rw [← e, hx] at b; rw [Option.some.inj b]; rfl
  · rw [← e, hx] at c; rw [Option.some.inj c]; rfl
theorem ERowB.cons {w w' : World} {base q : Nat} {v' : Value} {xs : List Value} {l : List Nat} {A : Option Addr} {C : Nat} (hl : xs.length = l.length * 3) (h : ∀ i q, l[i]? = some q → ∃ A C, xs[i * 3]? = some (.int .u64 (q : Int)) ∧ xs[i * 3 + 1]? = some (.int .u64 (genOf q : Int)) ∧ xs[i * 3 + 2]? = some (.slice A (lenF q) C) ∧ PowsAt w A C (facOf (q - 1)))
    (hb : Below w.heap.size w w') (hP : PowsAt w A C (facOf (q - 1))) (hown : w'.ownsRow base 47 3 v' (1 + l.length) ([.int .u64 (q : Int), .int .u64 (genOf q : Int), .slice A (lenF q) C] ++ xs)) : ERowB w' base v' (q :: l) := by
  refine ⟨_, by rw [List.length_cons, Nat.add_comm]; exact hown, fun i x hx => ?_⟩
  match i, hx with
  | 0, hx => cases hx; exact ⟨A, C, rfl, rfl, rfl, hP.below hb⟩
  | i + 1, hx =>
    obtain ⟨A', C', a, b, c, d⟩ := h i x (by simpa using hx)
    refine ⟨A', C', ?_, ?_, ?_, d.below hb⟩
    · rw [show (i + 1) * 3 = i * 3 + 1 + 1 + 1 by omega]; simpa using a
    · rw [show (i + 1) * 3 + 1 = (i * 3 + 1) + 1 + 1 + 1 by omega]; simpa using b
    · rw [show (i + 1) * 3 + 2 = (i * 3 + 2) + 1 + 1 + 1 by omega]; simpa using c
theorem ERowB.to {w : World} {base : Nat} {v : Value} {l : List Nat} (h : ERowB w base v l) (ho : ∀ q ∈ l, Odd16 q) : ∃ A C, v = .slice A l.length C ∧ EntsAt w A C (l.map enOf) := by
  obtain ⟨xs, h1, h2⟩ := h
  exact ERowA.to ⟨xs, h1, fun i q _ hq => h2 i q hq⟩ (Below.refl _ _) ho
theorem infoRE : (Try.prog.info? 47).map (fun i => (i.zero, i.size, i.bytes)) = some (some (.agg #[.int .u64 0, .int .u64 0, .slice none 0 0]), 3, 40) := by kernel_rfl
/-- The document's Row of a prime. -/
def RRowAns (p : Nat) : Prop := ∀ w, Calls Try.prog 19 #[.int .u64 (p : Int)] w fun e w' => ∃ A C, e = .returned (.slice A (rowL p).length C) ∧ EntsAt w' A C (rowOf p) ∧ Below w.heap.size w w'
theorem RRowAns.use {p : Nat} (h : RRowAns p) {w : World} {R : Ending → World → Prop} (k : ∀ A C w', EntsAt w' A C (rowOf p) → Below w.heap.size w w' → R (.returned (.slice A (rowL p).length C)) w') : Calls Try.prog 19 #[.int .u64 (p : Int)] w R :=
  (h w).mono fun _ _ ⟨A, C, he, h1, h2⟩ => by subst he; exact k _ _ _ h1 h2
set_option maxRecDepth 100000 in
set_option maxHeartbeats 4000000 in
theorem rrow_walk (p : Nat) (ho : Odd16 p) : RRowAns p := by
  intro w
  have h3 := ho.2.1
  have h6 := ho.2.2
  have HO : Hid (Odd16 p) := ho
  obtain ⟨ib, hib, hzb, hsb, hbb⟩ := info_parts infoB
  obtain ⟨i1, hi1, hz1, hs1, hb1⟩ := info_parts infoRE
  clear ho
  go_enter Try.func19, Try.ntmps19
  go_wp2_with (at_make; refine Hid.out ?_)
  unfold Hid
  refine wpList_make_full _ rfl _ _ 52 rfl w.heap.size 4 ib _ 1 Try.underlying52 hib hzb hsb .i64 .i64 65537 65537 65537 rfl rfl rfl rfl (by rw [hbb]; omega) (by unfold maxLen; omega) (Nat.le_refl _) ?_
  intro w1 hR hG1
  obtain ⟨gn, hgn⟩ : ∃ gn, w.heap.size = gn := ⟨_, rfl⟩
  obtain ⟨N, hN⟩ : ∃ N, (65537 : Nat) = N := ⟨_, rfl⟩
  have hR1 : w1.ownsRow w.heap.size 4 1 (.slice (some ⟨gn, 0, none⟩) N N) N (rowB N fun _ => false) := by
    have e : (madeCells (Value.bool false).cells (N * 1)).toList = rowB N fun _ => false := by
      rw [Nat.mul_one, show (Value.bool false).cells = #[.bool false] from rfl, toList_madeCells_one]
      apply List.ext_getElem?
      intro m
      by_cases hm : m < N
      · rw [rowB_get hm, List.getElem?_replicate, if_pos hm]
      · rw [List.getElem?_eq_none (by simp; omega), List.getElem?_eq_none (by simp [rowB]; omega)]
    rw [← e, ← hgn, ← hN]; exact hR
  have hB1 : Below w.heap.size w w1 := (Below.refl _ _).grown hG1 (Nat.le_refl _) (fun k ek => by cases ek)
  have HGN : Hid (w.heap.size = gn) := hgn
  have HN : Hid ((65537 : Nat) = N) := hN
  have hNp : p < N := by omega
  have hNi : (N : Int) ≤ 9223372036854775807 := by omega
  obtain ⟨hR2, hG2⟩ := World.ownsRow.stored hR1 p (.bool true)
  rw [rowB_set] at hR2
  have hB2 : Below w.heap.size w (w1.setCell ⟨gn, p, none⟩ (.bool true)) := hB1.setCell (p := ⟨gn, p, none⟩) (by rw [hgn]; exact Nat.le_refl _) _
  have cp : w1.cell? ⟨gn, p, none⟩ = some (.bool false) := (World.ownsRow.cellAt hR1 p (by omega)).trans (rowB_get hNp)
  have fp : w1.frozen? ⟨gn, p, none⟩ = false := World.ownsRow.frozenAt hR1 p
  have HR2 : Hid ((w1.setCell ⟨gn, p, none⟩ (.bool true)).ownsRow w.heap.size 4 1 (.slice (some ⟨gn, 0, none⟩) N N) N (rowB N (crossed (fun _ => false) p))) := hR2
  rw [hgn, hN]
  clear hR hR1 hR2 hG1 hG2 hgn hN hB1
  go_wp2
  go_loopw [4, 5] (fun out v wr => ∃ (q : Nat) (c : Nat → Bool), v = .int .u64 (q : Int) ∧ 2 ≤ q ∧ q ≤ p ∧ Hid (NInv p q c) ∧ Hid (ERowB wr w.heap.size out (upL p q)) ∧ Hid (wr.ownsRow w.heap.size 4 1 (.slice (some ⟨gn, 0, none⟩) N N) N (rowB N c)) ∧ Below w.heap.size w wr) (fun _ v _ => (intOf v).toNat)
  case atStart => exact ⟨p, _, rfl, by omega, by omega, NInv.start HO.out, ⟨[], by rw [upL_start HO.out]; exact World.ownsRow_nil _ _ _ _, fun i q hq => by rw [upL_start HO.out] at hq; simp at hq⟩, HR2, hB2⟩
  case round =>
    clear HR2 hB2 cp fp
    obtain ⟨q, c, rfl, hq2, hqp, HI, HE, HB, hB⟩ := hrel
    by_cases hgt : 2 < q
    · obtain ⟨j, rfl⟩ : ∃ j, q = j + 1 := ⟨q - 1, by omega⟩
      have hat := HI.out.at HO.out hgt (by omega)
      obtain ⟨q, hqj⟩ : ∃ q, j + 1 = q := ⟨_, rfl⟩
      have HQJ : Hid (j + 1 = q) := hqj
      rw [hqj] at hat hqp hgt ⊢
      have hqN : q < N := by omega
      have hcq : wr.cell? ⟨gn, q, none⟩ = some (.bool (c q)) := (World.ownsRow.cellAt HB.out q (by omega)).trans (rowB_get hqN)
      have hj1 : (q : Int) - 1 = (j : Int) := by omega
      have hgt' : 2 < (q : Int) := by omega
      cases hc : c q with
      | false =>
        rw [hc] at hcq
        have hn : ¬ Cl p q := fun h => by rw [hat.2 h] at hc; cases hc
        have HI2 : Hid (NInv p j c) := HI.out.skip (by rw [hqj]; exact hn)
        have HE2 : Hid (ERowB wr w.heap.size u4 (upL p j)) := by unfold Hid; rw [upL_no HO.out (by rw [hqj]; exact hn)]; exact HE.out
        clear hat hc hn HI HE hqj
        go_wp2
        go_roundw
        case rel => exact ⟨j, c, by go_num, by omega, by omega, HI2, HE2, HB, hB⟩
        case measure => simp [intOf]; omega
      | true =>
        rw [hc] at hcq
        have HCl : Hid (Cl p q) := hat.1 hc
        have hodd := (HCl.out.odd HO.out).1
        have HI2 : Hid (NIn p q 0 c) := by unfold Hid; rw [← hqj]; exact HI.out.inn
        have HEq : Hid (ERowB wr w.heap.size u4 (upL p q)) := by unfold Hid; rw [← hqj]; exact HE.out
        have HF := rfactor_any j (by omega)
        rw [facS_in (by omega) (by omega)] at HF
        have HG := rgen_any q (by omega)
        obtain ⟨L, hL⟩ : ∃ L, (facOf j).length = L := ⟨_, rfl⟩
        have HL : Hid ((facOf j).length = L) := hL
        have hpl : L ≤ 11 := by rw [← hL, facOf_len]; exact pf_few (by omega) (by omega)
        have HLf : Hid (lenF q = L) := by unfold Hid lenF; rw [← hqj, Nat.add_sub_cancel]; exact hL
        obtain ⟨G, hG⟩ : ∃ G, genOf q = G := ⟨_, rfl⟩
        rw [hG] at HG
        have HGd : Hid (genOf q = G) := hG
        clear hat hc HI HE hqj hodd hL hG
        go_wp2_with (go_at_call 12; with_reducible refine FacAns.use HF fun A C w3 hP3 hB3 => ?_; rw [HL.out]; refine Hid.out ?_)
        unfold Hid
        have HE3 : Hid (ERowB w3 w.heap.size u4 (upL p q)) := ERowB.below HEq.out hB3
        have HB3 : Hid (w3.ownsRow w.heap.size 4 1 (.slice (some ⟨gn, 0, none⟩) N N) N (rowB N c)) := owns_below HB.out hB3 (Nat.le_refl _)
        have HP3 : Hid (PowsAt w3 A C (facOf j)) := hP3
        have hBw3 : Below w.heap.size w w3 := bb hB hB3
        clear hP3 hB3 hB HEq HB HF hcq
        go_wp2
        go_loopw [28] (fun v wi => ∃ (k : Nat) (c : Nat → Bool), v = .int .i64 (k : Int) ∧ k ≤ L ∧ Hid (NIn p q k c) ∧ Hid (ERowB wi w.heap.size u4 (upL p q)) ∧ Hid (wi.ownsRow w.heap.size 4 1 (.slice (some ⟨gn, 0, none⟩) N N) N (rowB N c)) ∧ Hid (PowsAt wi A C (facOf j)) ∧ Below w.heap.size w wi) (fun v _ => L - (intOf v).toNat)
        case atStart => exact ⟨0, c, rfl, by omega, HI2, HE3, HB3, HP3, hBw3⟩
        case round =>
          clear HI2 HE3 HB3 HP3 hBw3
          obtain ⟨k, c, rfl, hk, HI, HE, HB, HP, hB⟩ := hrel
          by_cases hlt : k < L
          · obtain ⟨r, hr⟩ : ∃ r, (pf j)[k]? = some r := ⟨_, List.getElem?_eq_getElem (by rw [← facOf_len, HL.out]; exact hlt)⟩
            obtain ⟨pr, dr⟩ := (mem_pf (show 1 ≤ j by have := HQJ.out; omega)).1 (List.mem_of_getElem? hr)
            have hrl : r ≤ j := Nat.le_of_dvd (by have := HQJ.out; omega) dr
            have hrN : r < N := by have := HQJ.out; omega
            have hf := facOf_get hr
            obtain ⟨e, he⟩ : ∃ e, vp r j = e := ⟨_, rfl⟩
            rw [he] at hf
            obtain ⟨bk, o, hA, hbl, c0, c1, _⟩ := HP.out.get k _ hf
            subst hA
            replace c0 : wr.cell? ⟨bk, o + k * 2, none⟩ = some (.int .u64 (r : Int)) := c0
            replace c1 : wr.cell? ⟨bk, o + k * 2 + 1, none⟩ = some (.int .i64 (e : Int)) := c1
            have HI2 : Hid (NIn p q (k + 1) (crossed c r)) := HI.out.step (by rw [← HQJ.out, Nat.add_sub_cancel]; exact hr)
            have hBa : Below wr.heap.size wr (wr.alloc (.cells #[.int .u64 (r : Int), .int .i64 (e : Int)] 34)) := below_alloc _ _
            obtain ⟨t0, t1⟩ := tcells wr (.int .u64 (r : Int)) (.int .i64 (e : Int)) 34
            obtain ⟨V, hV⟩ : ∃ V, wr.alloc (.cells #[.int .u64 (r : Int), .int .i64 (e : Int)] 34) = V := ⟨_, rfl⟩
            rw [hV] at hBa t0 t1
            have hEV := ERowB.below HE.out hBa
            have hBV := owns_below HB.out hBa (Nat.le_refl _)
            have hPV := PowsAt.below HP.out hBa
            have cr : V.cell? ⟨gn, r, none⟩ = some (.bool (c r)) := (World.ownsRow.cellAt hBV r (by omega)).trans (rowB_get hrN)
            have fr : V.frozen? ⟨gn, r, none⟩ = false := World.ownsRow.frozenAt hBV r
            obtain ⟨hR5, _⟩ := World.ownsRow.stored hBV r (.bool true)
            rw [rowB_set] at hR5
            have HB5 : Hid ((V.setCell ⟨gn, r, none⟩ (.bool true)).ownsRow w.heap.size 4 1 (.slice (some ⟨gn, 0, none⟩) N N) N (rowB N (crossed c r))) := hR5
            have HE5 : Hid (ERowB (V.setCell ⟨gn, r, none⟩ (.bool true)) w.heap.size u4 (upL p q)) := hEV.set hBV r _
            have HP5 : Hid (PowsAt (V.setCell ⟨gn, r, none⟩ (.bool true)) (some ⟨bk, o, none⟩) C (facOf j)) := pows_set hPV hBV r _
            have hB5 : Below w.heap.size w (V.setCell ⟨gn, r, none⟩ (.bool true)) := (bb hB hBa).setCell (p := ⟨gn, r, none⟩) (by rw [HGN.out]; exact Nat.le_refl _) _
            clear hr pr dr hf he hEV hBV hPV hR5 HI HE HB HP hB hBa
            go_wp2
            go_roundw
            case rel => exact ⟨k + 1, crossed c r, by go_num, by omega, HI2, HE5, HB5, HP5, hB5⟩
            case measure => simp [intOf]; omega
          · obtain rfl : k = L := by omega
            have HI2 : Hid (NInv p j c) := by
              have h1 := HI.out
              rw [← HQJ.out] at h1
              exact h1.done (by rw [HQJ.out]; exact HCl.out) (by have := HQJ.out; omega) (by rw [Nat.add_sub_cancel, ← facOf_len, HL.out]; exact Nat.le_refl _)
            have hup : upL p j = q :: upL p q := by
              have := upL_yes HO.out (j := j) (by rw [HQJ.out]; exact HCl.out)
              rw [HQJ.out] at this; exact this
            have HUP : Hid (upL p j = q :: upL p q) := hup
            obtain ⟨M, hM⟩ : ∃ M, (upL p q).length = M := ⟨_, rfl⟩
            have HMl : Hid ((upL p q).length = M) := hM
            have hM12 : M ≤ 65537 := by
              have h1 : (upL p q).length ≤ (rowL p).length := upL_len
              have h2 := List.length_filter_le (clB p) (List.range (p + 1))
              rw [List.length_range] at h2
              have h3 : (rowL p).length ≤ p + 1 := h2
              omega
            have hPq : PowsAt wr A C (facOf (q - 1)) := by rw [← HQJ.out, Nat.add_sub_cancel]; exact HP.out
            have HPq : Hid (PowsAt wr A C (facOf (q - 1))) := hPq
            clear HI hup hPq HP
            go_wp2_with (first
              | (go_at_call 15; with_reducible refine Ans.use HG _ fun n1 => ?_)
              | (at_builtin; refine Hid.out ?_))
            unfold Hid
            have hB0 : Below wr.heap.size wr (wr.drewN n1) := below_drewN _ _
            obtain ⟨xs, hO, hxs⟩ := ERowB.below HE.out hB0
            have hBneed := owns_below HB.out hB0 (Nat.le_refl _)
            have hP0 := PowsAt.below HPq.out hB0
            have hws : w.heap.size ≤ wr.heap.size := hB.size
            have hlit : ((wr.drewN n1).alloc (.cells #[.int .u64 (q : Int), .int .u64 (G : Int), .slice A k C] 47)).ownsRow w.heap.size 47 3 (.slice (some ⟨wr.heap.size, 0, none⟩) 1 1) 1 [.int .u64 (q : Int), .int .u64 (G : Int), .slice A k C] :=
              World.ownsRow_lit (wr.drewN n1) #[.int .u64 (q : Int), .int .u64 (G : Int), .slice A k C] 1 hws (by unfold maxLen; omega) rfl
            have hxl := hO.1
            have hO' := hO
            rw [HMl.out] at hO'
            rcases hO'.2 with ⟨hv, hM0⟩ | ⟨g, cap, cur, hv, _⟩
            · subst hv
              have hnil : upL p q = [] := List.eq_nil_of_length_eq_zero (by rw [HMl.out]; exact hM0)
              have hx0 : xs = [] := List.eq_nil_of_length_eq_zero (by rw [hxl, HMl.out, hM0])
              refine wpList_append_own_none rfl _ _ 42 rfl w.heap.size 47 i1 3 Try.underlying42 hi1 _ 1 _ rfl hlit rfl ?_
              have hb5 : Below (wr.drewN n1).heap.size (wr.drewN n1) ((wr.drewN n1).alloc (.cells #[.int .u64 (q : Int), .int .u64 (G : Int), .slice A k C] 47)) := below_alloc _ _
              have HE5 : Hid (ERowB ((wr.drewN n1).alloc (.cells #[.int .u64 (q : Int), .int .u64 (G : Int), .slice A k C] 47)) w.heap.size (.slice (some ⟨wr.heap.size, 0, none⟩) 1 1) (upL p j)) := by
                unfold Hid
                rw [HUP.out]
                refine ERowB.cons hxl hxs hb5 hP0 ?_
                rw [hnil, hx0, HGd.out, HLf.out]; exact hlit
              have HB5 : Hid (((wr.drewN n1).alloc (.cells #[.int .u64 (q : Int), .int .u64 (G : Int), .slice A k C] 47)).ownsRow w.heap.size 4 1 (.slice (some ⟨gn, 0, none⟩) N N) N (rowB N c)) := owns_below hBneed hb5 (Nat.le_refl _)
              have hB5 := bb hB (bb hB0 hb5)
              clear hO hO' hxs hxl hP0 hBneed hlit hb5 hB0 HE HB HPq
              go_wp2
              go_roundw
              case rel => exact ⟨j, c, by go_num, by have := HQJ.out; omega, by have := HQJ.out; omega, HI2, HE5, HB5, hB5⟩
              case measure => simp [intOf]; have := HQJ.out; omega
            · subst hv
              have hOa := World.ownsRow.alloc hO' (.cells #[.int .u64 (q : Int), .int .u64 (G : Int), .slice A k C] 47)
              have hone : ∀ u ∈ xs, u.oneCell' = true := erow_one hxl fun i x hx => by
                obtain ⟨A', C', a, b, d, _⟩ := hxs i x hx
                exact ⟨A', C', a, b, d⟩
              refine wpList_append_own _ rfl _ _ 42 rfl w.heap.size 47 i1 _ 3 40 Try.underlying42 hi1 hz1 hs1 hb1 rfl (by omega) _ 1 _ rfl hlit ⟨g, 0, none⟩ M cap xs rfl (by rw [hxl, HMl.out]) (World.ownsRow.cells hOa rfl) hone (by unfold maxLen; omega) (by omega) (by show w.heap.size ≤ ((wr.drewN n1).alloc _).heap.size; rw [World.size_alloc]; exact Nat.le_succ_of_le hws) ?_
              intro v' w5 hO5 hG5 _
              have hb5 : Below (wr.drewN n1).heap.size (wr.drewN n1) w5 := (below_alloc (wr.drewN n1) _).grown hG5 (by rw [World.size_alloc]; exact Nat.le_succ _) (fun m em => by cases em; exact Nat.le_refl _)
              have HE5 : Hid (ERowB w5 w.heap.size v' (upL p j)) := by
                unfold Hid
                rw [HUP.out]
                refine ERowB.cons hxl hxs hb5 hP0 ?_
                rw [HGd.out, HLf.out, HMl.out]; exact hO5
              have HB5 : Hid (w5.ownsRow w.heap.size 4 1 (.slice (some ⟨gn, 0, none⟩) N N) N (rowB N c)) := owns_below hBneed hb5 (Nat.le_refl _)
              have hB5 := bb hB (bb hB0 hb5)
              clear hO hO' hOa hxs hxl hP0 hBneed hlit hb5 hB0 HE HB HPq hO5 hG5 hone
              go_wp2
              go_roundw
              case rel => exact ⟨j, c, by go_num, by have := HQJ.out; omega, by have := HQJ.out; omega, HI2, HE5, HB5, hB5⟩
              case measure => simp [intOf]; have := HQJ.out; omega
    · obtain rfl : q = 2 := by omega
      have hE := HE.out
      rw [upL_two HO.out] at hE
      obtain ⟨A, C, hv, hEA⟩ := hE.to (fun q hq => (((mem_rowL HO.out).1 hq).odd HO.out).1)
      subst hv
      clear hE HE HI HB
      go_wp2
      go_ret
      exact ⟨A, C, rfl, hEA, hB⟩
end Go.Proofs.Ytafmmkhegkceiaa

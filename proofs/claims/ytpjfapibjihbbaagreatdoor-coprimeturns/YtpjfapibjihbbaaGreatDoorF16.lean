/-
  Rows of entries whose factors lie elsewhere, grown by append: no cell of such a row is an int, so nothing that holds factors lies in it.
-/
import Derived.Test.YtpjfapibjihbbaaGreatDoorF8
import Derived.Test.YtpjfapibjihbbaaGreatDoorF15
namespace Go.Proofs.YtpjfapibjihbbaaGreatDoor
set_option linter.unusedVariables false
open Go.RowKit

def NoI (u : Value) : Prop := ∀ e, u ≠ .int .i64 e
/-- No cell of the row's block is an int. -/
def RowNo (w : World) (v : Value) : Prop := ∀ g, v.ownBlock = some g → ∃ cur k, w.heap[g]? = some (.cells cur 78 k) ∧ ∀ u ∈ cur.toList, NoI u
theorem RowNo.nil (w : World) : RowNo w (.slice none 0 0) := fun g h => by simp [Value.ownBlock] at h
theorem RowNo.below {w w' : World} {v : Value} (h : RowNo w v) (hb : Below w.heap.size w w') : RowNo w' v := fun g hg => by
  obtain ⟨cur, k, h1, h2⟩ := h g hg
  exact ⟨cur, k, (hb.block g (Array.getElem?_eq_some_iff.1 h1).1).trans h1, h2⟩
theorem noI_zero (n : Nat) : ∀ u ∈ (Builtin.zeroCells (Value.agg #[.int .u64 0, .int .u64 0, .slice none 0 0]).cells n).toList, NoI u := by
  intro u hu
  simp only [Builtin.zeroCells, Value.cells] at hu
  simp at hu
  obtain ⟨a, _, rfl⟩ := hu
  rcases (show a % 3 = 0 ∨ a % 3 = 1 ∨ a % 3 = 2 by omega) with e | e | e <;> rw [e] <;> intro k h <;> cases h
theorem wpList_append_no {ops : Array Oper} {rest : List Oper} {o : Oper} {a : Act} {Q : Exit → Act → World → Prop} (w : World) (hgd : o.guard = none) (s x : Operand)
    (ho : o.op = .call { callee := .builtin .append, args := #[s, x], argTypes := #[48, 48] })
    (base : Nat) (v : Value) (n : Nat) (xs : List Value) (hs : a.eval s = v) (hown : w.ownsRow base 78 3 v n xs)
    (ad : Addr) (m c : Nat) (news : List Value) (hx : a.eval x = .slice (some ad) m c) (hl : news.length = m * 3) (hnews : ∀ j u, news[j]? = some u → w.cell? (ad.add j) = some u) (h1 : ∀ u ∈ news, u.oneCell' = true)
    (h63 : n + m ≤ maxLen) (hbytes : (n + m) * 40 ≤ 140737488355328) (hbase : base ≤ w.heap.size) (hm : 0 < m) (hno : RowNo w v) (hnn : ∀ u ∈ news, NoI u)
    (h : ∀ v' w', w'.ownsRow base 78 3 v' (n + m) (xs ++ news) → w.grownBy w' v.ownBlock → RowNo w' v' → wpList Tryz.prog ops Q rest (a.put o.dst v') w') : wpList Tryz.prog ops Q (o :: rest) a w := by
  refine wpList_plain hgd fun K hK => ?_
  obtain ⟨i, hi, hz, hsz, hby⟩ := info_parts infoEn
  obtain ⟨v', w', hr, h2, h3, _⟩ := run_append_own (P := Tryz.prog) w base 48 o.type 78 i _ 3 40 Tryz.underlying48 hi hz hsz hby rfl (by omega) v n xs hown ad m c news hl hnews h1 h63 hbytes hbase
  have hno' : RowNo w' v' := by
    have hxno : ∀ u ∈ xs, NoI u := by
      intro u hu
      rcases hown.2 with ⟨rfl, rfl⟩ | ⟨g, cap, cur, rfl, _, hg, _, _, _, ht⟩
      · have : xs = [] := List.eq_nil_of_length_eq_zero (by simpa using hown.1)
        subst this; cases hu
      · obtain ⟨cur', k, e1, e2⟩ := hno g rfl
        rw [hg] at e1
        cases e1
        rw [← ht] at hu
        exact e2 u (List.mem_of_mem_take hu)
    have e63 : n + m ≤ 9223372036854775807 := by simp only [maxLen] at h63; omega
    rcases hown.2 with ⟨rfl, rfl⟩ | ⟨g, cap, cur, rfl, hbg, hg, hnc, hcm, hcs, htake⟩
    · have hr2 := run_append_nil (P := Tryz.prog) w 48 o.type 78 i _ Tryz.underlying48 hi hz ad m c news (by rw [hsz]; exact hl) hnews hm (by omega) (by rw [hby]; omega)
      rw [hr] at hr2
      cases hr2
      intro g hg
      simp only [Value.ownBlock, Option.some.injEq] at hg
      subst hg
      refine ⟨_, _, heap_alloc_new w.drew _, fun u hu => ?_⟩
      simp only [Array.toList_append, List.mem_append] at hu
      rcases hu with hu | hu
      · exact hnn u hu
      · exact noI_zero _ u hu
    · by_cases hroom : n + m ≤ cap
      · have hfit : n * i.size + news.length ≤ cur.size := by rw [hsz, hl, hcs, ← Nat.add_mul]; exact Nat.mul_le_mul_right _ hroom
        have hr2 := run_append_room (P := Tryz.prog) w 48 o.type 78 i Tryz.underlying48 hi g n cap cur hg ad m c news (by rw [hsz]; exact hl) hnews h1 hroom hfit
        rw [hr] at hr2
        cases hr2
        intro g' hg'
        simp only [Value.ownBlock, Option.some.injEq] at hg'
        subst hg'
        obtain ⟨cur', k, e1, e2⟩ := hno g rfl
        rw [hg] at e1
        cases e1
        refine ⟨_, _, setRow_heap w g cur _ _ _ hg, fun u hu => ?_⟩
        simp only [List.mem_append] at hu
        rcases hu with (hu | hu) | hu
        · exact e2 u (List.mem_of_mem_take hu)
        · exact hnn u hu
        · exact e2 u (List.mem_of_mem_drop hu)
      · have holds : ∀ j u, xs[j]? = some u → w.cell? ((⟨g, 0, none⟩ : Addr).add j) = some u := hown.cells (g := g) rfl
        have hr2 := run_append_grow (P := Tryz.prog) w 48 o.type 78 i _ Tryz.underlying48 hi hz ⟨g, 0, none⟩ n cap xs (by rw [hsz]; exact hown.1) holds ad m c news (by rw [hsz]; exact hl) hnews (by omega) (by omega) (by rw [hby]; exact growslice_fits (by omega) hbytes)
        rw [hr] at hr2
        cases hr2
        intro g' hg'
        simp only [Value.ownBlock, Option.some.injEq] at hg'
        subst hg'
        refine ⟨_, _, heap_alloc_new w.drew _, fun u hu => ?_⟩
        simp only [Array.toList_append, List.mem_append] at hu
        rcases hu with (hu | hu) | hu
        · exact hxno u hu
        · exact hnn u hu
        · exact noI_zero _ u hu
  unfold Oper.wp execOp
  simp only [ho, resolve, invoke, builtin, Sem.run_bind, Sem.run_pure, Result.andThen_ok, List.map_toArray, List.map_cons, List.map_nil, hs, hx, hr]
  exact hK _ _ (h v' w' h2 h3 hno')

/-- Factors lie in no such row. -/
theorem pows_past {w w' : World} {A : Option Addr} {C : Nat} {fs : List Pw} {v : Value} (h : PowsAt w A C fs) (hno : RowNo w v) (hg : w.grownBy w' v.ownBlock) : PowsAt w' A C fs := by
  refine ⟨h.cap, h.max, fun i f hf => ?_⟩
  obtain ⟨b, o, hA, hl, c0, c1, k⟩ := h.get i f hf
  have hne : some b ≠ v.ownBlock := by
    intro e
    obtain ⟨cur, k, e1, e2⟩ := hno b e.symm
    have : w.cell? ⟨b, o + i * 2 + 1, none⟩ = cur[o + i * 2 + 1]? := by simp [World.cell?, e1]
    rw [this] at c1
    exact e2 _ (Array.mem_toList_iff.2 (Array.mem_of_getElem? c1)) _ rfl
  refine ⟨b, o, hA, Nat.lt_of_lt_of_le hl hg.size, ?_, ?_, k⟩
  · rw [World.cell?_of_block (a := ⟨b, o + i * 2, none⟩) (hg.block b hl hne)]; exact c0
  · rw [World.cell?_of_block (a := ⟨b, o + i * 2 + 1, none⟩) (hg.block b hl hne)]; exact c1

/-- The cells of a row of entries. -/
def ECells (w : World) (xs : List Value) (es : List En) : Prop := ∀ i x, es[i]? = some x → ∃ A C, xs[i * 3]? = some (.int .u64 (x.p : Int)) ∧ xs[i * 3 + 1]? = some (.int .u64 (x.g : Int)) ∧ xs[i * 3 + 2]? = some (.slice A x.fs.length C) ∧ PowsAt w A C x.fs ∧ x.p < 18446744073709551616 ∧ x.g < 18446744073709551616
def GRow (w : World) (base : Nat) (v : Value) (n : Nat) (es : List En) : Prop := n = es.length ∧ RowNo w v ∧ ∃ xs, w.ownsRow base 78 3 v n xs ∧ ECells w xs es
theorem GRow.nil (w : World) (base : Nat) : GRow w base (.slice none 0 0) 0 [] := ⟨rfl, RowNo.nil w, [], World.ownsRow_nil _ _ _ _, fun i x h => by simp at h⟩
theorem GRow.below {w w' : World} {base : Nat} {v : Value} {n : Nat} {es : List En} (h : GRow w base v n es) (hb : Below w.heap.size w w') : GRow w' base v n es := by
  obtain ⟨h0, h1, xs, h2, h3⟩ := h
  refine ⟨h0, h1.below hb, xs, owns_below h2 hb (Nat.le_refl _), fun i x hx => ?_⟩
  obtain ⟨A, C, a1, a2, a3, hP, a4⟩ := h3 i x hx
  exact ⟨A, C, a1, a2, a3, hP.below hb, a4⟩
theorem GRow.push {w w' : World} {base : Nat} {v v' : Value} {n m : Nat} {es fs : List En} {xs ys : List Value} (hn : n = es.length) (hm : m = fs.length) (hno : RowNo w v) (h2 : w.ownsRow base 78 3 v n xs) (h3 : ECells w xs es) (h4 : ECells w ys fs)
    (hO : w'.ownsRow base 78 3 v' (n + m) (xs ++ ys)) (hg : w.grownBy w' v.ownBlock) (hno' : RowNo w' v') : GRow w' base v' (n + m) (es ++ fs) := by
  refine ⟨by rw [List.length_append]; omega, hno', xs ++ ys, hO, fun i x hx => ?_⟩
  have hl := h2.1
  by_cases hi : i < es.length
  · rw [List.getElem?_append_left hi] at hx
    obtain ⟨A, C, a1, a2, a3, hP, a4⟩ := h3 i x hx
    exact ⟨A, C, by rw [List.getElem?_append_left (by omega)]; exact a1, by rw [List.getElem?_append_left (by omega)]; exact a2, by rw [List.getElem?_append_left (by omega)]; exact a3, pows_past hP hno hg, a4⟩
  · rw [List.getElem?_append_right (by omega)] at hx
    obtain ⟨A, C, a1, a2, a3, hP, a4⟩ := h4 _ x hx
    refine ⟨A, C, ?_, ?_, ?_, pows_past hP hno hg, a4⟩
    · rw [List.getElem?_append_right (by omega), hl, show i * 3 - n * 3 = (i - es.length) * 3 by omega]; exact a1
    · rw [List.getElem?_append_right (by omega), hl, show i * 3 + 1 - n * 3 = (i - es.length) * 3 + 1 by omega]; exact a2
    · rw [List.getElem?_append_right (by omega), hl, show i * 3 + 2 - n * 3 = (i - es.length) * 3 + 2 by omega]; exact a3
theorem GRow.to {w : World} {base : Nat} {v : Value} {n : Nat} {es : List En} (h : GRow w base v n es) : ∃ A C, v = .slice A n C ∧ EntsAt w A C es := by
  obtain ⟨h0, h1, xs, h2, h3⟩ := h
  rcases h2.2 with ⟨hv, hn⟩ | ⟨g, cap, cur, rfl, hb, hg, hc, hm, _⟩
  · refine ⟨none, 0, by rw [hv, hn], by omega, by unfold maxLen; omega, fun i x hx => ?_⟩
    have := (List.getElem?_eq_some_iff.1 hx).1; omega
  · refine ⟨_, _, rfl, by omega, hm, fun i x hx => ?_⟩
    have hi := (List.getElem?_eq_some_iff.1 hx).1
    obtain ⟨A, C, a1, a2, a3, hP, a4, a5⟩ := h3 i x hx
    refine ⟨g, 0, A, C, rfl, (Array.getElem?_eq_some_iff.1 hg).1, ?_, ?_, ?_, hP, a4, a5⟩
    · rw [Nat.zero_add, h2.cellAt (i * 3) (by omega)]; exact a1
    · rw [Nat.zero_add, h2.cellAt (i * 3 + 1) (by omega)]; exact a2
    · rw [Nat.zero_add, h2.cellAt (i * 3 + 2) (by omega)]; exact a3
/-- What is to be appended: the cells of a row that lies there. -/
theorem ents_cells {w : World} {A : Option Addr} {C : Nat} {es : List En} (h : EntsAt w A C es) (hne : 0 < es.length) : ∃ b o ys, A = some ⟨b, o, none⟩ ∧ ys.length = es.length * 3 ∧ (∀ j u, ys[j]? = some u → w.cell? ((⟨b, o, none⟩ : Addr).add j) = some u) ∧ (∀ u ∈ ys, u.oneCell' = true) ∧ (∀ u ∈ ys, NoI u) ∧ ECells w ys es := by
  obtain ⟨b, o, _, _, hA, _⟩ := h.get 0 _ (List.getElem?_eq_getElem hne)
  have each : ∀ i x, es[i]? = some x → ∃ A' C', w.cell? ⟨b, o + i * 3, none⟩ = some (.int .u64 (x.p : Int)) ∧ w.cell? ⟨b, o + i * 3 + 1, none⟩ = some (.int .u64 (x.g : Int)) ∧ w.cell? ⟨b, o + i * 3 + 2, none⟩ = some (.slice A' x.fs.length C') ∧ PowsAt w A' C' x.fs ∧ x.p < 18446744073709551616 ∧ x.g < 18446744073709551616 := by
    intro i x hx
    obtain ⟨b', o', A', C', hA', _, c0, c1, c2, r⟩ := h.get i x hx
    rw [hA] at hA'
    cases hA'
    exact ⟨A', C', c0, c1, c2, r⟩
  have at_ : ∀ j, j < es.length * 3 → ∃ u, w.cell? ⟨b, o + j, none⟩ = some u ∧ u.oneCell' = true ∧ NoI u := by
    intro j hj
    obtain ⟨x, hx⟩ : ∃ x, es[j / 3]? = some x := ⟨_, List.getElem?_eq_getElem (by omega)⟩
    obtain ⟨A', C', c0, c1, c2, _⟩ := each _ x hx
    rcases (show j % 3 = 0 ∨ j % 3 = 1 ∨ j % 3 = 2 by omega) with e | e | e
    · exact ⟨_, by rw [show o + j = o + j / 3 * 3 by omega]; exact c0, rfl, fun _ h => by cases h⟩
    · exact ⟨_, by rw [show o + j = o + j / 3 * 3 + 1 by omega]; exact c1, rfl, fun _ h => by cases h⟩
    · exact ⟨_, by rw [show o + j = o + j / 3 * 3 + 2 by omega]; exact c2, rfl, fun _ h => by cases h⟩
  have hget : ∀ j u, ((List.range (es.length * 3)).map fun j => (w.cell? ⟨b, o + j, none⟩).getD (.bool false))[j]? = some u → j < es.length * 3 ∧ w.cell? ⟨b, o + j, none⟩ = some u := by
    intro j u hu
    have hj : j < es.length * 3 := by simpa using (List.getElem?_eq_some_iff.1 hu).1
    rw [List.getElem?_map, List.getElem?_range hj] at hu
    obtain ⟨u', e, _⟩ := at_ j hj
    simp [e] at hu
    exact ⟨hj, by rw [e, hu]⟩
  have hput : ∀ j u, j < es.length * 3 → w.cell? ⟨b, o + j, none⟩ = some u → ((List.range (es.length * 3)).map fun j => (w.cell? ⟨b, o + j, none⟩).getD (.bool false))[j]? = some u := by
    intro j u hj hu
    rw [List.getElem?_map, List.getElem?_range hj]
    simp [hu]
  refine ⟨b, o, (List.range (es.length * 3)).map fun j => (w.cell? ⟨b, o + j, none⟩).getD (.bool false), hA, by simp, fun j u hu => ?_, fun u hu => ?_, fun u hu => ?_, fun i x hx => ?_⟩
  · rw [Addr.add_lit]; exact (hget j u hu).2
  · obtain ⟨j, hj, rfl⟩ := List.getElem_of_mem hu
    obtain ⟨a, e⟩ := hget j _ (List.getElem?_eq_getElem hj)
    obtain ⟨u', e', r, _⟩ := at_ j a
    rw [e] at e'; cases e'; exact r
  · obtain ⟨j, hj, rfl⟩ := List.getElem_of_mem hu
    obtain ⟨a, e⟩ := hget j _ (List.getElem?_eq_getElem hj)
    obtain ⟨u', e', _, r⟩ := at_ j a
    rw [e] at e'; cases e'; exact r
  · have hi := (List.getElem?_eq_some_iff.1 hx).1
    obtain ⟨A', C', c0, c1, c2, r⟩ := each i x hx
    exact ⟨A', C', hput _ _ (by omega) c0, hput _ _ (by omega) (by rw [← Nat.add_assoc]; exact c1), hput _ _ (by omega) (by rw [← Nat.add_assoc]; exact c2), r⟩
end Go.Proofs.YtpjfapibjihbbaaGreatDoor
/-
  The known primes: knownEntries, rowOf, Known; Small.
-/
namespace Go.Proofs.YtpjfapibjihbbaaGreatDoor
set_option linter.unusedVariables false
open Go.RowKit

/-- The rows of factors, one behind the other. -/
noncomputable def rowsTo (l : List Pw) : List En := l.flatMap fun f => rowOf f.q
theorem rowsTo_snoc (l : List Pw) (f : Pw) : rowsTo (l ++ [f]) = rowsTo l ++ rowOf f.q := by unfold rowsTo; simp
theorem rowsTo_few : ∀ {l : List Pw}, (∀ f ∈ l, Odd16 f.q) → l.length ≤ 4 → (rowsTo l).length ≤ 48 := by
  intro l ho hl
  have : (rowsTo l).length ≤ l.length * 12 := by
    clear hl
    induction l with
    | nil => simp [rowsTo]
    | cons f l ih =>
      have h1 := ih fun f hf => ho f (by simp [hf])
      have h2 := rowL_few (ho f (by simp))
      have h3 := row_len f.q
      show ((f :: l).flatMap fun f => rowOf f.q).length ≤ _
      rw [List.flatMap_cons, List.length_append, List.length_cons]
      have h4 : (l.flatMap fun f => rowOf f.q).length ≤ l.length * 12 := h1
      omega
  omega
def RowOfAns (W : World) (v : Value) (es : List En) : Prop := ∀ w, Below W.heap.size W w → Calls Tryz.prog 39 #[v] w fun e w' => ∃ A C, e = .returned (.slice A es.length C) ∧ EntsAt w' A C es ∧ Below w.heap.size w w'
theorem RowOfAns.use {W : World} {v : Value} {es : List En} (h : RowOfAns W v es) {w : World} (hw : Below W.heap.size W w) {R : Ending → World → Prop} (k : ∀ A C w', EntsAt w' A C es → Below w.heap.size w w' → R (.returned (.slice A es.length C)) w') : Calls Tryz.prog 39 #[v] w R :=
  (h w hw).mono fun _ _ ⟨A, C, he, h1, h2⟩ => by subst he; exact k A C _ h1 h2
set_option maxHeartbeats 4000000 in
theorem rowof_walk (W : World) (A : Option Addr) (C : Nat) (p g : Nat) (f0 : Pw) (l : List Pw) (hp : p < 18446744073709551616) (hg : g < 18446744073709551616) (hP : PowsAt W A C (f0 :: l)) (hl : l.length ≤ 3) (hl1 : 1 ≤ l.length) (ho : ∀ f ∈ l, Odd16 f.q) :
    RowOfAns W (.agg #[.int .u64 (p : Int), .int .u64 (g : Int), .slice A (l.length + 1) C]) (rowsTo l ++ [⟨p, g, f0 :: l⟩]) := by
  intro w hw
  have hcap := hP.cap
  have hmax := hP.max
  unfold maxLen at hmax
  simp only [List.length_cons] at hcap
  obtain ⟨b, o, rfl, hb, _, _, _⟩ := hP.get 0 f0 rfl
  have HPh : Hid (PowsAt W (some ⟨b, o, none⟩) C (f0 :: l)) := hP
  have HO : Hid (∀ f ∈ l, Odd16 f.q) := ho
  obtain ⟨L, hL⟩ : ∃ L, l.length = L := ⟨_, rfl⟩
  have HL : Hid (l.length = L) := hL
  rw [hL] at hl hl1 hcap ⊢
  clear hL ho hP
  have hC1 : ¬ C = 1 := by omega
  obtain ⟨t0, t1, t2⟩ := three_cells w (.int .u64 (p : Int)) (.int .u64 (g : Int)) (.slice (some ⟨b, o, none⟩) (L + 1) C) 78
  obtain ⟨V, hV⟩ : ∃ V, w.alloc (.cells #[.int .u64 (p : Int), .int .u64 (g : Int), .slice (some ⟨b, o, none⟩) (L + 1) C] 78) = V := ⟨_, rfl⟩
  have hBV : Below w.heap.size w V := hV ▸ below_alloc _ _
  obtain ⟨bo, hbo⟩ : ∃ bo, w.heap.size = bo := ⟨_, rfl⟩
  have hVs : bo < V.heap.size := by rw [← hV, ← hbo]; simp
  rw [hV, hbo] at t0 t1 t2
  obtain ⟨i2, hi2, hz2, hs2, hb2⟩ := info_parts infoEn
  go_enter Tryz.func39, Tryz.ntmps39
  go_wp2
  go_loopw [3, 12] (fun out v wr => ∃ k : Nat, v = .int .i64 (k : Int) ∧ k ≤ L ∧ Hid (GRow wr V.heap.size out (rowsTo (l.take k)).length (rowsTo (l.take k))) ∧ Below V.heap.size V wr) (fun _ v _ => L - (intOf v).toNat)
  case atStart => exact ⟨0, rfl, by omega, GRow.nil _ _, Below.refl _ _⟩
  case round =>
    obtain ⟨k, rfl, hk, HR, hB⟩ := hrel
    by_cases hlt : k < L
    · obtain ⟨f, hf⟩ : ∃ f, l[k]? = some f := ⟨_, List.getElem?_eq_getElem (by rw [HL.out]; exact hlt)⟩
      have hof := HO.out f (List.mem_of_getElem? hf)
      have HW := row_any f.q hof
      obtain ⟨b', o', hA, _, c0, c1, hfok⟩ := HPh.out.get (k + 1) f (by simpa using hf)
      cases hA
      have hBW : Below W.heap.size W wr := bb (bb hw hBV) hB
      have c0' := keep_cell hBW hb c0
      have c1' := keep_cell hBW hb c1
      rw [show o + (k + 1) * 2 = o + 2 + k * 2 by omega] at c0' c1'
      obtain ⟨q, hq⟩ : ∃ q, f.q = q := ⟨_, rfl⟩
      obtain ⟨e, he⟩ : ∃ e, f.e = e := ⟨_, rfl⟩
      have HQ : Hid (f.q = q) := hq
      have HF : Hid (l[k]? = some f) := hf
      rw [hq] at c0' HW hof
      rw [he] at c1'
      have HOf : Hid (Odd16 q) := hof
      clear c0 c1 hf hq he hof
      go_wp2_with (go_at_call 37; with_reducible refine RowAns.use HW fun A1 C1 w1 hE1 hb1 => ?_; refine Hid.out ?_)
      unfold Hid
      obtain ⟨kk, hkk, _, _⟩ := row_last HOf.out
      have hlen := row_len q
      have hl12 := rowL_few HOf.out
      obtain ⟨b1, o1, ys, rfl, hyl, hnews, hone, hno, hEC⟩ := ents_cells hE1 (by omega)
      have hBf : Below wr.heap.size wr w1 := bb (below_alloc wr (.cells #[.int .u64 (q : Int), .int .i64 e] 93)) hb1
      obtain ⟨_, hRn, xs, hO, hXC⟩ := HR.out.below hBf
      rw [hlen] at hyl
      obtain ⟨m, hm⟩ : ∃ m, (rowL q).length = m := ⟨_, rfl⟩
      have HM : Hid ((rowL q).length = m) := hm
      rw [hm] at hyl hl12 ⊢
      have hm1 : 0 < m := by omega
      obtain ⟨n, hn⟩ : ∃ n, (rowsTo (l.take k)).length = n := ⟨_, rfl⟩
      have HN : Hid ((rowsTo (l.take k)).length = n) := hn
      have hnb : n ≤ 48 := by rw [← hn]; exact rowsTo_few (fun f hf => HO.out f (List.mem_of_mem_take hf)) (by rw [List.length_take]; omega)
      rw [hn] at hO
      have hB1 : Below V.heap.size V w1 := bb hB hBf
      have HY : Hid (ECells w1 ys (rowOf q)) := hEC
      have HX : Hid (ECells w1 xs (rowsTo (l.take k))) := hXC
      have HRn : Hid (RowNo w1 u3) := hRn
      clear hm hn hEC hXC hRn HR hE1 hb1 hBf hkk hlen
      go_wp2_with (at_builtin; refine Hid.out ?_)
      unfold Hid
      refine wpList_append_no _ rfl _ _ rfl V.heap.size _ n xs rfl hO ⟨b1, o1, none⟩ m C1 ys rfl hyl hnews hone (by unfold maxLen; omega) (by omega) hB1.size hm1 HRn.out hno ?_
      intro v' w2 hO3 hG hno3
      have HG2 : Hid (GRow w2 V.heap.size v' (n + m) (rowsTo (l.take k) ++ rowOf q)) := GRow.push HN.out.symm (by rw [row_len]; exact HM.out.symm) HRn.out hO HX.out HY.out hO3 hG hno3
      have hB2 : Below V.heap.size V w2 := hB1.grown hG hB1.size (fun n hn => (hO.lt n hn).1)
      have HG3 : Hid (GRow w2 V.heap.size v' (rowsTo (l.take (k + 1))).length (rowsTo (l.take (k + 1)))) := by
        have e : rowsTo (l.take (k + 1)) = rowsTo (l.take k) ++ rowOf q := by
          rw [← HQ.out, ← rowsTo_snoc, List.take_add_one, HF.out]; rfl
        rw [e, List.length_append, HN.out, row_len, HM.out]; exact HG2.out
      clear hO3 hG hO hno3 hB1 hnews hone hno hyl HG2 HX HY HRn
      go_wp2
      go_roundw
      case rel => exact ⟨k + 1, by go_num, by omega, HG3, hB2⟩
      case measure => simp [intOf]; omega
    · obtain rfl : k = L := by omega
      have hR := HR.out
      rw [List.take_of_length_le (by rw [HL.out]; omega)] at hR
      obtain ⟨_, hRn, xs, hO, hXC⟩ := hR
      obtain ⟨n, hn⟩ : ∃ n, (rowsTo l).length = n := ⟨_, rfl⟩
      have HN : Hid ((rowsTo l).length = n) := hn
      have hnb : n ≤ 48 := by rw [← hn]; exact rowsTo_few HO.out (by rw [HL.out]; omega)
      rw [hn] at hO
      have e0 := keep_cell hB hVs t0
      have e1 := keep_cell hB hVs t1
      have e2 := keep_cell hB hVs t2
      have hnews := three_news wr (.int .u64 (p : Int)) (.int .u64 (g : Int)) (.slice (some ⟨b, o, none⟩) (k + 1) C) 78
      have hO2 := hO.alloc (.cells #[.int .u64 (p : Int), .int .u64 (g : Int), .slice (some ⟨b, o, none⟩) (k + 1) C] 78)
      have hal := below_alloc wr (.cells #[.int .u64 (p : Int), .int .u64 (g : Int), .slice (some ⟨b, o, none⟩) (k + 1) C] 78)
      have hBa := bb hB hal
      have HRn : Hid (RowNo (wr.alloc (.cells #[.int .u64 (p : Int), .int .u64 (g : Int), .slice (some ⟨b, o, none⟩) (k + 1) C] 78)) u3) := hRn.below hal
      have HX : Hid (ECells (wr.alloc (.cells #[.int .u64 (p : Int), .int .u64 (g : Int), .slice (some ⟨b, o, none⟩) (k + 1) C] 78)) xs (rowsTo l)) := fun i x hx => by
        obtain ⟨A, C, a1, a2, a3, hP, a4⟩ := hXC i x hx
        exact ⟨A, C, a1, a2, a3, hP.below hal, a4⟩
      have HY : Hid (ECells (wr.alloc (.cells #[.int .u64 (p : Int), .int .u64 (g : Int), .slice (some ⟨b, o, none⟩) (k + 1) C] 78)) [.int .u64 (p : Int), .int .u64 (g : Int), .slice (some ⟨b, o, none⟩) (k + 1) C] [⟨p, g, f0 :: l⟩]) := fun i x hx => by
        match i, hx with
        | 0, hx =>
          cases hx
          exact ⟨some ⟨b, o, none⟩, C, rfl, rfl, by show some _ = some _; rw [← HL.out]; rfl, HPh.out.below (bb (bb hw hBV) hBa), hp, hg⟩
        | i + 1, hx => simp at hx
      clear hn hXC hRn HR t0 t1 t2
      go_wp2_with (at_builtin; refine Hid.out ?_)
      unfold Hid
      refine wpList_append_no _ rfl _ _ rfl V.heap.size _ n xs rfl hO2 ⟨wr.heap.size, 0, none⟩ 1 1 [.int .u64 (p : Int), .int .u64 (g : Int), .slice (some ⟨b, o, none⟩) (k + 1) C] rfl rfl hnews (by simp [Value.oneCell']) (by unfold maxLen; omega) (by omega) hBa.size (by omega) HRn.out (by intro u hu; simp at hu; rcases hu with rfl | rfl | rfl <;> intro e h <;> cases h) ?_
      intro v' w2 hO3 hG hno3
      have hG2 : GRow w2 V.heap.size v' (n + 1) (rowsTo l ++ [⟨p, g, f0 :: l⟩]) := GRow.push HN.out.symm rfl HRn.out hO2 HX.out HY.out hO3 hG hno3
      have hB2 : Below V.heap.size V w2 := hBa.grown hG hBa.size (fun n hn => (hO2.lt n hn).1)
      have HLn : Hid (n + 1 = (rowsTo l ++ [(⟨p, g, f0 :: l⟩ : En)]).length) := hG2.1
      obtain ⟨A', C', rfl, hE'⟩ := hG2.to
      have HE : Hid (EntsAt w2 A' C' (rowsTo l ++ [⟨p, g, f0 :: l⟩])) := hE'
      clear hO3 hG hO2 hno3 hBa hnews HX HY HRn hG2 hE'
      go_wp2
      go_ret
      exact ⟨A', C', by rw [← HLn.out]; rfl, HE.out, bb hBV hB2⟩
end Go.Proofs.YtpjfapibjihbbaaGreatDoor

/-
  Rows of words: as they lie, of one's own, copied; what same of the laws answers. No condition but that the rows lie there.
-/
import Derived.Test.YtgmjbagomfegeaaDg5
import Derived.Laws.AppendOwnNone
namespace Go.Proofs.Ytgmjbagomfegeaa
set_option linter.unusedVariables false
open Go.RowKit

/-- A row of words lies there. -/
structure UAt (w : World) (A : Option Addr) (C : Nat) (xs : List Nat) : Prop where
  nil : A = none → C = 0
  cap : xs.length ≤ C
  max : C ≤ maxLen
  get : ∀ (i : Nat) (x : Nat), xs[i]? = some x → ∃ b o, A = some ⟨b, o, none⟩ ∧ b < w.heap.size ∧ w.cell? ⟨b, o + i, none⟩ = some (.int .u64 (x : Int)) ∧ x < 18446744073709551616
theorem UAt.below {w w' : World} {A : Option Addr} {C : Nat} {xs : List Nat} (h : UAt w A C xs) (hb : Below w.heap.size w w') : UAt w' A C xs := by
  refine ⟨h.nil, h.cap, h.max, fun i f hf => ?_⟩
  obtain ⟨b, o, hA, hl, c0, k⟩ := h.get i f hf
  obtain ⟨hc, _⟩ := bcell hb
  exact ⟨b, o, hA, Nat.lt_of_lt_of_le hl hb.size, by rw [hc _ _ hl]; exact c0, k⟩
theorem UAt.len {w : World} {A : Option Addr} {C : Nat} {xs : List Nat} (h : UAt w A C xs) : (xs.length : Int) ≤ 9223372036854775807 := by
  have := h.cap; have := h.max; unfold maxLen at this; omega
def ucells (xs : List Nat) : List Value := xs.map fun (x : Nat) => .int .u64 (x : Int)
theorem ucells_at {xs : List Nat} {j : Nat} {u : Value} (h : (ucells xs)[j]? = some u) : ∃ x : Nat, xs[j]? = some x ∧ u = .int .u64 (x : Int) := by
  unfold ucells at h
  rw [List.getElem?_map] at h
  cases hz : xs[j]? with
  | none => rw [hz] at h; cases h
  | some z => rw [hz] at h; cases h; exact ⟨z, rfl, rfl⟩
theorem ucells_get {xs : List Nat} {j x : Nat} (h : xs[j]? = some x) : (ucells xs)[j]? = some (.int .u64 (x : Int)) := by
  unfold ucells; rw [List.getElem?_map, h]; rfl
theorem ucells_set (xs : List Nat) (k x : Nat) : ucells (xs.set k x) = (ucells xs).set k (.int .u64 (x : Int)) := by simp [ucells, List.map_set]
/-- A row of words of one's own. -/
def OwnU (w : World) (base : Nat) (A : Option Addr) (C : Nat) (xs : List Nat) : Prop := w.ownsRow base 38 1 (.slice A xs.length C) xs.length (ucells xs)
theorem OwnU.below {w w' : World} {base : Nat} {A : Option Addr} {C : Nat} {xs : List Nat} (h : OwnU w base A C xs) (hb : Below w.heap.size w w') : OwnU w' base A C xs := row_below h hb
theorem OwnU.words {w : World} {base : Nat} {A : Option Addr} {C : Nat} {xs : List Nat} (h : OwnU w base A C xs) (hok : ∀ x ∈ xs, x < 18446744073709551616) : UAt w A C xs := by
  have h' := h
  rcases h.2 with ⟨hv, hn⟩ | ⟨g, cap, cur, hv, hb, hg, hc, hm, _⟩
  · simp only [Value.slice.injEq] at hv
    obtain ⟨rfl, hl, rfl⟩ := hv
    refine ⟨fun _ => rfl, by omega, by unfold maxLen; omega, fun i f hf => ?_⟩
    have := (List.getElem?_eq_some_iff.1 hf).1; omega
  · simp only [Value.slice.injEq] at hv
    obtain ⟨rfl, hl, rfl⟩ := hv
    refine ⟨(fun h => by cases h), hc, hm, fun i x hx => ?_⟩
    have ca := World.ownsRow.cells h' (g := g) rfl i (.int .u64 (x : Int)) (ucells_get hx)
    refine ⟨g, 0, rfl, (Array.getElem?_eq_some_iff.1 hg).1, ?_, hok x (List.mem_of_getElem? hx)⟩
    rw [Nat.zero_add]; rw [Addr.add_lit] at ca; simpa using ca
theorem UAt.small {w : World} {A : Option Addr} {C : Nat} {xs : List Nat} (h : UAt w A C xs) : ∀ x ∈ xs, x < 18446744073709551616 := fun x hx => by
  obtain ⟨j, hj, rfl⟩ := List.getElem_of_mem hx
  obtain ⟨_, _, _, _, _, k⟩ := h.get j _ (List.getElem?_eq_getElem hj)
  exact k
theorem UAt.empty {w : World} {C : Nat} {xs : List Nat} (h : UAt w none C xs) : xs = [] ∧ C = 0 := by
  refine ⟨?_, h.nil rfl⟩
  cases xs with
  | nil => rfl
  | cons f fs => obtain ⟨_, _, h, _⟩ := h.get 0 f rfl; cases h
/-- append of words, not opened. -/
theorem wp_copy {W w : World} {ops : Array Oper} {rest : List Oper} {o : Oper} {a : Act} {Q : Exit → Act → World → Prop} {A : Option Addr} {C : Nat} {xs : List Nat}
    (hU : UAt W A C xs) (hw : Below W.heap.size W w) (hfs : xs.length * 8 ≤ 140737488355328) (hgd : o.guard = none) (s x : Operand)
    (ho : o.op = .call { callee := .builtin .append, args := #[s, x], argTypes := #[34, 34] })
    (hs : a.eval s = .slice (some ⟨w.heap.size, 0, none⟩) 0 0) (hx : a.eval x = .slice A xs.length C)
    (k : ∀ A' C' w2, OwnU w2 w.heap.size A' C' xs → Below w.heap.size w w2 → wpList Try.prog ops Q rest (a.put o.dst (.slice A' xs.length C')) w2) :
    wpList Try.prog ops Q (o :: rest) a (w.alloc (.cells #[] 38)) := by
  obtain ⟨i1, hi1, hz1, hs1, hb1⟩ := info_parts infoU
  have hO := World.ownsRow_made (base := w.heap.size) (e := 38) (size := 1) w #[] 0 (Nat.le_refl _) (by unfold maxLen; omega) rfl
  cases A with
  | none =>
    obtain ⟨rfl, rfl⟩ := hU.empty
    refine wpList_append_own_none hgd s x 34 ho w.heap.size 38 i1 1 Try.underlying34 hi1 _ 0 _ hs hO hx ?_
    exact k _ _ _ hO (below_alloc _ _)
  | some ad =>
    have hnews : ∀ j u, (ucells xs)[j]? = some u → (w.alloc (.cells #[] 38)).cell? (ad.add j) = some u := by
      intro j u hu
      obtain ⟨z, hz, rfl⟩ := ucells_at hu
      obtain ⟨b, o, ha, hb, c0, _⟩ := hU.get j z hz
      cases ha
      have hBW := bb hw (below_alloc w (.cells #[] 38))
      rw [Addr.add_lit, (bcell hBW).1 _ _ hb]
      exact c0
    have hone : ∀ u ∈ ucells xs, u.oneCell' = true := by
      intro u hu
      obtain ⟨j, hj, rfl⟩ := List.getElem_of_mem hu
      obtain ⟨z, _, hc⟩ := ucells_at (List.getElem?_eq_getElem hj)
      rw [hc]; rfl
    have hmax : 0 + xs.length ≤ maxLen := by have := hU.cap; have := hU.max; omega
    refine wpList_append_own _ hgd s x 34 ho w.heap.size 38 i1 _ 1 8 Try.underlying34 hi1 hz1 hs1 hb1 rfl (by omega) _ 0 _ hs hO ad xs.length C (ucells xs) hx (by simp [ucells]) hnews hone hmax (by omega) (by simp) ?_
    intro v' w2 hO3 hG _
    have hB2 : Below w.heap.size w w2 := (below_alloc w (.cells #[] 38)).grown hG (by simp) (fun n hn => (hO.lt n hn).1)
    rw [Nat.zero_add] at hO3
    rcases hO3.2 with ⟨rfl, h0⟩ | ⟨g, cap, cur, rfl, _⟩
    · have e : xs.length = 0 := h0
      have := k none 0 w2 (by unfold OwnU; rw [e] at hO3 ⊢; exact hO3) hB2
      rw [e] at this
      exact this
    · exact k (some ⟨g, 0, none⟩) cap w2 hO3 hB2
def CloneU (W : World) (v : Value) (xs : List Nat) : Prop := ∀ w, Below W.heap.size W w → Calls Try.prog 26 #[v] w fun e w' => ∃ A' C', e = .returned (.slice A' xs.length C') ∧ OwnU w' w.heap.size A' C' xs ∧ Below w.heap.size w w'
theorem CloneU.use {W : World} {v : Value} {xs : List Nat} (h : CloneU W v xs) {w : World} (hw : Below W.heap.size W w) {R : Ending → World → Prop} (k : ∀ A' C' w', OwnU w' w.heap.size A' C' xs → Below w.heap.size w w' → R (.returned (.slice A' xs.length C')) w') : Calls Try.prog 26 #[v] w R :=
  (h w hw).mono fun _ _ ⟨A', C', he, h1, h3⟩ => by subst he; exact k _ _ _ h1 h3
theorem clone_any (W : World) (A : Option Addr) (C : Nat) (xs : List Nat) (hP : UAt W A C xs) (hfs : xs.length * 8 ≤ 140737488355328) : CloneU W (.slice A xs.length C) xs := by
  intro w hw
  have hq : ∀ (w : World) (a : Option Addr) (n c : Nat), (binOp .eql 34 (.slice a n c) (.slice none 0 0)).run Try.prog w = .ok (.bool a.isNone) w := fun w a n c => by simp only [binOp]; simp [Op.equal, Op.maxDepth, Lib.run_equalIn_slice_nil w 9999 _ _ a n c 0 0 Try.underlying34]
  cases A with
  | none =>
    obtain ⟨rfl, rfl⟩ := hP.empty
    go_enter Try.func26, Try.ntmps26
    go_wp2
    go_ret
    exact ⟨none, 0, rfl, World.ownsRow_nil _ _ _ _, Below.refl _ _⟩
  | some ad =>
    obtain ⟨L, hL⟩ : ∃ L, xs.length = L := ⟨_, rfl⟩
    have HL : Hid (xs.length = L) := hL
    have HP : Hid (UAt W (some ad) C xs ∧ xs.length * 8 ≤ 140737488355328) := ⟨hP, hfs⟩
    rw [hL]
    clear hL hP hfs
    go_enter Try.func26, Try.ntmps26
    go_wp2_with (at_builtin; refine Hid.out ?_)
    unfold Hid
    refine wp_copy HP.out.1 hw HP.out.2 rfl _ _ rfl rfl (by rw [HL.out]; rfl) ?_
    intro A' C' w2 hO hB2
    have HO : Hid (OwnU w2 w.heap.size A' C' xs) := hO
    rw [HL.out]
    clear hO
    go_wp2
    go_ret
    exact ⟨A', C', rfl, HO.out, hB2⟩

/-! ### same -/
theorem same_get {xs ys : List Nat} {k : Nat} (hl : xs.length = ys.length) (h : xs.take k = ys.take k) {x y : Nat} (hx : xs[k]? = some x) (hy : ys[k]? = some y) (e : x = y) : xs.take (k + 1) = ys.take (k + 1) := by
  rw [List.take_add_one, List.take_add_one, hx, hy, h, e]
set_option maxHeartbeats 1000000 in
theorem same_any (W : World) (A : Option Addr) (C : Nat) (xs : List Nat) (B : Option Addr) (D : Nat) (ys : List Nat) (hX : UAt W A C xs) (hY : UAt W B D ys) : AnsB W 16 #[.slice A xs.length C, .slice B ys.length D] (.bool (decide (xs = ys))) := by
  intro w hw
  have hlx := hX.len
  obtain ⟨L, hL⟩ : ∃ L, xs.length = L := ⟨_, rfl⟩
  obtain ⟨M, hM⟩ : ∃ M, ys.length = M := ⟨_, rfl⟩
  have HL : Hid (xs.length = L) := hL
  have HM : Hid (ys.length = M) := hM
  rw [hL] at hlx
  rw [hL, hM]
  clear hL hM
  by_cases hLM : L = M
  · subst hLM
    go_enter Try.func16, Try.ntmps16
    go_wp2
    go_loopw [13] (fun v wr => ∃ k : Nat, v = .int .i64 k ∧ k ≤ L ∧ Hid (xs.take k = ys.take k) ∧ Below w.heap.size w wr) (fun v _ => L - (intOf v).toNat)
    case atStart => exact ⟨0, rfl, by omega, rfl, Below.refl _ _⟩
    case round =>
      obtain ⟨k, rfl, hk, HI, hB⟩ := hrel
      by_cases hlt : k < L
      · obtain ⟨x, hx⟩ : ∃ x, xs[k]? = some x := ⟨_, List.getElem?_eq_getElem (by rw [HL.out]; exact hlt)⟩
        obtain ⟨y, hy⟩ : ∃ y, ys[k]? = some y := ⟨_, List.getElem?_eq_getElem (by rw [HM.out]; exact hlt)⟩
        obtain ⟨b, o, rfl, hb, c0, _⟩ := hX.get k x hx
        obtain ⟨b2, o2, rfl, hb2, d0, _⟩ := hY.get k y hy
        have hBW := hw.trans (hB.mono hw.size)
        have c0' := ((bcell hBW).1 b (o + k) hb).trans c0
        have d0' := ((bcell hBW).1 b2 (o2 + k) hb2).trans d0
        have HB : Hid (Below w.heap.size w wr) := hB
        by_cases he : x = y
        · have HS : Hid (xs.take (k + 1) = ys.take (k + 1)) := same_get (by rw [HL.out, HM.out]) HI.out hx hy he
          have t1 : ((x : Int) != (y : Int)) = false := by simp [he]
          have t2 : ¬ (x : Int) ≠ (y : Int) := by simp [he]
          subst he
          clear c0 d0 hx hy HI hBW hB
          go_wp2
          go_region
          all_goals go_wp2
          all_goals go_roundw
          case rel => exact ⟨k + 1, by go_num, by omega, HS, below_dN HB.out _⟩
          case measure => simp [intOf]; omega
        · have HR : Hid (decide (xs = ys) = false) := by
            unfold Hid; rw [decide_eq_false_iff_not]; intro e; rw [e, hy] at hx; cases hx; exact he rfl
          have t1 : ((x : Int) != (y : Int)) = true := by simp; omega
          have t2 : ¬ (x : Int) = (y : Int) := by omega
          clear c0 d0 hx hy HI hBW hB he
          go_wp2
          go_region
          all_goals go_wp2
          all_goals go_ret
          all_goals exact ⟨ret_b HR.out.symm, below_dN HB.out _⟩
      · obtain rfl : k = L := by omega
        have HR : Hid (decide (xs = ys) = true) := by
          unfold Hid; rw [decide_eq_true_iff]; have := HI.out
          rw [← HL.out, List.take_length, HL.out, ← HM.out, List.take_length] at this
          exact this
        clear HI
        go_wp2
        go_ret
        exact ⟨ret_b HR.out.symm, hB⟩
  · have HR : Hid (decide (xs = ys) = false) := by
      unfold Hid; rw [decide_eq_false_iff_not]; intro e; apply hLM; rw [← HL.out, ← HM.out, e]
    have t1 : ¬ (L : Int) = (M : Int) := by omega
    go_enter Try.func16, Try.ntmps16
    go_wp2
    go_ret
    exact ⟨ret_b HR.out.symm, Below.refl _ _⟩
end Go.Proofs.Ytgmjbagomfegeaa

/-
  Rows of words: as they lie, of one's own (made, grown by append, stored into), copied; a call that answers a new one. No condition but that the rows lie there.
-/
import Derived.Test.YtpjfapibjihbbaaGreatDoorF1
import Derived.Laws.AppendOwnNone
namespace Go.Proofs.YtpjfapibjihbbaaGreatDoor
set_option linter.unusedVariables false
open Go.RowKit

/-- A call that answers so in every world that holds what this one held, and leaves the world as it was. -/
def AnsQ (W : World) (f : FuncId) (args : Array Value) (v : Value) : Prop := ∀ w, Below W.heap.size W w → Calls Tryz.prog f args w fun e w' => e = .returned v ∧ w' = w
theorem AnsQ.use {W : World} {f : FuncId} {args : Array Value} {v : Value} (h : AnsQ W f args v) {w : World} (hw : Below W.heap.size W w) {R : Ending → World → Prop} (k : R (.returned v) w) : Calls Tryz.prog f args w R :=
  (h w hw).mono fun _ _ ⟨he, hb⟩ => by subst he; subst hb; exact k
theorem AnsQ.to {W : World} {f : FuncId} {args : Array Value} {v v' : Value} (h : AnsQ W f args v) (e : v = v') : AnsQ W f args v' := e ▸ h
theorem AnsQ.on {W W' : World} {f : FuncId} {args : Array Value} {v : Value} (h : AnsQ W f args v) (hb : Below W.heap.size W W') : AnsQ W' f args v :=
  fun w hw => h w (hb.trans (hw.mono hb.size))
theorem AnsQ.toB {W : World} {f : FuncId} {args : Array Value} {v : Value} (h : AnsQ W f args v) : AnsB W f args v :=
  fun w hw => (h w hw).mono fun _ _ ⟨he, hb⟩ => ⟨he, by subst hb; exact Below.refl _ _⟩
theorem AnsQ.toW {W : World} {f : FuncId} {args : Array Value} {v : Value} (h : AnsQ W f args v) {w : World} (hw : Below W.heap.size W w) : AnsW w f args v :=
  fun n => (h _ (hw.trans ((below_drewN w n).mono hw.size))).mono fun _ _ ⟨he, hb⟩ => ⟨he, 0, by rw [hb, Nat.add_zero]⟩

theorem below_dN {B : Nat} {w w' : World} (h : Below B w w') (n : Nat) : Below B w (w'.drewN n) := h.trans ⟨rfl, rfl, rfl, Nat.le_refl _, fun _ _ => rfl⟩

theorem ret_b {a b : Bool} (h : a = b) : Ending.returned (.bool a) = .returned (.bool b) := by rw [h]

theorem infoWd : (Tryz.prog.info? 22).map (fun i => (i.zero, i.size, i.bytes)) = some (some (.int .u64 0), 1, 8) := by kernel_rfl
theorem grown_below {W W' : World} (h : Below W.heap.size W W') : W.grownBy W' none := ⟨h.os, h.tape, h.output, h.size, fun k hk _ => h.block k hk⟩
theorem row_below {base : Nat} {e : TypeId} {v : Value} {n : Nat} {xs : List Value} {X Y : World} (h : X.ownsRow base e 1 v n xs) (hb : Below X.heap.size X Y) : Y.ownsRow base e 1 v n xs := h.kept (grown_below hb) (by
  cases hv : v.ownBlock with
  | none => exact .inl rfl
  | some g => exact .inr (by simp))
theorem one_new (w : World) (v : Value) (t : TypeId) : ∀ (i : Nat) (x : Value), [v][i]? = some x → (w.alloc (.cells #[v] t)).cell? ((⟨w.heap.size, 0, none⟩ : Addr).add i) = some x := by
  intro i x hx
  rw [Addr.add_lit, World.cell?_alloc_at _ _ _ _ rfl]
  match i, hx with
  | 0, hx => cases hx; rfl
  | i + 1, hx => simp at hx
/-- The first k of n, the others as they are made. -/
def wfl {α : Type} (d : α) (n k : Nat) (f : Nat → α) : List α := (List.range n).map fun j => if j < k then f j else d
theorem wfl_len {α : Type} (d : α) (n k : Nat) (f : Nat → α) : (wfl d n k f).length = n := by simp [wfl]
theorem wfl_get {α : Type} (d : α) {n k j : Nat} (f : Nat → α) (h : j < n) : (wfl d n k f)[j]? = some (if j < k then f j else d) := by
  unfold wfl; rw [List.getElem?_map, List.getElem?_range h]; rfl
theorem wfl_zero {α : Type} (d : α) (n : Nat) (f : Nat → α) : wfl d n 0 f = List.replicate n d := by
  apply List.ext_getElem?
  intro j
  by_cases h : j < n
  · rw [wfl_get d f h, List.getElem?_replicate, if_pos h, if_neg (by omega)]
  · rw [List.getElem?_eq_none (by rw [wfl_len]; omega), List.getElem?_eq_none (by simp; omega)]
theorem wfl_set {α : Type} (d : α) (n k : Nat) (f : Nat → α) : (wfl d n k f).set k (f k) = wfl d n (k + 1) f := by
  apply List.ext_getElem?
  intro j
  rw [List.getElem?_set]
  by_cases h : j < n
  · rw [wfl_get d f h, wfl_get d f h, wfl_len]
    by_cases e : k = j
    · subst e; rw [if_pos rfl, if_pos h, if_pos (by omega)]
    · rw [if_neg e]
      by_cases h2 : j < k
      · rw [if_pos h2, if_pos (by omega)]
      · rw [if_neg h2, if_neg (by omega)]
  · rw [List.getElem?_eq_none (by rw [wfl_len]; omega), List.getElem?_eq_none (by rw [wfl_len]; omega), wfl_len]
    by_cases e : k = j
    · rw [if_pos e, if_neg (by omega)]
    · rw [if_neg e]
theorem wfl_all {α : Type} (d : α) (n : Nat) (f : Nat → α) : wfl d n n f = (List.range n).map f := by
  unfold wfl
  apply List.map_congr_left
  intro j hj
  rw [if_pos (List.mem_range.1 hj)]
theorem made_list {d : Value} (h : d.cells = #[d]) (n : Nat) : (madeCells d.cells (n * 1)).toList = List.replicate n d := by
  rw [Nat.mul_one, h, toList_madeCells_one]

/-- A row of words lies there. -/
structure UAt (w : World) (A : Option Addr) (C : Nat) (xs : List Nat) : Prop where
  nil : A = none → C = 0
  cap : xs.length ≤ C
  max : C ≤ maxLen
  get : ∀ (i : Nat) (x : Nat), xs[i]? = some x → ∃ b o, A = some ⟨b, o, none⟩ ∧ b < w.heap.size ∧ w.cell? ⟨b, o + i, none⟩ = some (.int .u64 (x : Int)) ∧ x < 18446744073709551616
theorem UAt.below {w w' : World} {A : Option Addr} {C : Nat} {xs : List Nat} (h : UAt w A C xs) (hb : Below w.heap.size w w') : UAt w' A C xs := by
  refine ⟨h.nil, h.cap, h.max, fun i f hf => ?_⟩
  obtain ⟨b, o, hA, hl, c0, k⟩ := h.get i f hf
  obtain ⟨hc, _⟩ := bcell hb
  exact ⟨b, o, hA, Nat.lt_of_lt_of_le hl hb.size, by rw [hc _ _ hl]; exact c0, k⟩
theorem UAt.len {w : World} {A : Option Addr} {C : Nat} {xs : List Nat} (h : UAt w A C xs) : (xs.length : Int) ≤ 9223372036854775807 := by
  have := h.cap; have := h.max; unfold maxLen at this; omega
def ucells (xs : List Nat) : List Value := xs.map fun (x : Nat) => .int .u64 (x : Int)
theorem ucells_at {xs : List Nat} {j : Nat} {u : Value} (h : (ucells xs)[j]? = some u) : ∃ x : Nat, xs[j]? = some x ∧ u = .int .u64 (x : Int) := by
  unfold ucells at h
  rw [List.getElem?_map] at h
  cases hz : xs[j]? with
  | none => rw [hz] at h; cases h
  | some z => rw [hz] at h; cases h; exact ⟨z, rfl, rfl⟩
theorem ucells_get {xs : List Nat} {j x : Nat} (h : xs[j]? = some x) : (ucells xs)[j]? = some (.int .u64 (x : Int)) := by
  unfold ucells; rw [List.getElem?_map, h]; rfl
theorem ucells_set (xs : List Nat) (k x : Nat) : ucells (xs.set k x) = (ucells xs).set k (.int .u64 (x : Int)) := by simp [ucells, List.map_set]
/-- A row of words of one's own. -/
def OwnU (w : World) (base : Nat) (A : Option Addr) (C : Nat) (xs : List Nat) : Prop := w.ownsRow base 22 1 (.slice A xs.length C) xs.length (ucells xs)
theorem OwnU.below {w w' : World} {base : Nat} {A : Option Addr} {C : Nat} {xs : List Nat} (h : OwnU w base A C xs) (hb : Below w.heap.size w w') : OwnU w' base A C xs := row_below h hb
theorem OwnU.words {w : World} {base : Nat} {A : Option Addr} {C : Nat} {xs : List Nat} (h : OwnU w base A C xs) (hok : ∀ x ∈ xs, x < 18446744073709551616) : UAt w A C xs := by
  have h' := h
  rcases h.2 with ⟨hv, hn⟩ | ⟨g, cap, cur, hv, hb, hg, hc, hm, _⟩
  · simp only [Value.slice.injEq] at hv
    obtain ⟨rfl, hl, rfl⟩ := hv
    refine ⟨fun _ => rfl, by omega, by unfold maxLen; omega, fun i f hf => ?_⟩
    have := (List.getElem?_eq_some_iff.1 hf).1; omega
  · simp only [Value.slice.injEq] at hv
    obtain ⟨rfl, hl, rfl⟩ := hv
    refine ⟨(fun h => by cases h), hc, hm, fun i x hx => ?_⟩
    have ca := World.ownsRow.cells h' (g := g) rfl i (.int .u64 (x : Int)) (ucells_get hx)
    refine ⟨g, 0, rfl, (Array.getElem?_eq_some_iff.1 hg).1, ?_, hok x (List.mem_of_getElem? hx)⟩
    rw [Nat.zero_add]; rw [Addr.add_lit] at ca; simpa using ca
theorem UAt.small {w : World} {A : Option Addr} {C : Nat} {xs : List Nat} (h : UAt w A C xs) : ∀ x ∈ xs, x < 18446744073709551616 := fun x hx => by
  obtain ⟨j, hj, rfl⟩ := List.getElem_of_mem hx
  obtain ⟨_, _, _, _, _, k⟩ := h.get j _ (List.getElem?_eq_getElem hj)
  exact k
theorem UAt.empty {w : World} {C : Nat} {xs : List Nat} (h : UAt w none C xs) : xs = [] ∧ C = 0 := by
  refine ⟨?_, h.nil rfl⟩
  cases xs with
  | nil => rfl
  | cons f fs => obtain ⟨_, _, h, _⟩ := h.get 0 f rfl; cases h
/-- append of words, not opened. -/
theorem wp_copy {W w : World} {ops : Array Oper} {rest : List Oper} {o : Oper} {a : Act} {Q : Exit → Act → World → Prop} {A : Option Addr} {C : Nat} {xs : List Nat}
    (hU : UAt W A C xs) (hw : Below W.heap.size W w) (hfs : xs.length * 8 ≤ 140737488355328) (hgd : o.guard = none) (s x : Operand)
    (ho : o.op = .call { callee := .builtin .append, args := #[s, x], argTypes := #[26, 26] })
    (hs : a.eval s = .slice (some ⟨w.heap.size, 0, none⟩) 0 0) (hx : a.eval x = .slice A xs.length C)
    (k : ∀ A' C' w2, OwnU w2 w.heap.size A' C' xs → Below w.heap.size w w2 → wpList Tryz.prog ops Q rest (a.put o.dst (.slice A' xs.length C')) w2) :
    wpList Tryz.prog ops Q (o :: rest) a (w.alloc (.cells #[] 22)) := by
  obtain ⟨i1, hi1, hz1, hs1, hb1⟩ := info_parts infoWd
  have hO := World.ownsRow_made (base := w.heap.size) (e := 22) (size := 1) w #[] 0 (Nat.le_refl _) (by unfold maxLen; omega) rfl
  cases A with
  | none =>
    obtain ⟨rfl, rfl⟩ := hU.empty
    refine wpList_append_own_none hgd s x 26 ho w.heap.size 22 i1 1 Tryz.underlying26 hi1 _ 0 _ hs hO hx ?_
    exact k _ _ _ hO (below_alloc _ _)
  | some ad =>
    have hnews : ∀ j u, (ucells xs)[j]? = some u → (w.alloc (.cells #[] 22)).cell? (ad.add j) = some u := by
      intro j u hu
      obtain ⟨z, hz, rfl⟩ := ucells_at hu
      obtain ⟨b, o, ha, hb, c0, _⟩ := hU.get j z hz
      cases ha
      have hBW := bb hw (below_alloc w (.cells #[] 22))
      rw [Addr.add_lit, (bcell hBW).1 _ _ hb]
      exact c0
    have hone : ∀ u ∈ ucells xs, u.oneCell' = true := by
      intro u hu
      obtain ⟨j, hj, rfl⟩ := List.getElem_of_mem hu
      obtain ⟨z, _, hc⟩ := ucells_at (List.getElem?_eq_getElem hj)
      rw [hc]; rfl
    have hmax : 0 + xs.length ≤ maxLen := by have := hU.cap; have := hU.max; omega
    refine wpList_append_own _ hgd s x 26 ho w.heap.size 22 i1 _ 1 8 Tryz.underlying26 hi1 hz1 hs1 hb1 rfl (by omega) _ 0 _ hs hO ad xs.length C (ucells xs) hx (by simp [ucells]) hnews hone hmax (by omega) (by simp) ?_
    intro v' w2 hO3 hG _
    have hB2 : Below w.heap.size w w2 := (below_alloc w (.cells #[] 22)).grown hG (by simp) (fun n hn => (hO.lt n hn).1)
    rw [Nat.zero_add] at hO3
    rcases hO3.2 with ⟨rfl, h0⟩ | ⟨g, cap, cur, rfl, _⟩
    · have e : xs.length = 0 := h0
      have := k none 0 w2 (by unfold OwnU; rw [e] at hO3 ⊢; exact hO3) hB2
      rw [e] at this
      exact this
    · exact k (some ⟨g, 0, none⟩) cap w2 hO3 hB2
theorem grownBy_set (W : World) (b k : Nat) (v : Value) : W.grownBy (W.setCell ⟨b, k, none⟩ v) (some b) :=
  ⟨rfl, rfl, rfl, (show W.heap.size ≤ (W.heap.modify b _).size by rw [Array.size_modify]; exact Nat.le_refl _), fun k _ hk => Below.heap_setCell _ _ _ k (fun e => hk (by rw [e]))⟩
theorem own_other {w : World} {base : Nat} {e : TypeId} {v : Value} {n : Nat} {xs : List Value} (h : w.ownsRow base e 1 v n xs) {g : Nat} (hne : v.ownBlock ≠ some g) (k : Nat) (u : Value) : (w.setCell ⟨g, k, none⟩ u).ownsRow base e 1 v n xs :=
  h.kept (row := some g) (grownBy_set _ _ _ _) (.inr hne)
theorem own_some {w : World} {base : Nat} {e : TypeId} {A : Option Addr} {C n : Nat} {xs : List Value} (h : w.ownsRow base e 1 (.slice A n C) n xs) (hn : 0 < n) : ∃ g, A = some ⟨g, 0, none⟩ := by
  rcases h.2 with ⟨_, hz⟩ | ⟨g, cap, cur, hv, _⟩
  · omega
  · simp only [Value.slice.injEq] at hv
    exact ⟨g, hv.1⟩
theorem ret_slice {A : Option Addr} {n C : Nat} {a c : Int} (h : a = c) : Ending.returned (.tuple #[.slice A n C, .int .i64 a]) = .returned (.tuple #[.slice A n C, .int .i64 c]) := by rw [h]
theorem ucells_len (xs : List Nat) : (ucells xs).length = xs.length := by simp [ucells]
theorem ucells_snoc (xs : List Nat) (x : Nat) : ucells (xs ++ [x]) = ucells xs ++ [.int .u64 (x : Int)] := by simp [ucells]
/-- A call that answers a new row of words of its own, and no error. -/
def OwnT (W : World) (f : FuncId) (args : Array Value) (l : List Nat) : Prop := ∀ w, Below W.heap.size W w → Calls Tryz.prog f args w fun e w' => ∃ A1 C1, e = .returned (.tuple #[.slice A1 l.length C1, .int .i64 0]) ∧ OwnU w' w.heap.size A1 C1 l ∧ Below w.heap.size w w'
theorem OwnT.use {W : World} {f : FuncId} {args : Array Value} {l : List Nat} (h : OwnT W f args l) {w : World} (hw : Below W.heap.size W w) {R : Ending → World → Prop} (k : ∀ A1 C1 w', OwnU w' w.heap.size A1 C1 l → Below w.heap.size w w' → R (.returned (.tuple #[.slice A1 l.length C1, .int .i64 0])) w') : Calls Tryz.prog f args w R :=
  (h w hw).mono fun _ _ ⟨A', C', he, h1, h2⟩ => by subst he; exact k _ _ _ h1 h2
/-- A call that answers a new row of words of its own. -/
def OwnR (W : World) (f : FuncId) (args : Array Value) (l : List Nat) : Prop := ∀ w, Below W.heap.size W w → Calls Tryz.prog f args w fun e w' => ∃ A1 C1, e = .returned (.slice A1 l.length C1) ∧ OwnU w' w.heap.size A1 C1 l ∧ Below w.heap.size w w'
theorem OwnR.use {W : World} {f : FuncId} {args : Array Value} {l : List Nat} (h : OwnR W f args l) {w : World} (hw : Below W.heap.size W w) {R : Ending → World → Prop} (k : ∀ A1 C1 w', OwnU w' w.heap.size A1 C1 l → Below w.heap.size w w' → R (.returned (.slice A1 l.length C1)) w') : Calls Tryz.prog f args w R :=
  (h w hw).mono fun _ _ ⟨A', C', he, h1, h2⟩ => by subst he; exact k _ _ _ h1 h2
theorem OwnU.get {w : World} {base : Nat} {A : Option Addr} {C : Nat} {xs : List Nat} (h : OwnU w base A C xs) {i x : Nat} (hx : xs[i]? = some x) : ∃ g, A = some ⟨g, 0, none⟩ ∧ base ≤ g ∧ g < w.heap.size ∧ w.cell? ⟨g, i, none⟩ = some (.int .u64 (x : Int)) ∧ w.frozen? ⟨g, i, none⟩ = false := by
  have h' := h
  rcases h.2 with ⟨_, hz⟩ | ⟨g, cap, cur, hv, hb, hg, _⟩
  · have := (List.getElem?_eq_some_iff.1 hx).1; omega
  · simp only [Value.slice.injEq] at hv
    obtain ⟨rfl, _, rfl⟩ := hv
    have hi := (List.getElem?_eq_some_iff.1 hx).1
    refine ⟨g, rfl, hb, (Array.getElem?_eq_some_iff.1 hg).1, ?_, World.ownsRow.frozenAt h' i⟩
    exact (World.ownsRow.cellAt h' i (by omega)).trans (ucells_get hx)
theorem OwnU.set {w : World} {base : Nat} {g C : Nat} {xs : List Nat} (h : OwnU w base (some ⟨g, 0, none⟩) C xs) (k y : Nat) : OwnU (w.setCell ⟨g, k, none⟩ (.int .u64 (y : Int))) base (some ⟨g, 0, none⟩) C (xs.set k y) := by
  have := (World.ownsRow.stored h k (.int .u64 (y : Int))).1
  unfold OwnU
  rw [ucells_set, List.length_set]
  exact this
theorem OwnU.base {w : World} {base base' : Nat} {A : Option Addr} {C : Nat} {xs : List Nat} (h : OwnU w base A C xs) (hb : base' ≤ base) : OwnU w base' A C xs :=
  ⟨h.1, h.2.imp id fun ⟨g, cap, cur, hv, h1, r⟩ => ⟨g, cap, cur, hv, Nat.le_trans hb h1, r⟩⟩
theorem UAt.at {w : World} {b o C : Nat} {xs : List Nat} (h : UAt w (some ⟨b, o, none⟩) C xs) {i x : Nat} (hx : xs[i]? = some x) : w.cell? ⟨b, o + i, none⟩ = some (.int .u64 (x : Int)) ∧ x < 18446744073709551616 ∧ b < w.heap.size := by
  obtain ⟨b2, o2, hA, hb, c, hl⟩ := h.get i x hx
  simp only [Option.some.injEq, Addr.mk.injEq, and_true] at hA
  obtain ⟨rfl, rfl⟩ := hA
  exact ⟨c, hl, hb⟩
theorem UAt.addr {w : World} {A : Option Addr} {C : Nat} {xs : List Nat} (h : UAt w A C xs) (hn : 1 ≤ xs.length) : ∃ b o, A = some ⟨b, o, none⟩ := by
  obtain ⟨b, o, hA, _⟩ := h.get 0 _ (List.getElem?_eq_getElem (by omega))
  exact ⟨b, o, hA⟩
theorem getD_of {t : List Nat} {i x : Nat} (h : t[i]? = some x) : t.getD i 0 = x := by rw [List.getD_eq_getElem?_getD, h]; rfl
theorem get_of {t : List Nat} {i : Nat} (h : i < t.length) : t[i]? = some (t.getD i 0) := by rw [List.getD_eq_getElem?_getD, List.getElem?_eq_getElem h]; rfl
theorem wrN {x : Nat} (h : x ≤ 16777216) : wrap64 (x : Int) = (x : Int) := by unfold wrap64; omega
theorem wrN1 {x : Nat} (h : x ≤ 16777216) : wrap64 ((x : Int) + 1) = (x : Int) + 1 := by unfold wrap64; omega
theorem wrL {x n : Nat} (h : x < n) (hn : n ≤ 4096) : wrap64 (x : Int) = (x : Int) := wrN (Nat.le_trans (Nat.le_of_lt h) (Nat.le_trans hn (by decide)))
theorem wrL1 {x n : Nat} (h : x < n) (hn : n ≤ 4096) : wrap64 ((x : Int) + 1) = (x : Int) + 1 := wrN1 (Nat.le_trans (Nat.le_of_lt h) (Nat.le_trans hn (by decide)))
theorem ltI {x n : Nat} (h : x < n) : (x : Int) < (n : Int) := Int.ofNat_lt.2 h
theorem neB {x y : Nat} (h : x ≠ y) : ((x : Int) != (y : Int)) = true ∧ ¬ (x : Int) = (y : Int) := by
  have : ¬ (x : Int) = (y : Int) := by omega
  exact ⟨by simp; omega, this⟩
theorem eqB {x y : Nat} (h : x = y) : ((x : Int) != (y : Int)) = false ∧ (x : Int) = (y : Int) := by
  subst h; exact ⟨by simp, rfl⟩
theorem modI (x n : Nat) : Int.tmod (x : Int) (n : Int) = ((x % n : Nat) : Int) := rfl
theorem modI1 (x n : Nat) : Int.tmod ((x : Int) + 1) (n : Int) = (((x + 1) % n : Nat) : Int) := rfl
theorem divI (x n : Nat) : Int.tdiv (x : Int) (n : Int) = ((x / n : Nat) : Int) := rfl
theorem oneB {x : Nat} (h : x = 1) : ((x : Int) == 1) = true ∧ (x : Int) = 1 := by subst h; exact ⟨rfl, rfl⟩
theorem notOne {x : Nat} (h : ¬ x = 1) : ((x : Int) == 1) = false ∧ ¬ (x : Int) = 1 := by
  have : ¬ (x : Int) = 1 := by omega
  exact ⟨by simp; omega, this⟩
theorem natNe {x : Nat} (h : 1 ≤ x) : ¬ (x : Int) = 0 := by omega
theorem wrI {x : Nat} (h : x ≤ 16777216) : IntKind.i64.wrap (x : Int) = (x : Int) := by rw [IntKind.wrap_i64]; omega
theorem wrLI {x n : Nat} (h : x < n) (hn : n ≤ 4096) : IntKind.i64.wrap (x : Int) = (x : Int) := wrI (Nat.le_trans (Nat.le_of_lt h) (Nat.le_trans hn (by decide)))
/-- A quotient of ints, as the walk has it. -/
theorem divW {n q d : Nat} (h : n / q = d) (hd : d ≤ 16777216) : IntKind.i64.wrap ((n : Int) / (q : Int)) = (d : Int) := by rw [← Int.natCast_ediv, h]; exact wrI hd
theorem UAt.at0 {w : World} {b C : Nat} {xs : List Nat} (h : UAt w (some ⟨b, 0, none⟩) C xs) {i x : Nat} (hx : xs[i]? = some x) : w.cell? ⟨b, i, none⟩ = some (.int .u64 (x : Int)) := by
  have := (h.at hx).1
  rwa [Nat.zero_add] at this
/-- .. used where the row isn't empty, its length a letter. -/
theorem OwnT.useG {W : World} {f : FuncId} {args : Array Value} {l : List Nat} {n : Nat} (h : OwnT W f args l) (hl : l.length = n) (hn : 1 ≤ n) {w : World} (hw : Below W.heap.size W w) {R : Ending → World → Prop} (k : ∀ g C1 w', OwnU w' w.heap.size (some ⟨g, 0, none⟩) C1 l → Below w.heap.size w w' → R (.returned (.tuple #[.slice (some ⟨g, 0, none⟩) n C1, .int .i64 0])) w') : Calls Tryz.prog f args w R := by
  subst hl
  refine h.use hw fun A1 C1 w' h1 h2 => ?_
  obtain ⟨g, rfl, _⟩ := h1.get (List.getElem?_eq_getElem (show 0 < l.length by omega))
  exact k g C1 w' h1 h2
theorem OwnR.useG {W : World} {f : FuncId} {args : Array Value} {l : List Nat} {n : Nat} (h : OwnR W f args l) (hl : l.length = n) (hn : 1 ≤ n) {w : World} (hw : Below W.heap.size W w) {R : Ending → World → Prop} (k : ∀ g C1 w', OwnU w' w.heap.size (some ⟨g, 0, none⟩) C1 l → Below w.heap.size w w' → R (.returned (.slice (some ⟨g, 0, none⟩) n C1)) w') : Calls Tryz.prog f args w R := by
  subst hl
  refine h.use hw fun A1 C1 w' h1 h2 => ?_
  obtain ⟨g, rfl, _⟩ := h1.get (List.getElem?_eq_getElem (show 0 < l.length by omega))
  exact k g C1 w' h1 h2
theorem drewAny {w w' : World} (n : Nat) (h : w' = w.drewN n) : Below w.heap.size w w' := by subst h; exact below_drewN w n
end Go.Proofs.YtpjfapibjihbbaaGreatDoor

/-
  Rows that a call makes by append: of factors, of entries; what they hold, and that they read as rows.
-/
import Derived.Test.YtafmmkhegkceiaaPfD
import Derived.OwnWalk
namespace Go.Proofs.Ytafmmkhegkceiaa
set_option linter.unusedVariables false
open Go.RowKit

theorem infoPw : (Try.prog.info? 33).map (fun i => (i.zero, i.size, i.bytes)) = some (some (.agg #[.int .u64 0, .int .i64 0]), 2, 16) := by kernel_rfl
theorem infoEn : (Try.prog.info? 45).map (fun i => (i.zero, i.size, i.bytes)) = some (some (.agg #[.int .u64 0, .int .u64 0, .slice none 0 0]), 3, 40) := by kernel_rfl

theorem owns_below {w w' : World} {base B : Nat} {e : TypeId} {size : Nat} {v : Value} {n : Nat} {xs : List Value} (h : w.ownsRow base e size v n xs) (hb : Below B w w') (hB : w.heap.size ≤ B) : w'.ownsRow base e size v n xs := by
  refine ⟨h.1, ?_⟩
  rcases h.2 with hn | ⟨g, cap, cur, rfl, hbg, hgg, rest⟩
  · exact .inl hn
  · refine .inr ⟨g, cap, cur, rfl, hbg, ?_, rest⟩
    rw [hb.block g (Nat.lt_of_lt_of_le (Array.getElem?_eq_some_iff.1 hgg).1 hB)]; exact hgg
theorem owns_mono {w : World} {base base' : Nat} {e : TypeId} {size : Nat} {v : Value} {n : Nat} {xs : List Value} (h : w.ownsRow base e size v n xs) (hb : base' ≤ base) : w.ownsRow base' e size v n xs := by
  refine ⟨h.1, ?_⟩
  rcases h.2 with hn | ⟨g, cap, cur, hv, hbg, r⟩
  · exact .inl hn
  · exact .inr ⟨g, cap, cur, hv, Nat.le_trans hb hbg, r⟩
/-- Two rows of unlike things are no one row. -/
theorem owns_apart {w : World} {base base' : Nat} {e e' : TypeId} {s s' : Nat} {v v' : Value} {n n' : Nat} {xs xs' : List Value} (h : w.ownsRow base e s v n xs) (h' : w.ownsRow base' e' s' v' n' xs') (hne : e ≠ e') : v.ownBlock = none ∨ v.ownBlock ≠ v'.ownBlock := by
  rcases h.2 with ⟨rfl, _⟩ | ⟨g, cap, cur, rfl, _, hg, _⟩
  · exact Or.inl rfl
  · right
    rcases h'.2 with ⟨rfl, _⟩ | ⟨g', cap', cur', rfl, _, hg', _⟩
    · simp [Value.ownBlock]
    · intro e2
      simp [Value.ownBlock] at e2
      subst e2
      rw [hg] at hg'
      simp at hg'
      exact hne hg'.2

/-- The first n factors lie in a row of the call's own. -/
def PRow (w : World) (base : Nat) (v : Value) (n : Nat) (fs : List Pw) : Prop := ∃ ys, w.ownsRow base 33 2 v n ys ∧ ∀ i f, i < n → fs[i]? = some f → ys[i * 2]? = some (.int .u64 (f.q : Int)) ∧ ys[i * 2 + 1]? = some (.int .i64 f.e)
/-- The first n entries lie in a row of the call's own, their factors in others. -/
def ERow (w : World) (base : Nat) (v : Value) (n : Nat) (es : List En) : Prop := ∃ xs, w.ownsRow base 45 3 v n xs ∧ ∀ i x, i < n → es[i]? = some x → ∃ u, xs[i * 3]? = some (.int .u64 (x.p : Int)) ∧ xs[i * 3 + 1]? = some (.int .u64 (x.g : Int)) ∧ xs[i * 3 + 2]? = some u ∧ PRow w base u x.fs.length x.fs
theorem PRow.nil (w : World) (base : Nat) (fs : List Pw) : PRow w base (.slice none 0 0) 0 fs := ⟨[], World.ownsRow_nil _ _ _ _, fun i f hi => absurd hi (by omega)⟩
theorem ERow.nil (w : World) (base : Nat) (es : List En) : ERow w base (.slice none 0 0) 0 es := ⟨[], World.ownsRow_nil _ _ _ _, fun i f hi => absurd hi (by omega)⟩
theorem PRow.below {w w' : World} {base B : Nat} {v : Value} {n : Nat} {fs : List Pw} (h : PRow w base v n fs) (hb : Below B w w') (hB : w.heap.size ≤ B) : PRow w' base v n fs := by
  obtain ⟨ys, h1, h2⟩ := h
  exact ⟨ys, owns_below h1 hb hB, h2⟩
theorem PRow.mono {w : World} {base base' : Nat} {v : Value} {n : Nat} {fs : List Pw} (h : PRow w base v n fs) (hb : base' ≤ base) : PRow w base' v n fs := by
  obtain ⟨ys, h1, h2⟩ := h
  exact ⟨ys, owns_mono h1 hb, h2⟩
theorem PRow.kept {w w' : World} {base : Nat} {v : Value} {n : Nat} {fs : List Pw} (h : PRow w base v n fs) {row : Value} {base' n' : Nat} {xs : List Value} (hr : w.ownsRow base' 45 3 row n' xs) (hg : w.grownBy w' row.ownBlock) : PRow w' base v n fs := by
  obtain ⟨ys, h1, h2⟩ := h
  exact ⟨ys, h1.kept hg (owns_apart h1 hr (by decide)), h2⟩
theorem ERow.below {w w' : World} {base B : Nat} {v : Value} {n : Nat} {es : List En} (h : ERow w base v n es) (hb : Below B w w') (hB : w.heap.size ≤ B) : ERow w' base v n es := by
  obtain ⟨xs, h1, h2⟩ := h
  refine ⟨xs, owns_below h1 hb hB, fun i x hi hx => ?_⟩
  obtain ⟨u, a, b, c, d⟩ := h2 i x hi hx
  exact ⟨u, a, b, c, d.below hb hB⟩
/-- One more factor. -/
theorem PRow.push {w' : World} {base : Nat} {v' : Value} {n : Nat} {fs : List Pw} {ys : List Value} {f : Pw} (hl : ys.length = n * 2) (h2 : ∀ i f, i < n → fs[i]? = some f → ys[i * 2]? = some (.int .u64 (f.q : Int)) ∧ ys[i * 2 + 1]? = some (.int .i64 f.e)) (hf : fs[n]? = some f)
    (hown : w'.ownsRow base 33 2 v' (n + 1) (ys ++ [.int .u64 (f.q : Int), .int .i64 f.e])) : PRow w' base v' (n + 1) fs := by
  refine ⟨_, hown, fun i x hi hx => ?_⟩
  by_cases h : i < n
  · obtain ⟨a, b⟩ := h2 i x h hx
    rw [List.getElem?_append_left (by omega), List.getElem?_append_left (by omega)]
    exact ⟨a, b⟩
  · obtain rfl : i = n := by omega
    rw [hf] at hx; cases hx
    rw [List.getElem?_append_right (by omega), List.getElem?_append_right (by omega), show i * 2 - ys.length = 0 by omega, show i * 2 + 1 - ys.length = 1 by omega]
    exact ⟨rfl, rfl⟩
/-- One more entry. -/
theorem ERow.push {w w' : World} {base : Nat} {v v' u : Value} {n : Nat} {es : List En} {xs : List Value} {x : En} (h1 : w.ownsRow base 45 3 v n xs)
    (h2 : ∀ i x, i < n → es[i]? = some x → ∃ u, xs[i * 3]? = some (.int .u64 (x.p : Int)) ∧ xs[i * 3 + 1]? = some (.int .u64 (x.g : Int)) ∧ xs[i * 3 + 2]? = some u ∧ PRow w base u x.fs.length x.fs)
    (hx : es[n]? = some x) (hP : PRow w base u x.fs.length x.fs) (hg : w.grownBy w' v.ownBlock)
    (hown : w'.ownsRow base 45 3 v' (n + 1) (xs ++ [.int .u64 (x.p : Int), .int .u64 (x.g : Int), u])) : ERow w' base v' (n + 1) es := by
  have hl : xs.length = n * 3 := h1.1
  refine ⟨_, hown, fun i y hi hy => ?_⟩
  by_cases h : i < n
  · obtain ⟨u', a, b, c, d⟩ := h2 i y h hy
    rw [List.getElem?_append_left (by omega), List.getElem?_append_left (by omega), List.getElem?_append_left (by omega)]
    exact ⟨u', a, b, c, d.kept h1 hg⟩
  · obtain rfl : i = n := by omega
    rw [hx] at hy; cases hy
    rw [List.getElem?_append_right (by omega), List.getElem?_append_right (by omega), List.getElem?_append_right (by omega), show i * 3 - xs.length = 0 by omega, show i * 3 + 1 - xs.length = 1 by omega, show i * 3 + 2 - xs.length = 2 by omega]
    exact ⟨u, rfl, rfl, rfl, hP.kept h1 hg⟩
/-- Read as rows. -/
theorem PRow.to {w : World} {base : Nat} {v : Value} {fs : List Pw} (h : PRow w base v fs.length fs) (hok : ∀ f ∈ fs, f.ok) : ∃ A C, v = .slice A fs.length C ∧ PowsAt w A C fs := by
  obtain ⟨ys, h1, h2⟩ := h
  rcases h1.2 with ⟨rfl, hn⟩ | ⟨g, cap, cur, rfl, hb, hg, hc, hm, _⟩
  · refine ⟨none, 0, by rw [hn], by omega, by unfold maxLen; omega, fun i f hf => ?_⟩
    have := (List.getElem?_eq_some_iff.1 hf).1; omega
  · refine ⟨_, _, rfl, hc, hm, fun i f hf => ?_⟩
    obtain ⟨a, b⟩ := h2 i f (List.getElem?_eq_some_iff.1 hf).1 hf
    have ca := h1.cells (g := g) rfl _ _ a
    have cb := h1.cells (g := g) rfl _ _ b
    refine ⟨g, 0, rfl, (Array.getElem?_eq_some_iff.1 hg).1, ?_, ?_, hok f (List.mem_of_getElem? hf)⟩
    · rw [Nat.zero_add]; rw [Addr.add_lit] at ca; simpa using ca
    · rw [Nat.zero_add]; rw [Addr.add_lit] at cb; simpa using cb
def En.ok (x : En) : Prop := x.p < 18446744073709551616 ∧ x.g < 18446744073709551616 ∧ ∀ f ∈ x.fs, f.ok
theorem ERow.to {w : World} {base : Nat} {v : Value} {es : List En} (h : ERow w base v es.length es) (hok : ∀ x ∈ es, x.ok) : ∃ A C, v = .slice A es.length C ∧ EntsAt w A C es := by
  obtain ⟨xs, h1, h2⟩ := h
  rcases h1.2 with ⟨rfl, hn⟩ | ⟨g, cap, cur, rfl, hb, hg, hc, hm, _⟩
  · refine ⟨none, 0, by rw [hn], by omega, by unfold maxLen; omega, fun i f hf => ?_⟩
    have := (List.getElem?_eq_some_iff.1 hf).1; omega
  · refine ⟨_, _, rfl, hc, hm, fun i x hx => ?_⟩
    obtain ⟨u, a, b, c, d⟩ := h2 i x (List.getElem?_eq_some_iff.1 hx).1 hx
    have ok := hok x (List.mem_of_getElem? hx)
    obtain ⟨A', C', rfl, hP⟩ := d.to ok.2.2
    have ca := h1.cells (g := g) rfl _ _ a
    have cb := h1.cells (g := g) rfl _ _ b
    have cc := h1.cells (g := g) rfl _ _ c
    rw [Addr.add_lit] at ca cb cc
    exact ⟨g, 0, A', C', rfl, (Array.getElem?_eq_some_iff.1 hg).1, by simpa using ca, by simpa [Nat.add_assoc] using cb, by simpa [Nat.add_assoc] using cc, hP, ok.1, ok.2.1⟩
end Go.Proofs.Ytafmmkhegkceiaa

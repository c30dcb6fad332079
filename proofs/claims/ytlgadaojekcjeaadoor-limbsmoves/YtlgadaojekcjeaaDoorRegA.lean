/-
  A region that leaves its order open and makes variables: operations that read and call, then operations that lay new blocks (these may come up at any time), then operations that follow one upon another (stores). One walk serves every order; which block is which is left open.
-/
import Derived.Test.YtlgadaojekcjeaaDoorRegB
namespace Go.Proofs.YtlgadaojekcjeaaDoor
open Go.RowKit Go.Sort

/-- What was there is as it was. -/
def Cl (w w' : World) : Prop := Below w.heap.size w w'
theorem Cl.refl (w : World) : Cl w w := Below.refl _ _
theorem Cl.trans {a b c : World} (h : Cl a b) (k : Cl b c) : Cl a c := Below.trans h (Below.mono k (Below.size h))

/-- A pointer to a block. -/
def ptr (b : Nat) : Value := .pointer (some ⟨b, 0, none⟩)
/-- The world behind w, as the walk names it. -/
def at_ (w : World) (p : Regrown) : World := grow (redrawn w p.d) p.os
theorem cl_at (w : World) (p : Regrown) : Cl w (at_ w p) := below_regrown w p.d p.os
theorem at_of {w w' : World} (h : Cl w w') : ∃ p, w' = at_ w p := regrown_of_below h

/-- THE WALK: each operation of the head, in the order of the text. -/
def wpFirm (P : Program) (ops : Array Oper) (w0 : World) (Q : Act → Prop) : List Oper → Act → Prop
  | [], a => Q a
  | o :: rest, a => if Region.wanted o (yielded ops a.tmps) then ∃ v, (∀ p, o.quietAt P a (Cl (at_ w0 p)) (at_ w0 p) v) ∧ wpFirm P ops w0 Q rest (a.put o.dst v) else wpFirm P ops w0 Q rest (a.put o.dst undef)

section
variable {P : Program} {ops : Array Oper} {md : Region.Mode} {w0 : World} {al : Nat → Option Obj}

/-- In state a, in every world behind w0, the operation leaves v. -/
def YF (P : Program) (ops : Array Oper) (w0 : World) (o : Oper) (v : Value) (a : Act) : Prop :=
  (Region.wanted o (yielded ops a.tmps) = true ∧ ∀ p, o.quietAt P a (Cl (at_ w0 p)) (at_ w0 p) v) ∨ (Region.wanted o (yielded ops a.tmps) = false ∧ v = undef)

theorem YF.of_same {o : Oper} {v : Value} {a a' : Act} (hy : YF P ops w0 o v a) (he : execOp a'.eval o = execOp a.eval o)
    (hw : Region.wanted o (yielded ops a'.tmps) = Region.wanted o (yielded ops a.tmps)) : YF P ops w0 o v a' := by
  unfold YF Oper.quietAt at *
  rw [he, hw]
  exact hy

/-- What blocks have been laid, and what they hold. -/
def upd (L : Nat → Option Obj) (b : Nat) (ob : Obj) : Nat → Option Obj := fun k => if k = b then some ob else L k
def OkL (w0 : World) (L : Nat → Option Obj) (w : World) : Prop := Cl w0 w ∧ ∀ b ob, L b = some ob → w.heap[b]? = some ob
theorem OkL.cl {L : Nat → Option Obj} {w w' : World} (h : OkL w0 L w) (k : Cl w w') : OkL w0 L w' :=
  ⟨h.1.trans k, fun b ob hb => (Below.block k b (Array.getElem?_eq_some_iff.1 (h.2 b ob hb)).1).trans (h.2 b ob hb)⟩

/-- One operation. -/
def stepR (P : Program) (ops : Array Oper) (w0 : World) (al : Nat → Option Obj) (i : Nat) (K : Act → (Nat → Option Obj) → Prop) (a : Act) (L : Nat → Option Obj) : Prop :=
  match ops[i]? with
  | none => K a L
  | some o => match al i with
    | some ob => ∀ b, w0.heap.size ≤ b → L b = none → K (a.put o.dst (ptr b)) (upd L b ob)
    | none => ∃ v, YF P ops w0 o v a ∧ K (a.put o.dst v) L
theorem stepR_mono {i : Nat} {K K' : Act → (Nat → Option Obj) → Prop} {a : Act} {L : Nat → Option Obj} (h : ∀ a L, K a L → K' a L) (hh : stepR P ops w0 al i K a L) : stepR P ops w0 al i K' a L := by
  unfold stepR at *
  split at hh
  · exact h _ _ hh
  · split at hh
    · exact fun b h1 h2 => h _ _ (hh b h1 h2)
    · obtain ⟨v, h1, h2⟩ := hh
      exact ⟨v, h1, h _ _ h2⟩

/-- The operations that lay blocks do so. -/
def Lays (P : Program) (ops : Array Oper) (al : Nat → Option Obj) : Prop :=
  ∀ i o ob, ops[i]? = some o → al i = some ob → o.guard = none ∧ ∀ (a : Act) (w : World), (execOp a.eval o).run P w = .ok (.value (ptr w.heap.size)) (w.alloc ob)

theorem op_of_stepR (hal : Lays P ops al) {i : Nat} {K : Act → (Nat → Option Obj) → Prop} {K' : Act → World → Prop} {Q : Exit → Act → World → Prop} {a : Act} {L : Nat → Option Obj} {w : World}
    (hw : OkL w0 L w) (h : ∀ a L w, OkL w0 L w → K a L → K' a w) (hh : stepR P ops w0 al i K a L) : wpOp P ops Q i K' a w := by
  unfold stepR at hh
  cases ho : ops[i]? with
  | none => simp only [ho] at hh; unfold wpOp; simp only [ho]; exact h _ _ _ hw hh
  | some o =>
    simp only [ho] at hh
    cases hi : al i with
    | some ob =>
      simp only [hi] at hh
      obtain ⟨hg, hr⟩ := hal i o ob ho hi
      have hwant : Region.wanted o (yielded ops a.tmps) = true := by simp [Region.wanted, hg]
      unfold wpOp
      simp only [ho, hwant, if_true]
      refine .inl ?_
      unfold Oper.wp
      rw [hr a w]
      have hs : w0.heap.size ≤ w.heap.size := Below.size hw.1
      have hn : L w.heap.size = none := by
        cases hL : L w.heap.size with
        | none => rfl
        | some ob' => have := (Array.getElem?_eq_some_iff.1 (hw.2 _ _ hL)).1; omega
      refine h _ _ _ ?_ (hh w.heap.size hs hn)
      refine ⟨hw.1.trans ((Below.refl _ _).alloc (Nat.le_refl _) _), fun b ob' hb => ?_⟩
      unfold upd at hb
      split at hb
      · rename_i e; subst e; cases hb; exact _root_.Go.heap_alloc_new w _
      · have hlt := (Array.getElem?_eq_some_iff.1 (hw.2 _ _ hb)).1
        exact (Below.heap_alloc w ob b hlt).trans (hw.2 _ _ hb)
    | none =>
      simp only [hi] at hh
      obtain ⟨v, hy, hk⟩ := hh
      refine wpOp_of_qOp (C := Cl w) (K := fun a' => K a' L) (Cl.refl w) (fun a' w' hw' hK => h _ _ _ (hw.cl hw') hK) ?_
      unfold qOp
      simp only [ho]
      rcases hy with ⟨hwant, hv⟩ | ⟨hwant, rfl⟩
      · simp only [hwant, if_true]
        refine ⟨v, fun w' hw' => ?_, hk⟩
        obtain ⟨p, rfl⟩ := at_of (hw.1.trans hw')
        have := hv p
        unfold Oper.quietAt at *
        revert this
        generalize (execOp a.eval o).run P (at_ w0 p) = r
        intro this
        cases r with
        | ok nx w2 =>
          cases nx <;> try exact this
          obtain ⟨e, hc⟩ := this
          exact ⟨e, hc.mono fun _ _ ⟨he, hb⟩ => ⟨he, hw'.trans hb⟩⟩
        | halt x w2 => exact this
      · simp only [hwant, Bool.false_eq_true, if_false]; exact hk

/-- Some operations of the head, in whatever order. -/
def headR (P : Program) (md : Region.Mode) (ops : Array Oper) (w0 : World) (al : Nat → Option Obj) (n : Nat) (F : Array Bool → Act → (Nat → Option Obj) → Prop) : Nat → Array Bool → Act → (Nat → Option Obj) → Prop
  | 0, s, a, L => F s a L
  | f + 1, s, a, L => Region.ready md ops s ≠ [] ∧ ∀ i ∈ Region.ready md ops s, i < n ∧ stepR P ops w0 al i (headR P md ops w0 al n F f (s.setIfInBounds i true)) a L

theorem any_of_headR (hal : Lays P ops al) {n g : Nat} {F : Array Bool → Act → (Nat → Option Obj) → Prop} {Q : Exit → Act → World → Prop} (hF : ∀ s a L w, OkL w0 L w → F s a L → wpAny P md ops Q g s a w) :
    ∀ (f : Nat) (s : Array Bool) (a : Act) (L : Nat → Option Obj) (w : World), OkL w0 L w → headR P md ops w0 al n F f s a L → wpAny P md ops Q (f + g) s a w
  | 0, s, a, L, w, hw, h => by rw [Nat.zero_add]; exact hF s a L w hw h
  | f + 1, s, a, L, w, hw, h => by
    rw [show f + 1 + g = (f + g) + 1 by omega]
    exact ⟨fun h0 => absurd h0 h.1, fun i hi => op_of_stepR hal hw (fun a' L' w' hw' h' => any_of_headR hal hF f _ a' L' w' hw' h') (h.2 i hi).2⟩
/-- Only so many blocks. -/
def Bd (L : Nat → Option Obj) : Prop := ∃ B, ∀ b, B ≤ b → L b = none
theorem Bd.upd {L : Nat → Option Obj} (h : Bd L) (b : Nat) (ob : Obj) : Bd (upd L b ob) := by
  obtain ⟨B, hB⟩ := h
  refine ⟨max B (b + 1), fun k hk => ?_⟩
  unfold Go.Proofs.YtlgadaojekcjeaaDoor.upd
  rw [if_neg (by omega)]
  exact hB k (by omega)
theorem stepR_mono' {i : Nat} {K K' : Act → (Nat → Option Obj) → Prop} {a : Act} {L : Nat → Option Obj} (hL : Bd L) (h : ∀ a L, Bd L → K a L → K' a L) (hh : stepR P ops w0 al i K a L) : stepR P ops w0 al i K' a L := by
  unfold stepR at *
  split at hh
  · exact h _ _ hL hh
  · split at hh
    · exact fun b h1 h2 => h _ _ (hL.upd _ _) (hh b h1 h2)
    · obtain ⟨v, h1, h2⟩ := hh
      exact ⟨v, h1, h _ _ hL h2⟩
theorem stepR_get {i : Nat} {K : Act → (Nat → Option Obj) → Prop} {a : Act} {L : Nat → Option Obj} (hL : Bd L) (hh : stepR P ops w0 al i K a L) : ∃ a' L', K a' L' := by
  unfold stepR at *
  split at hh
  · exact ⟨_, _, hh⟩
  · split at hh
    · obtain ⟨B, hB⟩ := hL
      exact ⟨_, _, hh (max B w0.heap.size) (by omega) (hB _ (by omega))⟩
    · obtain ⟨v, h1, h2⟩ := hh
      exact ⟨_, _, h2⟩

theorem swapR {i j : Nat} {oi oj : Oper} (hi : ops[i]? = some oi) (hj : ops[j]? = some oj) (hap : oi.apart ops oj = true) (hsi : ∀ cs b, oi.op ≠ .select cs b) (hsj : ∀ cs b, oj.op ≠ .select cs b)
    (hq : al i ≠ none → al j ≠ none) {M : Act → (Nat → Option Obj) → Prop} {a : Act} {L : Nat → Option Obj}
    (h : stepR P ops w0 al i (fun a' L' => stepR P ops w0 al j M a' L') a L) : stepR P ops w0 al j (fun a' L' => stepR P ops w0 al i M a' L') a L := by
  obtain ⟨h1, h2, h3⟩ := Oper.apart_spec hap
  unfold stepR at *
  simp only [hi, hj] at *
  cases ei : al i with
  | some ob =>
    cases ej : al j with
    | none => exact absurd ej (hq (by rw [ei]; simp))
    | some ob' =>
      simp only [ei, ej] at *
      intro b' hb' hn' b hb hn
      unfold upd at hn
      split at hn
      · cases hn
      · rename_i hne
        have := h b hb hn b' hb' (by unfold upd; rw [if_neg (fun e => hne e.symm)]; exact hn')
        rw [Act.put_comm a _ _ h2] at this
        have e : upd (upd L b ob) b' ob' = upd (upd L b' ob') b ob := by
          funext k
          unfold upd
          by_cases k1 : k = b <;> by_cases k2 : k = b' <;> simp_all
        rw [e] at this
        exact this
  | none =>
    cases ej : al j with
    | some ob' =>
      simp only [ei, ej] at *
      obtain ⟨v, hy, hk⟩ := h
      intro b hb hn
      refine ⟨v, hy.of_same (execOp_put oi hsi a oj.dst _ h3) (wanted_put oi a oj.dst _ h3), ?_⟩
      rw [← Act.put_comm a _ _ h2]
      exact hk b hb hn
    | none =>
      simp only [ei, ej] at *
      obtain ⟨v, hy, u, hu, hk⟩ := h
      refine ⟨u, hu.of_same (execOp_put oj hsj a oi.dst _ h1).symm (wanted_put oj a oi.dst _ h1).symm, v, hy.of_same (execOp_put oi hsi a oj.dst _ h3) (wanted_put oi a oj.dst _ h3), ?_⟩
      rw [← Act.put_comm a _ _ h2]
      exact hk

theorem headR_first {n i : Nat} {oi : Oper} {F : Array Bool → Act → (Nat → Option Obj) → Prop} (hi : ops[i]? = some oi) (hsel : ∀ (j : Nat) (o : Oper) cs b, ops[j]? = some o → o.op ≠ .select cs b)
    (hs : Region.sinkB md ops n = true) (hc : Region.chainB md ops n = true) (hn : n < ops.size) (hin : i < n) (hdone : ∀ s a L, F s a L → ∀ j ∈ Region.ready md ops s, n ≤ j) :
    ∀ (f : Nat) (s : Array Bool) (a : Act) (L : Nat → Option Obj), HeadInv md ops n s → Bd L →
      (∀ j oj, ops[j]? = some oj → j ≠ i → s.getD j true = false → (∀ e ∈ oj.after, Region.binds md e = true → e.on ≠ i) → oi.apart ops oj = true) →
      (al i ≠ none → ∀ j, j < n → s.getD j true = false → al j ≠ none) →
      i ∈ Region.ready md ops s → stepR P ops w0 al i (headR P md ops w0 al n F f (s.setIfInBounds i true)) a L → headR P md ops w0 al n F (f + 1) s a L := by
  intro f
  induction f with
  | zero =>
    intro s a L inv hL _ _ hr H
    refine ⟨fun h => (by rw [h] at hr; cases hr), fun j hj => ⟨in_head hs hc hn inv hin hr hj, ?_⟩⟩
    by_cases e : j = i
    · subst e; exact H
    · obtain ⟨a', L', hF⟩ := stepR_get hL H
      have h1 := hdone _ _ _ hF j (ready_mono hj e)
      have h2 := in_head hs hc hn inv hin hr hj
      omega
  | succ f ih =>
    intro s a L inv hL free hq hr H
    refine ⟨fun h => (by rw [h] at hr; cases hr), fun j hj => ⟨in_head hs hc hn inv hin hr hj, ?_⟩⟩
    by_cases e : j = i
    · subst e; exact H
    · obtain ⟨un, oj, hoj, hall⟩ := mem_ready.1 hj
      have hjn := in_head hs hc hn inv hin hr hj
      have no : ∀ x ∈ oj.after, Region.binds md x = true → x.on ≠ i := fun x hx hb he => by
        have := hall x hx hb
        rw [he, getD_both (mem_ready.1 hr).1] at this
        cases this
      have keep : ∀ k, (s.setIfInBounds j true).getD k true = false → s.getD k true = false := fun k hu => by
        by_cases hjk : j = k
        · subst hjk; exact un
        · rw [getD_set_ne true hjk] at hu; exact hu
      have H' := swapR hi hoj (free j oj hoj e un no) (fun cs b => hsel i oi cs b hi) (fun cs b => hsel j oj cs b hoj) (fun h => hq h j hjn un) (stepR_mono (fun a' L' h => (h.2 j (ready_mono hj e)).2) H)
      refine stepR_mono' hL (fun a' L' hL' h3 => ih _ a' L' (inv.set hj hjn) hL' (fun k ok hk hki hu hno => free k ok hk hki (keep k hu) hno) (fun h k hk hu => hq h k hk (keep k hu)) (ready_mono hr (Ne.symm e)) ?_) H'
      rw [Array.setIfInBounds_comm _ _ e]
      exact h3

/-- THE WALK in the order of the text. -/
def headL (P : Program) (ops : Array Oper) (w0 : World) (al : Nat → Option Obj) (F : Act → (Nat → Option Obj) → Prop) : Nat → Nat → Act → (Nat → Option Obj) → Prop
  | 0, _, a, L => F a L
  | c + 1, k, a, L => stepR P ops w0 al k (headL P ops w0 al F c (k + 1)) a L

theorem headR_lex {n g : Nat} {F : Act → (Nat → Option Obj) → Prop} (hsel : Region.noSelect ops = true) (hs : Region.sinkB md ops n = true) (hc : Region.chainB md ops n = true) (hn : n < ops.size)
    (hq : ∀ i j, i ≤ j → j < n → al i ≠ none → al j ≠ none) :
    ∀ (c k : Nat) (s : Array Bool) (a : Act) (L : Nat → Option Obj), k + c = n → (∀ j, j < n → s.getD j true = false → k ≤ j) → HeadInv md ops n s → Bd L →
    Region.lexHead md ops g c k s = true → headL P ops w0 al F c k a L → headR P md ops w0 al n (fun s' a' L' => Region.seqB md ops g n s' = true ∧ F a' L') c s a L
  | 0, k, s, a, L, hk, _, _, _, hB, h => by
    have e : k = n := by simpa using hk
    subst e
    exact ⟨by simpa [Region.lexHead] using hB, h⟩
  | c + 1, k, s, a, L, hk, hord, inv, hL, hB, h => by
    have hkn : k < ops.size := by omega
    have h0 : ops[k]? = some ops[k] := by simp
    simp only [Region.lexHead, Bool.and_eq_true] at hB
    have hr : k ∈ Region.ready md ops s := by simpa using hB.1.1
    have hks : k < s.size := by rw [inv.size]; exact hkn
    refine headR_first h0 (Region.noSelect_spec hsel) hs hc hn (by omega) (fun s' a' L' hF => seqB_ready hF.1) c s a L inv hL (Region.free_spec h0 hB.1.2) (fun h j hj hu => hq k j (hord j hj hu) hj h) hr ?_
    refine stepR_mono' hL (fun a' L' hL' h3 => headR_lex hsel hs hc hn hq c (k + 1) _ a' L' (by omega) (fun j hj hu => ?_) (inv.set hr (by omega)) hL' hB.2 h3) h
    by_cases e : k = j
    · subst e
      rw [Array.getD_eq_getD_getElem?, Array.getElem?_setIfInBounds_self_of_lt hks] at hu
      cases hu
    · rw [getD_set_ne true e] at hu
      have := hord j hj hu
      omega

theorem headL_firm {F : Act → (Nat → Option Obj) → Prop} {c k : Nat} {a : Act} {L : Nat → Option Obj} {o : Oper} (v : Value) (ho : ops[k]? = some o) (hk : al k = none) (hg : o.guard = none) (hv : ∀ p, o.quietAt P a (Cl (at_ w0 p)) (at_ w0 p) v)
    (h : headL P ops w0 al F c (k + 1) (a.put o.dst v) L) : headL P ops w0 al F (c + 1) k a L := by
  show stepR P ops w0 al k _ a L
  unfold stepR
  simp only [ho, hk]
  exact ⟨v, .inl ⟨by simp [Region.wanted, hg], hv⟩, h⟩
theorem headL_lay {F : Act → (Nat → Option Obj) → Prop} {c k : Nat} {a : Act} {L : Nat → Option Obj} {o : Oper} (ob : Obj) (ho : ops[k]? = some o) (hk : al k = some ob)
    (h : ∀ b, w0.heap.size ≤ b → L b = none → headL P ops w0 al F c (k + 1) (a.put o.dst (ptr b)) (upd L b ob)) : headL P ops w0 al F (c + 1) k a L := by
  show stepR P ops w0 al k _ a L
  unfold stepR
  simp only [ho, hk]
  exact h
end

/-- THE LAW. -/
theorem wp_region_lays {P : Program} {id : Nat} {Q : Exit → Act → World → Prop} {a : Act} {w : World} {l : List Oper} (n : Nat) (al : Nat → Option Obj) (hm : P.follows .mixedOrders = true) (hB : Region.lexTailB .any l.toArray n = true)
    (hal : Lays P l.toArray al) (hq : ∀ i j, i ≤ j → j < n → al i ≠ none → al j ≠ none)
    (h : headL P l.toArray w al (fun a' L => ∀ w', OkL w L w' → wpList P l.toArray Q (l.drop n) a' w') n 0 a (fun _ => none)) : (Code.region id l.toArray true).wp P Q a w := by
  simp only [Region.lexTailB, Bool.and_eq_true, decide_eq_true_eq] at hB
  obtain ⟨⟨⟨⟨hsel, hn⟩, hs⟩, hc⟩, hlex⟩ := hB
  have dl : (l.drop n).length = l.toArray.size - n := by simp
  have inv0 : HeadInv .any l.toArray n (Array.replicate l.toArray.size false) :=
    ⟨by simp, fun j oj _ hl => (by rw [getD_replicate_false] at hl; cases hl), fun t _ ht => getD_in (by simpa using ht) (getD_replicate_false _ _)⟩
  have H := headR_lex (md := .any) (g := l.toArray.size - n) hsel hs hc hn hq n 0 _ a _ (by omega) (fun j _ _ => Nat.zero_le j) inv0 ⟨0, fun _ _ => rfl⟩ hlex h
  have K := any_of_headR (Q := Q) (g := l.toArray.size - n) hal (fun s a' L w' hw' hL => by
    have := wpAny_of_seq (md := .any) (Q' := Q) (l.drop n) n s a' w' (fun j => by simp [List.getElem?_drop]) (by rw [dl]; exact hL.1) (hL.2 w' hw')
    rwa [dl] at this) _ _ _ _ { w with drawn := w.drawn + 1 } ⟨(Below.refl w.heap.size w).drew, fun b ob hb => (by cases hb)⟩ H
  rw [show n + (l.toArray.size - n) = l.toArray.size by omega] at K
  exact wp_region_any hm K
end Go.Proofs.YtlgadaojekcjeaaDoor

/-
  A range over a function whose iterator goes along a row that is known ahead: the k-th round is walked at the row's k-th element alone. No condition.
-/
import Derived.Test.YtpjfapibjihbbaaGreatDoorF39
import Derived.Test.YtpjfapibjihbbaaGreatDoorF36
import Derived.Test.YtpjfapibjihbbaaGreatDoorF41
import Derived.Test.YtpjfapibjihbbaaGreatDoorF33
import Derived.Test.YtpjfapibjihbbaaGreatDoorF31
import Derived.RangeFuncNested
import Derived.RangeFuncCalls
import Derived.OrdersIn
namespace Go.Proofs.YtpjfapibjihbbaaGreatDoor
set_option linter.unusedVariables false
open Go.RowKit Go.Shelf

/-- An iterator that goes along a row, from its first element to its last one, unless it is stopped (which is not said here). -/
def Along {α : Type} (F : Fence) (n : Nat) (P : Program) (gf : Nat) (lb : Array Value) (encs : α → Array Value) (xs : List α) (Kp : World → World → Prop) (w0 : World) : Prop :=
  ∀ (l : Nat) (J : Nat → World → Prop) (V : World), Below w0.heap.size w0 V → AbidesFrom V.heap.size J →
    (∀ (k : Nat) (x : α) (X : World), xs[k]? = some x → J k X → YieldAt F (n - 1) P l (encs x) X fun e Y => e = .returned (.bool true) ∧ J (k + 1) Y ∧ Kp X Y) →
    J 0 V → CallsIn F n P gf (#[.func (.yield l) #[] #[]] ++ lb) V fun e Y => (∃ v, e = .returned v) ∧ J xs.length Y
/-- What a round ends with. -/
abbrev alongPost (B : Nat) (Kp : World → World → Prop) (I : Nat → World → Prop) (k : Nat) (W : World) : Exit → Act → World → Prop := ownPostG B Kp (fun (_ : List Unit) Y => I (k + 1) Y) (fun _ _ _ => False) [] W
theorem not_cells {X : World} {B : Nat} {row : Option Nat} (h : ∀ r, row = some r → B ≤ r ∧ ∃ o : Obj, X.heap[r]? = some o ∧ o.isWalk = true) {B' : Nat} (hB : B' ≤ B) : ∀ r, row = some r → B' ≤ r ∧ ∃ o : Obj, X.heap[r]? = some o ∧ o.isCells = false := fun r e => by
  obtain ⟨h1, o, h2, h3⟩ := h r e
  exact ⟨Nat.le_trans hB h1, o, h2, Obj.not_cells_of_walk h3⟩
theorem range_along {α : Type} {F : Fence} {n : Nat} {P : Program} {w : World} {g : Operand} {ps : Array Tmp} {assign body : Code} {Q : Exit → Act → World → Prop} {a : Act}
    (hro : F.round = none) (h1 : 1 ≤ n) {gf : Nat} {lb : Array Value} (hg : a.eval g = .func (.func gf) #[] lb) (hFg : F.fn gf) (eg : ∀ args w, (callFunc gf args).run P w = .ok (.enter gf args) w)
    {encs : α → Array Value} {xs : List α} {Kp : World → World → Prop} {w0 : World} (hseq : Along F (n - 1) P gf lb encs xs Kp w0) (hKt : ∀ {A B C : World}, Kp A B → Kp B C → Kp A C)
    (hKb : ∀ (W : World) (l : Nat) (o o' : Obj), w.heap.size ≤ l → W.heap[l]? = some o → o.isCells = false → o.isWalk = false → Kp W (W.putObj l o')) (hb0 : Below w0.heap.size w0 w) (hps : ∀ x ∈ xs, (encs x).size = ps.size)
    (I : Nat → World → Prop) (hI : OwnFrom w.heap.size I) (h0 : I 0 w) (act : α → Act)
    (hassign : ∀ (l : Nat) (x : α) (W : World) (K : Act → World → Prop), x ∈ xs → K (act x) W → assign.wpIn (F.inRound l) (n - 1 - 1) P (Exit.then K (fun _ _ _ => False)) { tmps := (ps.zip (encs x)).foldl (fun t (p, v) => t.setIfInBounds p v) a.tmps, defers := [] } W)
    (hbody : ∀ (l k : Nat) (x : α) (W : World), xs[k]? = some x → I k W → body.wpIn (F.inRound l) (n - 1 - 1) P (alongPost w.heap.size Kp I k W) (act x) W)
    (hdone : ∀ (D : Nat) (W : World), w.heap.size ≤ D → I xs.length W → W.heap[D]? = some (.deferred (some [])) → Q .normal { a with defers := { target := .collected D, args := #[] } :: a.defers } W) :
    (Code.rangeFunc g ps assign body).wpIn F n P Q a w := by
  refine wpIn_rangeFunc fun fn hfn => ?_
  rw [hro]
  -- the two blocks that the loop lays: the rounds' deferred calls, and its record
  obtain ⟨K, hK⟩ : ∃ K, w.heap.size = K := ⟨_, rfl⟩
  obtain ⟨rc, hrc⟩ : ∃ rc : Loop, rc = { state := .ready, pending := none, fn, tmps := a.tmps, params := ps, assign, body, defers := K } := ⟨_, rfl⟩
  obtain ⟨V, hV⟩ : ∃ V, (w.alloc (.deferred (some []))).alloc (.loop rc) = V := ⟨_, rfl⟩
  have hsz : V.heap.size = K + 2 := by rw [← hV, ← hK]; simp
  have hbV : Below w.heap.size w V := by rw [← hV]; exact bb (below_alloc _ _) (below_alloc _ _)
  have hrec : V.heap[K + 1]? = some (.loop rc) := by
    have := World.alloc_heap_new (w.alloc (.deferred (some []))) (.loop rc)
    rwa [hV, World.size_alloc, hK] at this
  have hdef : V.heap[K]? = some (.deferred (some [])) := by
    rw [← hV, Below.heap_alloc _ _ _ (by rw [World.size_alloc]; omega), ← hK]
    exact World.alloc_heap_new w _
  rw [hK] at hI
  refine ⟨K + 1, [{ target := .collected K, args := #[] }], V, { target := .fn (.func gf) lb, args := #[.func (.yield (K + 1)) #[] #[]] }, V, gf, #[.func (.yield (K + 1)) #[] #[]] ++ lb, V, ?_, ?_, ?_, ?_, fun _ => h1, ?_⟩
  · have := run_enterLoop_outer (P := P) (w := w) fn a.tmps ps assign body
    rw [hK] at this
    rw [this, ← hV, hrc]
  · simp only [resolve, hg]
    simp [go_sem]
  · intro f hf
    simp [Target.leads] at hf
    rw [← hf]; exact hFg
  · simp [invoke, go_sem, eg]
  have hKK : ∀ (W : World) (l : Nat) (o o' : Obj), K ≤ l → W.heap[l]? = some o → o.isCells = false → o.isWalk = false → Kp W (W.putObj l o') := fun W l o o' hl => hKb W l o o' (by omega)
  refine (hseq (K + 1) (fun k X => I k X ∧ X.heap[K + 1]? = some (.loop rc) ∧ X.heap[K]? = some (.deferred (some []))) V (hb0.trans (hbV.mono hb0.size)) ?_ ?_ ⟨?_, hrec, hdef⟩).mono ?_
  · -- what the iterator does leaves all three
    rintro s X Y row ⟨q1, q2, q3⟩ hgr hr
    have hw := fun r e => (hr r e).2
    exact ⟨hI s X Y row q1 hgr (not_cells hr (by omega)), (grownBy_keeps hgr hw q2 rfl).trans q2, (grownBy_keeps hgr hw q3 rfl).trans q3⟩
  · -- a round
    rintro k x X hx ⟨q1, q2, q3⟩
    have hxm := List.mem_of_getElem? hx
    have hlt : K + 1 < X.heap.size := (Array.getElem?_eq_some_iff.1 q2).1
    have hy := run_yield (P := P) (args := encs x) q2 (by rw [hrc]; exact hps x hxm)
    have hbeg := run_beginRound (P := P) q2 (by rw [hrc])
    obtain ⟨bz, hbz⟩ : ∃ bz : Loop, { rc with state := .busy } = bz := ⟨_, rfl⟩
    rw [hbz] at hbeg
    obtain ⟨X2, hX2⟩ : ∃ X2, X.putObj (K + 1) (.loop bz) = X2 := ⟨_, rfl⟩
    rw [hX2] at hbeg
    have q4 : X2.heap[K + 1]? = some (.loop bz) := by rw [← hX2]; exact World.putObj_heap_same hlt
    have q5 : X2.heap[K]? = some (.deferred (some [])) := by rw [← hX2]; exact (World.putObj_heap_other (by omega)).trans q3
    have q6 : Kp X X2 := by rw [← hX2]; exact hKK _ _ _ _ (by omega) q2 rfl rfl
    have q7 : I k X2 := by rw [← hX2]; exact hI.putObj _ q1 (by omega) q2 rfl
    refine ⟨fn, (ps.zip (encs x)).foldl (fun t (p, v) => t.setIfInBounds p v) a.tmps, assign, body, by rw [hy, hrc], roundIn_of_wpIn hfn (hassign (K + 1) x X _ hxm ⟨X2, hbeg, wpIn_mono (hbody (K + 1) k x X2 hx q7) ?_⟩)⟩
    intro e act' Y hp
    cases e with
    | normal =>
      obtain ⟨p1, p2, p3⟩ := hp
      have q8 := p1.same (K + 1) _ (by omega) q4 rfl
      have q9 := p1.same K _ (by omega) q5 rfl
      have hend := run_endRound (P := P) none q8
      have e1 : (({ bz with state := if (none : Option Code).isNone then .ready else .done, pending := none } : Loop)) = rc := by rw [← hbz, hrc]; rfl
      rw [e1] at hend
      refine ⟨_, _, hend, rfl, ⟨hI.putObj _ p3 (by omega) q8 rfl, ?_, ?_⟩, hKt q6 (hKt p2 (hKK _ _ _ _ (by omega) q8 rfl rfl))⟩
      · exact World.putObj_heap_same (Array.getElem?_eq_some_iff.1 q8).1
      · exact (World.putObj_heap_other (by omega)).trans q9
    | ret => exact hp.2.elim
    | exit id => exact hp.2.elim
    | goto t => exact hp.2.elim
    | panic ch => exact hp.elim
    | outgrown => exact hp.elim
  · -- at its start
    rw [← hV]
    exact hI.alloc _ (hI.alloc _ h0)
  · -- behind it
    rintro e Y ⟨⟨v, rfl⟩, q1, q2, q3⟩
    have hend := run_endLoop (P := P) q2 (by rw [hrc]; simp)
    have hpe : rc.pending = none := by rw [hrc]
    rw [hpe] at hend
    refine ⟨none, _, hend, ?_⟩
    have := hdone K _ (by omega) (hI.putObj (.loop { rc with state := .exhausted }) q1 (show K ≤ K + 1 by omega) q2 rfl) ((World.putObj_heap_other (by omega)).trans q3)
    rw [show [({ target := .collected K, args := #[] } : Deferred)] ++ a.defers = { target := .collected K, args := #[] } :: a.defers from rfl]
    rw [hrc] at this ⊢
    exact this
end Go.Proofs.YtpjfapibjihbbaaGreatDoor
/-
  slices.Backward at ints, as an iterator that goes along a row of ints, from the last to the first. No condition but that the row lies there.
-/
namespace Go.Proofs.YtpjfapibjihbbaaGreatDoor
set_option linter.unusedVariables false
open Go.RowKit Go.Shelf
attribute [local go_sem] Oper.semAt_some

theorem bk_at {ds : List Nat} {k j d : Nat} (h : (bk ds)[k]? = some (j, d)) : k < ds.length ∧ j + k + 1 = ds.length ∧ ds[j]? = some d := by
  have hk : k < ds.length := by
    have := (List.getElem?_eq_some_iff.1 h).1
    rwa [bk_len] at this
  obtain ⟨e, he⟩ : ∃ e, ds[ds.length - 1 - k]? = some e := ⟨_, List.getElem?_eq_getElem (by omega)⟩
  have := bk_get ds he
  rw [show ds.length - 1 - (ds.length - 1 - k) = k by omega, h] at this
  simp only [Option.some.injEq, Prod.mk.injEq] at this
  obtain ⟨rfl, rfl⟩ := this
  exact ⟨hk, by omega, he⟩
abbrev encP (x : Nat × Nat) : Array Value := #[.int .i64 (x.1 : Int), .int .i64 (x.2 : Int)]
set_option maxRecDepth 100000 in
set_option maxHeartbeats 2000000 in
theorem back1_along (n : Nat) (hn : 1 ≤ n) (l B n₁ : Nat) (A : Option Addr) (C L : Nat) (ds : List Nat) (hL : ds.length = L) (hlen : (L : Int) ≤ 9223372036854775807) (J : Nat → World → Prop)
    (hY : ∀ k x W, (bk ds)[k]? = some x → J k W → YieldAt Fence.wide (n - 1) Tryz.prog l (encP x) W fun e W' => e = .returned (.bool true) ∧ J (k + 1) W' ∧ KB n₁ B W W')
    (W : World) (hB : W.cell? ⟨B, 0, none⟩ = some (.slice A L C)) (hc : ∀ (j d : Nat), ds[j]? = some d → ∃ b o, A = some ⟨b, o, none⟩ ∧ b < n₁ ∧ W.cell? ⟨b, o + j, none⟩ = some (.int .i64 (d : Int))) (h0 : J 0 W) :
    CallsIn Fence.wide n Tryz.prog 135 #[.func (.yield l) #[] #[], .pointer (some ⟨B, 0, none⟩)] W fun e W' => (∃ v, e = .returned v) ∧ J L W' := by
  refine callsIn_of_wp Tryz.func135 rfl trivial ?_ rfl
  simp only [Tryz.ntmps135, List.size_toArray, List.length_cons, List.length_nil, Nat.reduceAdd, Nat.reduceSub, Array.replicate_succ, Array.replicate_zero, List.push_toArray, List.append_toArray, List.nil_append, List.cons_append]
  gi_wp2
  gi_loopw [3] (fun i wr => ∃ m : Nat, m ≤ L ∧ i = .int .i64 ((m : Int) - 1) ∧ J (L - m) wr ∧ KB n₁ B W wr) (fun i _ => (intOf i + 1).toNat)
  case atStart => exact ⟨L, Nat.le_refl _, rfl, by rw [Nat.sub_self]; exact h0, KB.refl _ _ _⟩
  case round =>
    obtain ⟨m, hm, rfl, hJs, hK⟩ := hrel
    have hBx := hK.2.trans hB
    cases m with
    | zero =>
      have hneg : ¬ (0 : Int) ≤ ((0 : Nat) : Int) - 1 := by omega
      gi_wp2
      go_end0
      exact ⟨⟨_, rfl⟩, hJs⟩
    | succ m =>
      obtain ⟨d, hd⟩ : ∃ d, ds[m]? = some d := ⟨_, List.getElem?_eq_getElem (by omega)⟩
      obtain ⟨b, o, rfl, hb, c0⟩ := hc m d hd
      have c0' := (hK.1.cell (p := ⟨b, o + m, none⟩) hb).trans c0
      have hg := bk_get ds hd
      rw [hL, show L - 1 - m = L - (m + 1) by omega] at hg
      obtain ⟨fn, tmps, assign, body, hy, hR⟩ := hY (L - (m + 1)) (m, d) wr hg hJs
      dsimp only [encP] at hy
      have hm1 : ((m + 1 : Nat) : Int) - 1 = (m : Int) := by omega
      have hml : (m : Int) < (L : Int) := by omega
      have HLm : Hid (L - (m + 1) + 1 = L - m) := by unfold Hid; omega
      rw [hm1]
      clear c0 hd hg hm1
      gi_wp2
      refine hR.mono ?_
      rintro e W3 ⟨rfl, hJ3, hk3⟩
      rw [HLm.out] at hJ3
      gi_wp2
      go_roundw
      case rel => exact ⟨m, by omega, by first | rfl | go_num, hJ3, hK.trans hk3⟩
      case measure => simp [intOf]
theorem back_along (n : Nat) (hn : 1 ≤ n) (B n₁ : Nat) (A : Option Addr) (C L : Nat) (ds : List Nat) (hL : ds.length = L) (w : World) (hB : B < w.heap.size) (hc : w.cell? ⟨B, 0, none⟩ = some (.slice A L C)) (W0 : World) (hW0 : W0.heap.size ≤ n₁) (hZ : ZAt W0 A C (ints ds)) (hb0 : Below W0.heap.size W0 w) :
    Along Fence.wide n Tryz.prog 135 #[.pointer (some ⟨B, 0, none⟩)] encP (bk ds) (KB n₁ B) w := fun l J V hV _ hY h0 => by
  have := back1_along n hn l B n₁ A C L ds hL (by have := hZ.len; rw [ints_len, hL] at this; exact this) J hY V ((hV.cell (p := ⟨B, 0, none⟩) hB).trans hc) (fun j d hd => by
    obtain ⟨b, o, hA, hb, c0⟩ := (hZ.below (hb0.trans (hV.mono hb0.size))).nat hd
    obtain ⟨b', o', hA', hb', _⟩ := hZ.nat hd
    rw [hA] at hA'
    cases hA'
    exact ⟨b, o, hA, by omega, c0⟩) h0
  rw [bk_len, hL]
  exact this
end Go.Proofs.YtpjfapibjihbbaaGreatDoor
/-
  A region within a round of a range over a function, that leaves its order open: its first operations read and call what only draws, and its last ones follow one upon another: one walk serves every order.
-/
namespace Go.Proofs.YtpjfapibjihbbaaGreatDoor
open Go.RowKit Go.Sort

section
variable {P : Program} {ops : Array Oper} {md : Region.Mode} {C : World → Prop} {r m : Nat} {Q : Exit → Act → World → Prop}

def noDeferB (ops : Array Oper) : Bool := ops.all fun o => match o.op with
  | .defer _ => false
  | _ => true
theorem noDefer_spec (h : noDeferB ops = true) {j : Nat} {o : Oper} (ho : ops[j]? = some o) : ∀ c, o.op ≠ .defer c := fun c e => by
  obtain ⟨hj, rfl⟩ := Array.getElem?_eq_some_iff.1 ho
  have := Array.all_eq_true.1 h j hj
  rw [e] at this
  cases this
theorem wpIn_of_quietR {o : Oper} (hnd : ∀ c, o.op ≠ .defer c) {a : Act} {K : Act → Prop} {K' : Act → World → Prop} {w : World} (hw : C w) (h : ∀ a w', C w' → K a → K' a w') (hh : o.quiet P a C K) : o.wpIn (Fence.wide.inRound r) m P a w K' Q := by
  obtain ⟨v, h1, h2⟩ := hh
  have h3 := h1 w hw
  unfold Oper.quietAt at h3
  unfold Oper.wpIn
  refine ⟨fun f _ => trivial, ?_⟩
  rw [show (Fence.wide.inRound r).round = some r from rfl, Oper.semAt_some r _ o hnd]
  generalize (execOp a.eval o).run P w = x at *
  cases x with
  | ok n w' =>
    cases n <;> simp only [Oper.quietUpon] at h3 <;> simp only [Oper.uponIn]
    case value u =>
      obtain ⟨e1, e2⟩ := h3
      rw [e1, e2]
      exact h _ _ hw h2
    case skip =>
      obtain ⟨e1, e2⟩ := h3
      rw [e1, ← e2]
      exact h _ _ hw h2
    case enter f args =>
      obtain ⟨e1, hc⟩ := h3
      rw [e1]
      refine ⟨fun e => (by cases e), CallsIn.mono (CallsIn.inRound r (callsIn_wide.2 hc)) ?_⟩
      rintro e w'' ⟨rfl, hw''⟩
      exact h _ _ hw'' h2
  | halt x w' => simp only [Oper.quietUpon] at h3
theorem wpOpIn_of_qOpR (hnd : noDeferB ops = true) {i : Nat} {a : Act} {K : Act → Prop} {K' : Act → World → Prop} {w : World} (hC : C w) (h : ∀ a w', C w' → K a → K' a w') (hh : qOp P ops C i K a) : wpOpIn (Fence.wide.inRound r) m P ops Q i K' a w := by
  unfold qOp at hh
  unfold wpOpIn
  split
  · rename_i ho; simp only [ho] at hh; exact h _ _ hC hh
  · rename_i o ho
    simp only [ho] at hh
    split
    · rename_i hw; simp only [hw, if_true] at hh; exact wpIn_of_quietR (noDefer_spec hnd ho) hC h hh
    · rename_i hw; simp only [hw] at hh; exact ⟨fun f _ => trivial, h _ _ hC hh⟩
theorem anyIn_of_headQ (hnd : noDeferB ops = true) {n g : Nat} {L : Array Bool → Act → Prop} (hL : ∀ s a w, C w → L s a → wpAnyIn (Fence.wide.inRound r) m P md ops Q g s a w) :
    ∀ (f : Nat) (s : Array Bool) (a : Act) (w : World), C w → headQ P md ops C n L f s a → wpAnyIn (Fence.wide.inRound r) m P md ops Q (f + g) s a w
  | 0, s, a, w, hw, h => by rw [Nat.zero_add]; exact hL s a w hw h
  | f + 1, s, a, w, hw, h => by
    rw [show f + 1 + g = (f + g) + 1 by omega]
    exact ⟨fun h0 => absurd h0 h.1, fun i hi => wpOpIn_of_qOpR hnd hw (fun a' w' hw' h' => anyIn_of_headQ hnd hL f _ a' w' hw' h') (h.2 i hi).2⟩
theorem wpAnyIn_of_seq : ∀ (l : List Oper) (k : Nat) (listed : Array Bool) (a : Act) (w : World), (∀ j, l[j]? = ops[k + j]?) →
    Region.seqB md ops l.length k listed = true → wpListIn (Fence.wide.inRound r) m P ops Q l a w → wpAnyIn (Fence.wide.inRound r) m P md ops Q l.length listed a w
  | [], _, _, _, _, _, hB, h => ⟨by simpa [Region.seqB] using hB, h⟩
  | o :: l, k, listed, a, w, hl, hB, h => by
    have h0 : ops[k]? = some o := by simpa using (hl 0).symm
    simp only [List.length_cons, Region.seqB, Bool.and_eq_true, decide_eq_true_eq] at hB
    refine ⟨fun h1 => (by rw [hB.1] at h1; cases h1), fun i hi => ?_⟩
    rw [hB.1] at hi
    have hik : i = k := by simpa using hi
    subst hik
    have hw : wpOpIn (Fence.wide.inRound r) m P ops Q i (wpListIn (Fence.wide.inRound r) m P ops Q l) a w := by unfold wpOpIn; simp only [h0]; exact h
    exact wpOpIn_mono (fun a' w' h' => wpAnyIn_of_seq l (i + 1) _ a' w' (fun j => by have := hl (j + 1); simpa [Nat.add_assoc, Nat.add_comm 1 j] using this) hB.2 h') hw
end

/-- THE LAW: the first n operations read and call (the callees only draw); the others follow one upon another, in whatever world those leave. -/
theorem wpIn_region_tail_lit {r m : Nat} {P : Program} {id : Nat} {Q : Exit → Act → World → Prop} {a : Act} {w : World} {l : List Oper} (n : Nat) (hm : P.follows .mixedOrders = true) (hB : Region.lexTailB .any l.toArray n = true) (hnd : noDeferB l.toArray = true)
    (h : wpQuiet P l.toArray (fun w' => ∃ x : Nat, w' = w.drewN x) (fun a' => ∀ w', (∃ x : Nat, w' = w.drewN x) → wpListIn (Fence.wide.inRound r) m P l.toArray Q (l.drop n) a' w') (l.take n) a) : (Code.region id l.toArray true).wpIn (Fence.wide.inRound r) m P Q a w := by
  simp only [Region.lexTailB, Bool.and_eq_true, decide_eq_true_eq] at hB
  obtain ⟨⟨⟨⟨hsel, hn⟩, hs⟩, hc⟩, hlex⟩ := hB
  have hn' : n < l.length := by simpa using hn
  have tl : (l.take n).length = n := by simp; omega
  have dl : (l.drop n).length = l.toArray.size - n := by simp
  have inv0 : HeadInv .any l.toArray n (Array.replicate l.toArray.size false) :=
    ⟨by simp, fun j oj _ hl => (by rw [getD_replicate_false] at hl; cases hl), fun t _ ht => getD_in (by simpa using ht) (getD_replicate_false _ _)⟩
  have H := headQ_lex (C := fun w' => ∃ x : Nat, w' = w.drewN x) (md := .any) (g := l.toArray.size - n) hsel hs hc hn (l.take n) 0 _ a (fun j hj => by
    have hj' : j < n := by rw [tl] at hj; exact hj
    simp [hj']) (by simpa using tl) inv0 (by rw [tl]; exact hlex) h
  have K := anyIn_of_headQ (r := r) (m := m) (Q := Q) hnd (g := l.toArray.size - n) (fun s a' w' hw' hL => by
    have := wpAnyIn_of_seq (md := .any) (r := r) (m := m) (Q := Q) (l.drop n) n s a' w' (fun j => by simp [List.getElem?_drop]) (by rw [dl]; exact hL.1) (hL.2 w' hw')
    rwa [dl] at this) _ _ _ { w with drawn := w.drawn + 1 } ⟨1, rfl⟩ H
  rw [tl, show n + (l.toArray.size - n) = l.toArray.size by omega] at K
  exact wpIn_region_any hm K
end Go.Proofs.YtpjfapibjihbbaaGreatDoor
/-
  What mixed's grow does: the transform of a list that stands in the order of its digits, in its place. No condition but that the rows lie there.
-/
namespace Go.Proofs.YtpjfapibjihbbaaGreatDoor
set_option linter.unusedVariables false
open Go.RowKit Go.Shelf
attribute [local go_sem] Oper.semAt_some

theorem Kg.grown {g : Nat} {a b c : World} (h : Kg g a b) {row : Option Nat} (hg : b.grownBy c row) (hr : ∀ r, row = some r → a.heap.size ≤ r) : Kg g a c :=
  ⟨hg.os.trans h.os, hg.tape.trans h.tape, hg.output.trans h.output, Nat.le_trans h.size hg.size, fun i hi hn => (hg.block i (Nat.lt_of_lt_of_le hi h.size) (fun e => by have := hr i e.symm; omega)).trans (h.block i hi hn)⟩
theorem OwnU.isCells {w : World} {base g C : Nat} {xs : List Nat} (h : OwnU w base (some ⟨g, 0, none⟩) C xs) (h1 : 1 ≤ xs.length) : ∃ o : Obj, w.heap[g]? = some o ∧ o.isCells = true := by
  obtain ⟨g', e, _, _, c, _⟩ := h.get (List.getElem?_eq_getElem (show 0 < xs.length by omega))
  cases e
  exact cells_of_cell c
theorem OwnU.grown {X Y : World} {base g C : Nat} {xs : List Nat} {row : Option Nat} (h : OwnU X base (some ⟨g, 0, none⟩) C xs) (h1 : 1 ≤ xs.length) (hg : X.grownBy Y row) (hr : ∀ r, row = some r → ∃ o : Obj, X.heap[r]? = some o ∧ o.isCells = false) : OwnU Y base (some ⟨g, 0, none⟩) C xs := by
  refine World.ownsRow.kept h hg (.inr fun e => ?_)
  obtain ⟨o, ho, hc⟩ := h.isCells h1
  obtain ⟨o', ho', hc'⟩ := hr g e.symm
  rw [ho] at ho'
  cases ho'
  rw [hc] at hc'
  cases hc'
theorem Blk.kg {W W' : World} {g B : Nat} {t : TypeId} {cs : Array Value} (h : Blk W B t cs) (k : Kg g W W') (hne : B ≠ g) : Blk W' B t cs := h.kept k (fun e => hne (by cases e; rfl))
theorem pr_drop {rs : List Nat} {j r : Nat} (h : rs[j]? = some r) : pr (rs.drop j) = r * pr (rs.drop (j + 1)) := (tn_drop h 0).2
theorem pr_cut (rs : List Nat) (j : Nat) : pr rs = pr (rs.take j) * pr (rs.drop j) := by rw [← pr_append, List.take_append_drop]
theorem one_list {X : World} {base g C N : Nat} {F : Nat → Nat} (h : OwnU X base (some ⟨g, 0, none⟩) C (lf N F)) : N ≤ C := by have := h.cap; rwa [lf_len] at this

set_option maxRecDepth 100000 in
set_option maxHeartbeats 4000000 in
theorem grow_in (W : World) (a : Option Addr) (p v g C N : Nat) (B : Option Addr) (D : Nat) (R : Option Addr) (E : Nat) (rs : List Nat) (x F0 : Nat → Nat) (hp : 1 ≤ p) (hN : pr rs = N) (hN2 : N ≤ 1024) (hrs : ∀ r ∈ rs, 2 ≤ r ∧ r ≤ 7) (ho : OrdN v p N) (hZ : ZAt W R E (ints rs))
    (hF : ∀ j, j < N → F0 j < p) (hB0 : Bk v p rs x F0 rs.length)
    (HJ : ∀ (o r M m P : Nat) (A : Nat → Nat), r * M = m → m * P = N → 1 ≤ M → 1 ≤ P → 2 ≤ r → r ≤ 7 → o + m ≤ N → (∀ j, j < N → A j < p) → InQ W 107 #[.agg #[.pointer a, .slice B N D], .slice (some ⟨g, o, none⟩) m m, .int .i64 (r : Int)] g C (lf N A) (lf N (mxJ p v P o r M A)))
    (w : World) (hw : Below W.heap.size W w) (hO : OwnU w W.heap.size (some ⟨g, 0, none⟩) C (lf N F0)) :
    CallsIn Fence.wide 6 Tryz.prog 84 #[.agg #[.pointer a, .slice B N D], .slice (some ⟨g, 0, none⟩) N C, .slice R rs.length E] w fun e w' => e = .returned (.tuple #[]) ∧ (∃ F, (∀ j, j < N → F j < p) ∧ Bk v p rs x F 0 ∧ OwnU w' W.heap.size (some ⟨g, 0, none⟩) C (lf N F)) ∧ Kg g w w' := by
  have h1 : 1 ≤ 6 := by omega
  have hfA : Fence.wide.fn 106 := trivial
  have hge := hO.ge
  have hN1 : 1 ≤ N := by rw [← hN]; exact pr_pos fun d hd => by have := (hrs d hd).1; omega
  have hrs1 : ∀ r ∈ rs, 1 ≤ r := fun r hr => by have := (hrs r hr).1; omega
  have hNC := one_list hO
  obtain ⟨L, hL⟩ : ∃ L, rs.length = L := ⟨_, rfl⟩
  have HB := fun (V : World) h1 h2 h3 => back_along (6 - 1) (by omega) (w.heap.size + 1 + 1 + 1) W.heap.size R E L rs hL V h1 h2 W (Nat.le_refl _) hZ h3
  rw [hL] at hB0 ⊢
  refine callsIn_of_wp_marks Tryz.func84 rfl trivial ?_ rfl
  simp only [Tryz.ntmps84, List.size_toArray, List.length_cons, List.length_nil, Nat.reduceAdd, Nat.reduceSub, Array.replicate_succ, Array.replicate_zero, List.push_toArray, List.append_toArray, List.nil_append, List.cons_append]
  gi_wp2_with (gi_at_call 106; refine (back_in (6 - 1) _ _ _ _).mono ?_; rintro e w' ⟨rfl, rfl⟩)
  obtain ⟨V, hV⟩ : ∃ V, ((((w.alloc (.cells #[.pointer a, .slice B N D] 129)).alloc (.cells #[.slice (some ⟨g, 0, none⟩) N C] 26)).alloc (.cells #[.int .i64 1] 3)).alloc (.cells #[.slice R L E] 39)) = V := ⟨_, rfl⟩
  have b0 : Blk V w.heap.size 129 #[.pointer a, .slice B N D] := by rw [← hV]; exact (((Blk.new _ _ _).alloc _).alloc _).alloc _
  have b1 : Blk V (w.heap.size + 1) 26 #[.slice (some ⟨g, 0, none⟩) N C] := by
    rw [← hV]; have := ((Blk.new (w.alloc (.cells #[.pointer a, .slice B N D] 129)) 26 #[.slice (some ⟨g, 0, none⟩) N C]).alloc (.cells #[.int .i64 1] 3)).alloc (.cells #[.slice R L E] 39); rw [World.size_alloc] at this; exact this
  have b2 : Blk V (w.heap.size + 1 + 1) 3 #[.int .i64 1] := by
    rw [← hV]; have := (Blk.new ((w.alloc (.cells #[.pointer a, .slice B N D] 129)).alloc (.cells #[.slice (some ⟨g, 0, none⟩) N C] 26)) 3 #[.int .i64 1]).alloc (.cells #[.slice R L E] 39); rw [World.size_alloc, World.size_alloc] at this; exact this
  have b3 : Blk V (w.heap.size + 1 + 1 + 1) 39 #[.slice R L E] := by
    rw [← hV]; have := Blk.new (((w.alloc (.cells #[.pointer a, .slice B N D] 129)).alloc (.cells #[.slice (some ⟨g, 0, none⟩) N C] 26)).alloc (.cells #[.int .i64 1] 3)) 39 #[.slice R L E]; rw [World.size_alloc, World.size_alloc, World.size_alloc] at this; exact this
  have hBV : Below w.heap.size w V := by rw [← hV]; exact bb (bb (bb (below_alloc _ _) (below_alloc _ _)) (below_alloc _ _)) (below_alloc _ _)
  have hVs : V.heap.size = w.heap.size + 4 := by rw [← hV]; simp
  rw [hV]
  clear hV
  have HBV := HB V (by omega) (b3.cell 0) (hw.trans (hBV.mono hw.size))
  have hOV := hO.below hBV
  have HN : Hid (pr rs = N ∧ N ≤ 1024 ∧ 1 ≤ N ∧ N ≤ C ∧ 1 ≤ p ∧ W.heap.size ≤ g ∧ g < w.heap.size ∧ V.heap.size = w.heap.size + 4 ∧ W.heap.size ≤ w.heap.size) := ⟨hN, hN2, hN1, hNC, hp, hge.1, hge.2, hVs, hw.size⟩
  have HR : Hid ((∀ r ∈ rs, 2 ≤ r ∧ r ≤ 7) ∧ (∀ r ∈ rs, 1 ≤ r) ∧ OrdN v p N ∧ rs.length = L) := ⟨hrs, hrs1, ho, hL⟩
  have HJ' := (show Hid _ from HJ)
  have HW : Hid (Below W.heap.size W w) := hw
  obtain ⟨I, hI⟩ : ∃ I : Nat → World → Prop, I = fun k Y => (∃ F, (∀ j, j < N → F j < p) ∧ Bk v p rs x F (L - k) ∧ OwnU Y W.heap.size (some ⟨g, 0, none⟩) C (lf N F)) ∧ Blk Y w.heap.size 129 #[.pointer a, .slice B N D] ∧ Blk Y (w.heap.size + 1) 26 #[.slice (some ⟨g, 0, none⟩) N C] ∧ Blk Y (w.heap.size + 1 + 1) 3 #[.int .i64 (pr (rs.drop (L - k)) : Int)] ∧ Blk Y (w.heap.size + 1 + 1 + 1) 39 #[.slice R L E] ∧ Kg g w Y := ⟨_, rfl⟩
  have hI0 : I 0 V := by
    rw [hI]
    refine ⟨⟨F0, hF, by rw [Nat.sub_zero]; exact hB0, hOV⟩, b0, b1, ?_, b3, Kg.of hBV⟩
    rw [Nat.sub_zero, ← hL, List.drop_length]
    exact b2
  clear hp hN hN2 hrs ho hZ hF hB0 HJ hw hO hge hN1 hrs1 hNC HB hOV b0 b1 b2 b3
  refine range_along rfl h1 (gf := 135) (lb := #[.pointer (some ⟨w.heap.size + 1 + 1 + 1, 0, none⟩)]) rfl trivial (enters_of Tryz.func135 (by kernel_rfl) rfl)
    HBV KB.trans (KB.put (by have := HN.out; omega) (by have := HN.out; omega)) (Below.refl _ _) (fun _ _ => rfl) I ?own hI0
    (fun x => { tmps := #[.agg #[.pointer a, .slice B N D], .slice (some ⟨g, 0, none⟩) N C, .slice R L E, .pointer (some ⟨w.heap.size, 0, none⟩), .pointer (some ⟨w.heap.size + 1, 0, none⟩), undef, .pointer (some ⟨w.heap.size + 1 + 1, 0, none⟩), undef, .int .i64 (x.2 : Int), undef, undef, .slice R L E, .func (.func 135) #[] #[.pointer (some ⟨w.heap.size + 1 + 1 + 1, 0, none⟩)], .int .i64 (x.1 : Int), .int .i64 (x.2 : Int), undef, undef, undef, undef, undef, undef, undef, undef, undef, undef, undef, undef, undef, undef, undef, undef, undef, undef, undef, undef, undef], defers := [] }) ?assign ?body ?done
  case own =>
    rw [hI]
    rintro k X Y row ⟨⟨F, q1, q2, q3⟩, q4, q5, q6, q7, q8⟩ hg hr
    have hc := fun r e => (hr r e).2
    exact ⟨⟨F, q1, q2, q3.grown (by rw [lf_len]; exact HN.out.2.2.1) hg hc⟩, blk_own (β := Unit) _ _ (fun _ => _) () X Y row q4 hg hc, blk_own (β := Unit) _ _ (fun _ => _) () X Y row q5 hg hc, blk_own (β := Unit) _ _ (fun _ => _) () X Y row q6 hg hc, blk_own (β := Unit) _ _ (fun _ => _) () X Y row q7 hg hc, q8.grown hg (fun r e => by have := (hr r e).1; have := HN.out; omega)⟩
  case assign =>
    intro l x W' K hx hK
    gi_wp2
    exact hK
  case body =>
    rintro l k ⟨j, r⟩ Y hx hIk
    rw [hI] at hIk
    obtain ⟨⟨F, hF, hBk, hO⟩, c0, c1, c2, c3, hK⟩ := hIk
    clear hI0
    obtain ⟨hkL, hjk, hrj⟩ := bk_at hx
    have hL' := HR.out.2.2.2
    have e1 : L - k = j + 1 := by omega
    have e2 : L - (k + 1) = j := by omega
    rw [e1] at hBk c2
    have hr := HR.out.1 r (List.mem_of_getElem? hrj)
    have hdr := pr_drop hrj
    have hct := pr_cut rs j
    have hBn := mxG_bk (w := v) (p := p) (x := x) (A := F) (M := pr (rs.drop (j + 1))) (P := pr (rs.take j)) hrj HR.out.2.1 (by rw [HN.out.1]; exact HR.out.2.2.1) rfl rfl hBk
    have hM1 : 1 ≤ pr (rs.drop (j + 1)) := pr_pos fun d hd => HR.out.2.1 d (List.mem_of_mem_drop hd)
    have hP1 : 1 ≤ pr (rs.take j) := pr_pos fun d hd => HR.out.2.1 d (List.mem_of_mem_take hd)
    obtain ⟨M, hM⟩ : ∃ M, pr (rs.drop (j + 1)) = M := ⟨_, rfl⟩
    obtain ⟨m, hm⟩ : ∃ m, pr (rs.drop j) = m := ⟨_, rfl⟩
    obtain ⟨P, hP⟩ : ∃ P, pr (rs.take j) = P := ⟨_, rfl⟩
    rw [hM] at hdr hBn hM1 c2
    rw [hP] at hBn hP1 hct
    rw [hm] at hdr hct
    have hN' := HN.out
    rw [hN'.1] at hct hBn
    have hm1 : 1 ≤ m := by rw [hdr]; exact Nat.mul_pos (by omega) hM1
    have hmN : m ≤ N := by rw [hct]; exact Nat.le_mul_of_pos_left m (by omega)
    have hMm : M ≤ m := by rw [hdr]; exact Nat.le_mul_of_pos_left M (by omega)
    have HB' : Hid (Bk v p rs x (mxG p v P r M F N) j) := hBn
    have HM : Hid (r * M = m ∧ m * P = N ∧ 1 ≤ M ∧ 1 ≤ P ∧ 2 ≤ r ∧ r ≤ 7 ∧ 1 ≤ m ∧ m ≤ N) := ⟨hdr.symm, by rw [hct, Nat.mul_comm], hM1, hP1, hr.1, hr.2, hm1, hmN⟩
    have HE : Hid (L - (k + 1) = j ∧ pr (rs.drop j) = m) := ⟨e2, hm⟩
    have HF : Hid (∀ i, i < N → F i < p) := hF
    have i2 : Y.cell? ⟨w.heap.size + 1 + 1, 0, none⟩ = some (.int .i64 (M : Int)) := c2.cell 0
    have f2 := c2.frozen 0
    -- the world behind the first store
    have hgr : ∀ u : Value, Y.grownBy (Y.setCell ⟨w.heap.size + 1 + 1, 0, none⟩ u) (some (w.heap.size + 1 + 1)) := fun u => grownBy_set Y _ 0 u
    obtain ⟨Y1, hY1⟩ : ∃ Y1, Y.setCell ⟨w.heap.size + 1 + 1, 0, none⟩ (.int .i64 (m : Int)) = Y1 := ⟨_, rfl⟩
    have hg1 := hgr (.int .i64 (m : Int))
    rw [hY1] at hg1
    have hne : w.heap.size + 1 + 1 ≠ g := by omega
    have HO1 : Hid (OwnU Y1 W.heap.size (some ⟨g, 0, none⟩) C (lf N (mxG p v P r M F 0))) := by
      unfold Hid
      rw [lf_ext (g := F) fun i _ => mxG_zero p v P r M F i, ← hY1]
      exact own_other hO (by intro e; simp only [Value.ownBlock, Option.some.injEq] at e; exact hne e.symm) 0 _
    have d0 : Blk Y1 w.heap.size 129 #[.pointer a, .slice B N D] := c0.kept hg1 (fun e => by injection e with e; omega)
    have d1 : Blk Y1 (w.heap.size + 1) 26 #[.slice (some ⟨g, 0, none⟩) N C] := c1.kept hg1 (fun e => by injection e with e; omega)
    have d3 : Blk Y1 (w.heap.size + 1 + 1 + 1) 39 #[.slice R L E] := c3.kept hg1 (fun e => by injection e with e; omega)
    have d2 : Blk Y1 (w.heap.size + 1 + 1) 3 #[.int .i64 (m : Int)] := by rw [← hY1]; exact c2.set 0 _
    have HK1 : Hid (Kg g w Y1) := hK.grown hg1 (fun r e => by cases e; omega)
    have HKF : Hid (KeepsFrom V.heap.size Y Y1) := KeepsFrom.of_grownBy hg1 (fun j e => by cases e; omega)
    have HKB : Hid (KB W.heap.size (w.heap.size + 1 + 1 + 1) Y Y1) := by
      refine ⟨?_, (d3.cell 0).trans (c3.cell 0).symm⟩
      rw [← hY1]
      exact (Below.refl _ _).setCell (p := ⟨w.heap.size + 1 + 1, 0, none⟩) (by show W.heap.size ≤ w.heap.size + 1 + 1; omega) _
    have HD : Hid (Blk Y1 w.heap.size 129 #[.pointer a, .slice B N D] ∧ Blk Y1 (w.heap.size + 1) 26 #[.slice (some ⟨g, 0, none⟩) N C] ∧ Blk Y1 (w.heap.size + 1 + 1) 3 #[.int .i64 (m : Int)] ∧ Blk Y1 (w.heap.size + 1 + 1 + 1) 39 #[.slice R L E]) := ⟨d0, d1, d2, d3⟩
    have HGN : Hid (w.heap.size ≠ g ∧ w.heap.size + 1 ≠ g ∧ w.heap.size + 1 + 1 ≠ g ∧ w.heap.size + 1 + 1 + 1 ≠ g) := ⟨by omega, by omega, hne, by omega⟩
    have hmb : m ≤ 1024 := by omega
    have hNb : N ≤ 1024 := by omega
    have hmr : M * r = m := by rw [hdr, Nat.mul_comm]
    have hm16 : m ≤ 16777216 := by omega
    have w1 : wrap64 ((M : Int) * (r : Int)) = (m : Int) := (mulI' hmr hm16).1
    clear HBV hF hBk hO c0 c1 c2 c3 hK hx hkL hjk hrj hL' e1 e2 hr hdr hct hBn hM1 hP1 hM hm hP hN' hm1 hmN hMm hgr hg1 d0 d1 d2 d3 hne hmr hm16 hBV hVs
    gi_wp2
    clear w1 i2 f2 hY1
    gi_loopw [9] (fun sv wi => ∃ b s : Nat, sv = .int .i64 (s : Int) ∧ Hid (b * m = s) ∧ s ≤ N ∧ Hid (OwnU wi W.heap.size (some ⟨g, 0, none⟩) C (lf N (mxG p v P r M F s))) ∧ Hid (Kg g Y1 wi)) (fun sv _ => 4096 - (intOf sv).toNat)
    case atStart => exact ⟨0, 0, rfl, Nat.zero_mul _, by omega, HO1, Kg.refl _ _⟩
    case round =>
      clear HO1
      obtain ⟨b, s, rfl, HS, hs, HO2, HK2⟩ := hrel
      have hd1 : 1 ≤ 6 - 1 - 1 := by omega
      have hf48 : (Fence.wide.inRound l).fn 107 := trivial
      have hf48' : Fence.wide.fn 107 := trivial
      have k0 := HD.out.1.kg HK2.out HGN.out.1
      have k1 := HD.out.2.1.kg HK2.out HGN.out.2.1
      have k2 := HD.out.2.2.1.kg HK2.out HGN.out.2.2.1
      have g0 : wr.cell? ⟨w.heap.size, 0, none⟩ = some (.pointer a) := k0.cell 0
      have g1 : wr.cell? ⟨w.heap.size, 1, none⟩ = some (.slice B N D) := k0.cell 1
      have g2 : wr.cell? ⟨w.heap.size + 1, 0, none⟩ = some (.slice (some ⟨g, 0, none⟩) N C) := k1.cell 0
      have g3 : wr.cell? ⟨w.heap.size + 1 + 1, 0, none⟩ = some (.int .i64 (m : Int)) := k2.cell 0
      clear k0 k1 k2
      by_cases hsN : s < N
      · have hm := HM.out
        have hn := HN.out
        have hsm : (b + 1) * m ≤ N := by
          have h2 : b < P := by
            rcases Nat.lt_or_ge b P with h | h
            · exact h
            · have := Nat.mul_le_mul_right m h
              rw [HS.out, Nat.mul_comm P m, hm.2.1] at this
              omega
          have := Nat.mul_le_mul_right m (show b + 1 ≤ P from h2)
          rw [Nat.mul_comm P m, hm.2.1] at this
          exact this
        rw [Nat.succ_mul, HS.out] at hsm
        obtain ⟨t, ht⟩ : ∃ t, s + m = t := ⟨_, rfl⟩
        rw [ht] at hsm
        have HT : Hid ((b + 1) * m = t) := by unfold Hid; rw [Nat.succ_mul, HS.out, ht]
        have HJs := HJ'.out s r M m P (mxG p v P r M F s) hm.1 hm.2.1 hm.2.2.1 hm.2.2.2.1 hm.2.2.2.2.1 hm.2.2.2.2.2.1 (by omega) (mxG_lt hn.2.2.2.2.1 _ _ _ _ HF.out s)
        have hgs : lf N (mxJ p v P s r M (mxG p v P r M F s)) = lf N (mxG p v P r M F t) := lf_ext fun i _ => by
          have := mxG_step (p := p) (v := v) (P := P) (b := b) hm.1 hm.2.2.2.2.2.2.1 F i
          rw [HS.out, HT.out] at this
          exact this
        rw [hgs] at HJs
        have HJC : Hid (∀ Z, Below wr.heap.size wr Z → CallsIn (Fence.wide.inRound l) (6 - 1 - 1 - 1) Tryz.prog 107 #[.agg #[.pointer a, .slice B N D], .slice (some ⟨g, s, none⟩) m m, .int .i64 (r : Int)] Z fun e w' => e = .returned (.tuple #[]) ∧ w'.cell? ⟨w.heap.size + 1 + 1, 0, none⟩ = some (.int .i64 (m : Int)) ∧ OwnU w' W.heap.size (some ⟨g, 0, none⟩) C (lf N (mxG p v P r M F t)) ∧ Kg g Y1 w') := fun Z hZ => by
          have hwZ : Below W.heap.size W Z := ((HK1.out.trans HK2.out).trans (Kg.of hZ)).bel HW.out hn.2.2.2.2.2.1
          refine (CallsIn.inRound l (callsIn_wide.2 (HJs Z hwZ (HO2.out.below hZ)))).mono ?_
          rintro e w7 ⟨rfl, q1, q2⟩
          have q3 := (HK2.out.trans (Kg.of hZ)).trans q2
          exact ⟨rfl, (HD.out.2.2.1.kg q3 HGN.out.2.2.1).cell 0, q1, q3⟩
        have l1 : (s : Int) < (N : Int) := by omega
        have l2 : t - s = m := by omega
        have l3 : (t : Int) ≤ (N : Int) := by omega
        have l4 : s ≤ t := by omega
        have l5 : t ≤ C := by omega
        have l6 : ¬ t - s = 0 := by omega
        have l7 : (s : Int) ≤ (t : Int) := by omega
        have l8 : (N : Int) ≤ 9223372036854775807 := by omega
        have l9 : ¬ t = s := by omega
        have l10 : ¬ s = t := by omega
        have HMS : Hid (s < 4096 ∧ 1 ≤ m) := ⟨by omega, hm.2.2.2.2.2.2.1⟩
        have HST : Hid (s + m = t) := ht
        have HSM : Hid (t ≤ N) := hsm
        have w2 : (s : Int) + (m : Int) = (t : Int) := by omega
        clear hm hn hsm HJs hgs ht HO2 HK2
        gi_wp2
        refine wpIn_region_tail_lit 7 (by kernel_rfl) (by kernel_rfl) (by kernel_rfl) ?_
        simp only [List.take_succ_cons, List.take_zero, List.drop_succ_cons, List.drop_zero]
        repeat (go_big_quiet_step (fail))
        refine wpQuiet_nil ?_
        rintro _ ⟨n9, rfl⟩
        gi_wp2_with (gi_at_call 107; refine (HJC.out _ (below_drewN wr _)).mono ?_; rintro e w7 ⟨rfl, i3, hO7, hK7⟩)
        all_goals gi_wp2
        all_goals go_roundw
        case rel => exact ⟨b + 1, t, by first | rw [w2] | rfl, HT, HSM.out, hO7, hK7⟩
        case measure => exact meas_up rfl HST.out HMS.out.2 HMS.out.1
      · obtain rfl : s = N := by omega
        have l1 : ¬ (s : Int) < (s : Int) := by omega
        have l8 : (s : Int) ≤ 9223372036854775807 := by omega
        have HO3 : Hid (OwnU wr W.heap.size (some ⟨g, 0, none⟩) C (lf s (mxG p v P r M F s))) := HO2.out
        have HK3 : Hid (Kg g Y1 wr) := HK2.out
        clear HO2 HK2 hd1 hf48 hf48'
        gi_wp2
        have hK3 := HK3.out
        have hn := HN.out
        have d3 := HD.out.2.2.2
        refine ⟨?_, ?_, ?_⟩
        · exact HKF.out.trans (KeepsFrom.of_grownBy hK3 (fun j e => by cases e; omega))
        · exact KB.trans HKB.out ⟨hK3.below hn.2.2.2.2.2.1 (by have := HKF.out; have := d3.lt; omega), (d3.kg hK3 HGN.out.2.2.2).cell 0 |>.trans (d3.cell 0).symm⟩
        · refine ⟨⟨_, mxG_lt hn.2.2.2.2.1 v P r M HF.out s, by rw [HE.out.1]; exact HB'.out, HO3.out⟩, HD.out.1.kg hK3 HGN.out.1, HD.out.2.1.kg hK3 HGN.out.2.1, ?_, d3.kg hK3 HGN.out.2.2.2, HK1.out.trans hK3⟩
          rw [HE.out.1, HE.out.2]
          exact HD.out.2.2.1.kg hK3 HGN.out.2.2.1
  case done =>
    intro D' W' hD hIL hdef
    rw [hI] at hIL
    obtain ⟨⟨F, hF, hBk, hO⟩, c0, c1, c2, c3, hK⟩ := hIL
    rw [bk_len, HR.out.2.2.2, Nat.sub_self] at hBk
    have HFin : Hid ((∀ j, j < N → F j < p) ∧ Bk v p rs x F 0) := ⟨hF, hBk⟩
    have HO : Hid (OwnU W' W.heap.size (some ⟨g, 0, none⟩) C (lf N F)) := hO
    have HK : Hid (Kg g w W') := hK
    clear HBV hI0 hF hBk hO c0 c1 c2 c3 hK
    gi_wp2
    have hgr := grownBy_putObj' W' D' (.deferred none)
    refine ⟨by simp, .inl ⟨_, _, rfl, run_takeDeferred hdef, ?_⟩⟩
    exact ⟨.tuple #[], results_none rfl _ _ _, rfl, ⟨F, HFin.out.1, HFin.out.2, HO.out.grown (by rw [lf_len]; exact HN.out.2.2.1) hgr (fun r e => by cases e; exact ⟨_, hdef, rfl⟩)⟩, HK.out.grown hgr (fun r e => by cases e; have := HN.out; omega)⟩
end Go.Proofs.YtpjfapibjihbbaaGreatDoor
/-
  What mixed's grow, check and Run answer. No condition but that the field, the rows and the program's four factors lie there.
-/
namespace Go.Proofs.YtpjfapibjihbbaaGreatDoor
set_option linter.unusedVariables false
open Go.RowKit

/-! ### grow -/
theorem grow_any {W : World} {b : Nat} {x : En} (F : FieldAt W b x) (hF : Fld x) {xs rs : List Nat} {N : Nat} (hl : xs.length = N) (hr : IsRad N rs) (hN2 : N ≤ 1024) (hd : (x.p - 1) % N = 0) (hg : ∀ y ∈ xs, y < x.p) (i : Bool)
    {B : Option Addr} {D : Nat} (hL : UAt W B D ((pws (twR x N i) x.p N).map fun y => up y x.p)) {R : Option Addr} {E : Nat} (hZ : ZAt W R E (ints rs)) (g C : Nat) :
    InQ W 84 #[.agg #[pt b, .slice B N D], .slice (some ⟨g, 0, none⟩) N C, .slice R rs.length E] g C (ord rs xs) (smL x i xs) := by
  obtain ⟨h3, hodd, hlt⟩ := hF.num
  have h1 : 1 ≤ N := hr.pos
  have ho := twR_ord hF h1 hd i
  have hrad := hr.rad hN2
  have hpr := hr.prod
  have hlp : xs.length = pr rs := by rw [hl, hpr]
  have hol : (ord rs xs).length = N := by rw [ord_len, hpr]
  have e1 : lf N (atL (ord rs xs)) = ord rs xs := by rw [← hol]; exact lf_of _
  obtain ⟨v, hv⟩ : ∃ v, twR x N i = v := ⟨_, rfl⟩
  rw [hv] at ho hL
  have hA0 : ∀ j, j < N → atL (ord rs xs) j < x.p := fun j hj => by
    rw [← hpr] at hj
    rw [atL_of (ord_get (xs := xs) hj)]
    have ht := hrad.rev.tn j
    rw [pr_reverse] at ht
    exact hg _ (atL_mem (by rw [hlp]; exact ht))
  have hS : Bk v x.p rs (atL xs) (atL (ord rs xs)) rs.length := Bk.start fun c hc => by
    obtain ⟨y, hy⟩ : ∃ y, xs[c]? = some y := ⟨_, List.getElem?_eq_getElem (by rw [hlp]; exact hc)⟩
    rw [atL_of (ord_at hrad hlp hy), atL_of hy]
  intro w hw hO
  rw [← e1] at hO
  refine (callsIn_wide.1 (grow_in W (some ⟨b, 0, none⟩) x.p v g C N B D R E rs (atL xs) (atL (ord rs xs)) (by omega) hpr hN2 (fun r hr' => by have := hr.mem r hr'; exact ⟨this.two, by have := this.lt; omega⟩) ho hZ hA0 hS ?_ w hw hO)).mono ?_
  · intro o r M m P A q1 q2 q3 q4 q5 q6 q7 q8
    exact joinm_walk W (some ⟨b, 0, none⟩) x.p v g C N o r M m P B D A q1 q2 q3 q4 q5 q6 hN2 q7 (by omega) q8 fun w br s y hw2 hb hs hc hy =>
      msum_any (F.below hw2) hF h1 (by omega) q6 hs ho (hL.below hw2) hb hc hy
  · rintro e w' ⟨rfl, ⟨G, hG, hB, hO'⟩, hK⟩
    refine ⟨rfl, ?_, hK⟩
    have : lf N G = smL x i xs := by
      unfold smL
      rw [hl, hv]
      refine lf_ext fun k hk => ?_
      have := hB.fin (k := k) (by rw [hpr]; exact hk)
      rw [hpr, Nat.mod_eq_of_lt (hG k hk)] at this
      exact this
    rw [← this]
    exact hO'

/-! ### check -/
theorem isNone_n : (none : Option (List Nat)).isNone = true := rfl
theorem isNone_s (l : List Nat) : ¬ (some l).isNone = true := by simp
/-- Which error a list has. -/
noncomputable def ck3 (p : Nat) (xs : List Nat) : Int := if ckD p (xs.length : Int) 1024 ≠ 0 then ckD p (xs.length : Int) 1024 else if (radV (xs.length : Int)).isNone then 11 else if goodB p xs = false then 9 else 0
theorem ck3_ok {p : Nat} {xs : List Nat} (h : ck3 p xs = 0) : ∃ rs, radV (xs.length : Int) = some rs ∧ IsRad xs.length rs ∧ 1 ≤ xs.length ∧ xs.length ≤ 1024 ∧ (p - 1) % xs.length = 0 ∧ (∀ y ∈ xs, y < p) ∧ ckD p (xs.length : Int) 1024 = 0 ∧ goodB p xs = true := by
  unfold ck3 at h
  by_cases h0 : ckD p (xs.length : Int) 1024 = 0
  · rw [if_neg (by omega)] at h
    obtain ⟨h1, h2, h3⟩ := ckD_ok h0
    cases hf : radV (xs.length : Int) with
    | none => rw [hf, if_pos isNone_n] at h; cases h
    | some rs =>
      rw [hf, if_neg (isNone_s _)] at h
      cases hg : goodB p xs
      · rw [hg, if_pos rfl] at h; cases h
      · obtain ⟨n, hn, _, _, hr⟩ := radV_is hf
        obtain rfl : n = xs.length := by omega
        exact ⟨rs, rfl, hr, h1, by omega, h3, goodB_iff.1 hg, h0, rfl⟩
  · rw [if_pos h0] at h; exact absurd h h0
/-- A call that answers the radices, and no error. -/
def ChkY (W : World) (args : Array Value) (rs : List Nat) : Prop := ∀ w, Below W.heap.size W w → Calls Tryz.prog 81 args w fun e w' => ∃ A C, e = .returned (.tuple #[.slice A rs.length C, .int .i64 0]) ∧ ZAt w' A C (ints rs) ∧ Below w.heap.size w w'
theorem ChkY.use {W : World} {args : Array Value} {rs : List Nat} (h : ChkY W args rs) {w : World} (hw : Below W.heap.size W w) {R : Ending → World → Prop} (k : ∀ A C w', ZAt w' A C (ints rs) → Below w.heap.size w w' → R (.returned (.tuple #[.slice A rs.length C, .int .i64 0])) w') : Calls Tryz.prog 81 args w R :=
  (h w hw).mono fun _ _ ⟨A', C', he, h1, h2⟩ => by subst he; exact k _ _ _ h1 h2
theorem chm_err (W : World) (v : Option Addr) (A : Option Addr) (n C : Nat) (e : Int) (he : (e != 0) = true) (hlen : (n : Int) ≤ 9223372036854775807) (HC : ∀ w, Below W.heap.size W w → AnsW w 43 #[.pointer v, .int .i64 (n : Int), .int .i64 1024] (.int .i64 e)) : AnsB W 81 #[.pointer v, .slice A n C] (.tuple #[.slice none 0 0, .int .i64 e]) := by
  intro w hw
  have HC0 := HC w hw
  go_enter Tryz.func81, Tryz.ntmps81
  go_wp2_with (go_at_call 43; with_reducible refine AnsW.use0 HC0 fun n1 => ?_)
  go_ret2
  exact ⟨rfl, below_drewN _ _⟩
theorem chm_kind (W : World) (v : Option Addr) (A : Option Addr) (n C : Nat) (hlen : (n : Int) ≤ 9223372036854775807) (HC : ∀ w, Below W.heap.size W w → AnsW w 43 #[.pointer v, .int .i64 (n : Int), .int .i64 1024] (.int .i64 0)) (HR : RadN W 65 (n : Int)) : AnsB W 81 #[.pointer v, .slice A n C] (.tuple #[.slice none 0 0, .int .i64 11]) := by
  intro w hw
  have HC0 := HC w hw
  have HRw : ∀ n1, AnsB (w.drewN n1) 65 #[.int .i64 (n : Int)] (.tuple #[.slice none 0 0, .bool false]) := fun n1 => AnsB.on HR (bb hw (below_drewN w n1))
  go_enter Tryz.func81, Tryz.ntmps81
  go_wp2_with (first
    | (go_at_call 43; with_reducible refine AnsW.use0 HC0 fun n1 => ?_; have HR1 := HRw n1)
    | (go_at_call 65; with_reducible refine AnsB.use HR1 (Below.refl _ _) fun w2 hb2 => ?_))
  go_ret2
  exact ⟨rfl, bb (below_drewN w _) hb2⟩
theorem chm_bad (W : World) (v : Option Addr) (A : Option Addr) (n C : Nat) (rs : List Nat) (hlen : (n : Int) ≤ 9223372036854775807) (HC : ∀ w, Below W.heap.size W w → AnsW w 43 #[.pointer v, .int .i64 (n : Int), .int .i64 1024] (.int .i64 0)) (HR : RadY W 65 (n : Int) rs) (HG : ∀ w, Below W.heap.size W w → AnsW w 44 #[.pointer v, .slice A n C] (.bool false)) : AnsB W 81 #[.pointer v, .slice A n C] (.tuple #[.slice none 0 0, .int .i64 9]) := by
  intro w hw
  have HC0 := HC w hw
  have hwd := fun n1 => bb hw (below_drewN w n1)
  go_enter Tryz.func81, Tryz.ntmps81
  go_wp2_with (first
    | (go_at_call 43; with_reducible refine AnsW.use0 HC0 fun n1 => ?_)
    | (go_at_call 65; with_reducible refine RadY.use HR (hwd _) fun R2 E2 w2 hZ2 hb2 => ?_; have hw2 := bb (hwd _) hb2; have HG2 := HG w2 hw2)
    | (go_at_call 44; with_reducible refine AnsW.use0 HG2 fun n3 => ?_))
  go_ret2
  exact ⟨rfl, bb (bb (below_drewN w _) hb2) (below_drewN w2 _)⟩
theorem chm_good (W : World) (v : Option Addr) (A : Option Addr) (n C : Nat) (rs : List Nat) (hlen : (n : Int) ≤ 9223372036854775807) (HC : ∀ w, Below W.heap.size W w → AnsW w 43 #[.pointer v, .int .i64 (n : Int), .int .i64 1024] (.int .i64 0)) (HR : RadY W 65 (n : Int) rs) (HG : ∀ w, Below W.heap.size W w → AnsW w 44 #[.pointer v, .slice A n C] (.bool true)) : ChkY W #[.pointer v, .slice A n C] rs := by
  intro w hw
  have HC0 := HC w hw
  have hwd := fun n1 => bb hw (below_drewN w n1)
  go_enter Tryz.func81, Tryz.ntmps81
  go_wp2_with (first
    | (go_at_call 43; with_reducible refine AnsW.use0 HC0 fun n1 => ?_)
    | (go_at_call 65; with_reducible refine RadY.use HR (hwd _) fun R2 E2 w2 hZ2 hb2 => ?_; have hw2 := bb (hwd _) hb2; have HG2 := HG w2 hw2)
    | (go_at_call 44; with_reducible refine AnsW.use0 HG2 fun n3 => ?_))
  go_ret2
  exact ⟨R2, E2, rfl, hZ2.below (below_drewN w2 _), bb (bb (below_drewN w _) hb2) (below_drewN w2 _)⟩
theorem chm_no {W : World} {b : Nat} {x : En} (F : FieldAt W b x) (hG : FacG W) {A : Option Addr} {C : Nat} {xs : List Nat} (hU : UAt W A C xs) (hk : ck3 x.p xs ≠ 0) : AnsB W 81 #[pt b, .slice A xs.length C] (.tuple #[.slice none 0 0, .int .i64 (ck3 x.p xs)]) := by
  have hlen := hU.len
  have HC := fun w (hw : Below W.heap.size W w) => dftck_any (F.below hw) (xs.length : Int) 1024 (by omega)
  have HD := fun w (hw : Below W.heap.size W w) => dftgood_any (F.below hw) (hU.below hw)
  unfold ck3 at hk ⊢
  by_cases h : ckD x.p (xs.length : Int) 1024 = 0
  · rw [h] at HC
    rw [if_neg (by omega)] at hk ⊢
    cases hf : radV (xs.length : Int) with
    | none =>
      rw [if_pos isNone_n]
      exact chm_kind W _ A _ C hlen HC (rad_no hG hf)
    | some rs =>
      rw [hf, if_neg (isNone_s _)] at hk
      rw [if_neg (isNone_s _)]
      cases hg : goodB x.p xs
      · rw [hg] at HD
        rw [if_pos rfl]
        exact chm_bad W _ A _ C rs hlen HC (rad_yes hG hf) HD
      · rw [hg, if_neg (by decide)] at hk
        exact absurd rfl hk
  · rw [if_pos h]
    exact chm_err W _ A _ C _ (by simp only [bne_iff_ne, ne_eq]; exact h) hlen HC
theorem chm_yes {W : World} {b : Nat} {x : En} (F : FieldAt W b x) (hG : FacG W) {A : Option Addr} {C : Nat} {xs rs : List Nat} (hU : UAt W A C xs) (hr : radV (xs.length : Int) = some rs) (hc : ckD x.p (xs.length : Int) 1024 = 0) (hg : goodB x.p xs = true) : ChkY W #[pt b, .slice A xs.length C] rs := by
  have hlen := hU.len
  have HC := fun w (hw : Below W.heap.size W w) => dftck_any (F.below hw) (xs.length : Int) 1024 (by omega)
  have HD := fun w (hw : Below W.heap.size W w) => dftgood_any (F.below hw) (hU.below hw)
  rw [hc] at HC
  rw [hg] at HD
  exact chm_good W _ A _ C rs hlen HC (rad_yes hG hr) HD

/-! ### Run -/
theorem runm_err (W : World) (v : Option Addr) (A : Option Addr) (n C : Nat) (i : Bool) (e : Int) (he : (e != 0) = true) (HC : AnsB W 81 #[.pointer v, .slice A n C] (.tuple #[.slice none 0 0, .int .i64 e])) : AnsB W 66 #[.pointer v, .slice A n C, .bool i] (.tuple #[.slice none 0 0, .int .i64 e]) := by
  intro w hw
  go_enter Tryz.func66, Tryz.ntmps66
  go_wp2_with (go_at_call 81; with_reducible refine AnsB.use HC hw fun w1 hb1 => ?_)
  go_ret2
  exact ⟨rfl, hb1⟩
set_option maxRecDepth 100000 in
set_option maxHeartbeats 4000000 in
theorem runm_no (W : World) (b : Nat) (A : Option Addr) (n C : Nat) (rs ls os l : List Nat) (S : Nat → Nat) (h1 : 1 ≤ n) (hn : n ≤ 1024) (hll : ls.length = n) (hol : os.length = n) (hls : ∀ y ∈ ls, y < 18446744073709551616) (hS : ∀ j, j < n → S j < 18446744073709551616)
    (HC : ChkY W #[pt b, .slice A n C] rs)
    (HL : ∀ w, Below W.heap.size W w → OwnT w 82 #[pt b, .int .i64 (n : Int), .bool false] ls)
    (HO : ∀ w R E, Below W.heap.size W w → ZAt w R E (ints rs) → OwnT w 83 #[.slice A n C, .slice R rs.length E] os)
    (HY : ∀ w B D R E g C1, Below W.heap.size W w → UAt w B D ls → ZAt w R E (ints rs) → InQ w 84 #[.agg #[pt b, .slice B n D], .slice (some ⟨g, 0, none⟩) n C1, .slice R rs.length E] g C1 os (lf n S))
    (HE : Ends W (some ⟨b, 0, none⟩) false n (lf n S) l) : OwnT W 66 #[pt b, .slice A n C, .bool false] l := by
  intro w hw
  rw [HE.len]
  have HL' : Hid (∀ (w1 : World) {R : Ending → World → Prop}, Below W.heap.size W w1 → (∀ g C1 w', OwnU w' w1.heap.size (some ⟨g, 0, none⟩) C1 ls → Below w1.heap.size w1 w' → R (.returned (.tuple #[.slice (some ⟨g, 0, none⟩) n C1, .int .i64 0])) w') → Calls Tryz.prog 82 #[pt b, .int .i64 (n : Int), .bool false] w1 R) :=
    fun w1 R hw1 k => OwnT.useG (HL w1 hw1) hll h1 (Below.refl _ _) fun g C1 w' q1 q2 => k g C1 w' q1 q2
  have HO' : Hid (∀ (w1 : World) (R0 : Option Addr) (E0 : Nat) {R : Ending → World → Prop}, Below W.heap.size W w1 → ZAt w1 R0 E0 (ints rs) → (∀ g C1 w', OwnU w' w1.heap.size (some ⟨g, 0, none⟩) C1 os → Below w1.heap.size w1 w' → R (.returned (.tuple #[.slice (some ⟨g, 0, none⟩) n C1, .int .i64 0])) w') → Calls Tryz.prog 83 #[.slice A n C, .slice R0 rs.length E0] w1 R) :=
    fun w1 R0 E0 R hw1 hz k => OwnT.useG (HO w1 R0 E0 hw1 hz) hol h1 (Below.refl _ _) fun g C1 w' q1 q2 => k g C1 w' q1 q2
  have HY' := (show Hid _ from HY)
  have HE' : Hid (Ends W (some ⟨b, 0, none⟩) false n (lf n S) l) := HE
  have HLS : Hid (∀ y ∈ ls, y < 18446744073709551616) := hls
  have HSS : Hid (∀ x ∈ lf n S, x < 18446744073709551616) := lf_lt hS
  have HW : Hid (Below W.heap.size W w) := hw
  have HCw := (show Hid _ from HC)
  have hlenn : (n : Int) ≤ 9223372036854775807 := by omega
  clear HC HL HO HY HE hll hls hS h1 hn hw hol
  go_enter Tryz.func66, Tryz.ntmps66
  go_wp2_with (go_at_call 81; refine ChkY.use HCw.out HW.out fun R1 E1 w1 hZ1 hb1 => ?_)
  have HW1 : Hid (Below W.heap.size W w1) := bb HW.out hb1
  have HB1 : Hid (Below w.heap.size w w1) := hb1
  have HZ1 : Hid (ZAt w1 R1 E1 (ints rs)) := hZ1
  clear hZ1 hb1 HCw
  go_wp2_with (go_at_call 82; refine HL'.out w1 HW1.out fun gl D w2 hO2 hB2 => ?_)
  have HO2 : Hid (UAt w2 (some ⟨gl, 0, none⟩) D ls) := hO2.words HLS.out
  have HW2 : Hid (Below W.heap.size W w2) := bb HW1.out hB2
  have HB2 : Hid (Below w.heap.size w w2) := bb HB1.out hB2
  have HZ2 : Hid (ZAt w2 R1 E1 (ints rs)) := HZ1.out.below hB2
  clear hO2 hB2 HL' HZ1 HB1 HW1
  go_wp2_with (go_at_call 83; refine HO'.out w2 R1 E1 HW2.out HZ2.out fun gc C1 w3 hO3 hB3 => ?_)
  have HYk := HY'.out w2 _ D R1 E1 gc C1 HW2.out HO2.out HZ2.out
  have HGC : Hid (w2.heap.size ≤ gc) := hO3.ge.1
  have HO3 : Hid (OwnU w3 w2.heap.size (some ⟨gc, 0, none⟩) C1 os) := hO3
  have HB3 : Hid (Below w2.heap.size w2 w3) := hB3
  clear hO3 hB3 HY' HO'
  go_wp2_with (go_at_call 84; with_reducible refine InQ.use HYk HB3.out HO3.out fun w5 hO5 hK5 => ?_)
  have HO5 : Hid (OwnU w5 w.heap.size (some ⟨gc, 0, none⟩) C1 (lf n S)) := hO5.base HB2.out.size
  have HB5 : Hid (Below w.heap.size w w5) := bb HB2.out (hK5.bel HB3.out HGC.out)
  clear hO5 hK5 HYk
  go_wp2
  go_ret2
  have hl := HE'.out.no rfl
  exact ⟨_, _, rfl, by rw [hl]; exact HO5.out, HB5.out⟩
set_option maxRecDepth 100000 in
set_option maxHeartbeats 4000000 in
theorem runm_yes (W : World) (b : Nat) (A : Option Addr) (n C : Nat) (rs ls os l : List Nat) (S : Nat → Nat) (h1 : 1 ≤ n) (hn : n ≤ 1024) (hll : ls.length = n) (hol : os.length = n) (hls : ∀ y ∈ ls, y < 18446744073709551616) (hS : ∀ j, j < n → S j < 18446744073709551616)
    (HC : ChkY W #[pt b, .slice A n C] rs)
    (HL : ∀ w, Below W.heap.size W w → OwnT w 82 #[pt b, .int .i64 (n : Int), .bool true] ls)
    (HO : ∀ w R E, Below W.heap.size W w → ZAt w R E (ints rs) → OwnT w 83 #[.slice A n C, .slice R rs.length E] os)
    (HY : ∀ w B D R E g C1, Below W.heap.size W w → UAt w B D ls → ZAt w R E (ints rs) → InQ w 84 #[.agg #[pt b, .slice B n D], .slice (some ⟨g, 0, none⟩) n C1, .slice R rs.length E] g C1 os (lf n S))
    (HE : Ends W (some ⟨b, 0, none⟩) true n (lf n S) l) : OwnT W 66 #[pt b, .slice A n C, .bool true] l := by
  intro w hw
  rw [HE.len]
  have HL' : Hid (∀ (w1 : World) {R : Ending → World → Prop}, Below W.heap.size W w1 → (∀ g C1 w', OwnU w' w1.heap.size (some ⟨g, 0, none⟩) C1 ls → Below w1.heap.size w1 w' → R (.returned (.tuple #[.slice (some ⟨g, 0, none⟩) n C1, .int .i64 0])) w') → Calls Tryz.prog 82 #[pt b, .int .i64 (n : Int), .bool true] w1 R) :=
    fun w1 R hw1 k => OwnT.useG (HL w1 hw1) hll h1 (Below.refl _ _) fun g C1 w' q1 q2 => k g C1 w' q1 q2
  have HO' : Hid (∀ (w1 : World) (R0 : Option Addr) (E0 : Nat) {R : Ending → World → Prop}, Below W.heap.size W w1 → ZAt w1 R0 E0 (ints rs) → (∀ g C1 w', OwnU w' w1.heap.size (some ⟨g, 0, none⟩) C1 os → Below w1.heap.size w1 w' → R (.returned (.tuple #[.slice (some ⟨g, 0, none⟩) n C1, .int .i64 0])) w') → Calls Tryz.prog 83 #[.slice A n C, .slice R0 rs.length E0] w1 R) :=
    fun w1 R0 E0 R hw1 hz k => OwnT.useG (HO w1 R0 E0 hw1 hz) hol h1 (Below.refl _ _) fun g C1 w' q1 q2 => k g C1 w' q1 q2
  have HY' := (show Hid _ from HY)
  have HE' : Hid (Ends W (some ⟨b, 0, none⟩) true n (lf n S) l) := HE
  have HLS : Hid (∀ y ∈ ls, y < 18446744073709551616) := hls
  have HSS : Hid (∀ x ∈ lf n S, x < 18446744073709551616) := lf_lt hS
  have HW : Hid (Below W.heap.size W w) := hw
  have HCw := (show Hid _ from HC)
  have hlenn : (n : Int) ≤ 9223372036854775807 := by omega
  clear HC HL HO HY HE hll hls hS h1 hn hw hol
  go_enter Tryz.func66, Tryz.ntmps66
  go_wp2_with (go_at_call 81; refine ChkY.use HCw.out HW.out fun R1 E1 w1 hZ1 hb1 => ?_)
  have HW1 : Hid (Below W.heap.size W w1) := bb HW.out hb1
  have HB1 : Hid (Below w.heap.size w w1) := hb1
  have HZ1 : Hid (ZAt w1 R1 E1 (ints rs)) := hZ1
  clear hZ1 hb1 HCw
  go_wp2_with (go_at_call 82; refine HL'.out w1 HW1.out fun gl D w2 hO2 hB2 => ?_)
  have HO2 : Hid (UAt w2 (some ⟨gl, 0, none⟩) D ls) := hO2.words HLS.out
  have HW2 : Hid (Below W.heap.size W w2) := bb HW1.out hB2
  have HB2 : Hid (Below w.heap.size w w2) := bb HB1.out hB2
  have HZ2 : Hid (ZAt w2 R1 E1 (ints rs)) := HZ1.out.below hB2
  clear hO2 hB2 HL' HZ1 HB1 HW1
  go_wp2_with (go_at_call 83; refine HO'.out w2 R1 E1 HW2.out HZ2.out fun gc C1 w3 hO3 hB3 => ?_)
  have HYk := HY'.out w2 _ D R1 E1 gc C1 HW2.out HO2.out HZ2.out
  have HGC : Hid (w2.heap.size ≤ gc) := hO3.ge.1
  have HO3 : Hid (OwnU w3 w2.heap.size (some ⟨gc, 0, none⟩) C1 os) := hO3
  have HB3 : Hid (Below w2.heap.size w2 w3) := hB3
  clear hO3 hB3 HY' HO'
  go_wp2_with (go_at_call 84; with_reducible refine InQ.use HYk HB3.out HO3.out fun w5 hO5 hK5 => ?_)
  have HO5 : Hid (OwnU w5 w.heap.size (some ⟨gc, 0, none⟩) C1 (lf n S)) := hO5.base HB2.out.size
  have HB5 : Hid (Below w.heap.size w w5) := bb HB2.out (hK5.bel HB3.out HGC.out)
  clear hO5 hK5 HYk
  have HSc := HE'.out.yes rfl w5 _ _ (bb HW.out HB5.out) (HO5.out.words HSS.out)
  have HSu : Hid (∀ {R : Ending → World → Prop}, (∀ A1 C5 w', OwnU w' w.heap.size A1 C5 l → Below w.heap.size w w' → R (.returned (.slice A1 n C5)) w') → Calls Tryz.prog 85 #[pt b, .slice (some ⟨gc, 0, none⟩) n C1] w5 R) := fun {R} k => OwnR.use HSc (Below.refl _ _) fun A1 C5 w' q1 q2 => by
    rw [HE'.out.len]
    exact k A1 C5 w' (q1.base HB5.out.size) (bb HB5.out q2)
  clear HSc
  go_wp2_with (go_at_call 85; with_reducible refine HSu.out fun A6 C6 w6 hO6 hB6 => ?_)
  go_ret2
  exact ⟨_, _, rfl, hO6, hB6⟩

/-- Run, of a list that is transformed. -/
theorem runm_ok {W : World} {b : Nat} {x : En} (F : FieldAt W b x) (hF : Fld x) (hG : FacG W) {A : Option Addr} {C : Nat} {xs : List Nat} (hU : UAt W A C xs) (hk : ck3 x.p xs = 0) (i : Bool) : OwnT W 66 #[pt b, .slice A xs.length C, .bool i] (dT x i xs) := by
  obtain ⟨rs, hrv, hr, h1, hn, hd, hg, hc, hgb⟩ := ck3_ok hk
  obtain ⟨h3, hodd, hlt⟩ := hF.num
  have hE := ends_any F hF h1 (by omega) hd i
  obtain ⟨ba, oa, rfl⟩ := hU.addr h1
  have HC := chm_yes F hG hU hrv hc hgb
  have HL : ∀ w, Below W.heap.size W w → OwnT w 82 #[pt b, .int .i64 (xs.length : Int), .bool i] ((pws (twR x xs.length i) x.p xs.length).map fun y => up y x.p) := fun w hw => lifted_yes w b x (F.below hw) hF xs.length h1 (by omega) hd i
  have hls : ∀ y ∈ (pws (twR x xs.length i) x.p xs.length).map (fun y => up y x.p), y < 18446744073709551616 := fun y hy => by
    obtain ⟨z, _, rfl⟩ := List.mem_map.1 hy
    have := up_lt z x.p (by omega); omega
  have hlp : xs.length = pr rs := hr.prod.symm
  have HO : ∀ w R E, Below W.heap.size W w → ZAt w R E (ints rs) → OwnT w 83 #[.slice (some ⟨ba, oa, none⟩) xs.length C, .slice R rs.length E] (ord rs xs) := fun w R E hw hz =>
    order_own w (some ⟨ba, oa, none⟩) C xs R E rs (hU.below hw) hz (hr.rad hn) hlp
  have HY : ∀ w B D R E g C1, Below W.heap.size W w → UAt w B D ((pws (twR x xs.length i) x.p xs.length).map fun y => up y x.p) → ZAt w R E (ints rs) → InQ w 84 #[.agg #[pt b, .slice B xs.length D], .slice (some ⟨g, 0, none⟩) xs.length C1, .slice R rs.length E] g C1 (ord rs xs) (smL x i xs) := fun w B D R E g C1 hw hL hz =>
    grow_any (F.below hw) hF rfl hr hn hd hg i hL hz g C1
  have hol : (ord rs xs).length = xs.length := by rw [ord_len, hlp]
  have hS : ∀ j, j < xs.length → (fun k => tS (twR x xs.length i) xs.length (atL xs) k % x.p) j < 18446744073709551616 := fun j _ => by
    have := Nat.mod_lt (tS (twR x xs.length i) xs.length (atL xs) j) (show 0 < x.p by omega)
    show tS (twR x xs.length i) xs.length (atL xs) j % x.p < _
    omega
  unfold smL at HY hE
  cases i
  · exact runm_no W b _ xs.length C rs _ _ _ _ h1 hn (by rw [List.length_map, pws_len]) hol hls hS HC HL HO HY hE
  · exact runm_yes W b _ xs.length C rs _ _ _ _ h1 hn (by rw [List.length_map, pws_len]) hol hls hS HC HL HO HY hE
theorem runm_bad {W : World} {b : Nat} {x : En} (F : FieldAt W b x) (hG : FacG W) {A : Option Addr} {C : Nat} {xs : List Nat} (hU : UAt W A C xs) (hk : ck3 x.p xs ≠ 0) (i : Bool) : AnsB W 66 #[pt b, .slice A xs.length C, .bool i] (.tuple #[.slice none 0 0, .int .i64 (ck3 x.p xs)]) :=
  runm_err W _ A _ C i _ (by simp only [bne_iff_ne, ne_eq]; exact hk) (chm_no F hG hU hk)
theorem runm_nil (W : World) (A : Option Addr) (n C : Nat) (i : Bool) (hlen : (n : Int) ≤ 9223372036854775807) : AnsB W 66 #[.pointer none, .slice A n C, .bool i] (.tuple #[.slice none 0 0, .int .i64 2]) :=
  runm_err W none A n C i 2 (by decide) (chm_err W none A n C 2 (by decide) hlen fun w _ => ck_nil w _ _)
end Go.Proofs.YtpjfapibjihbbaaGreatDoor

/-
  Contracts of slices.AppendSeq, Collect and Sorted of words, against whatever tells them.
-/
import Derived.Test.YtafmmkhegkceiaaSv4
namespace Go.Proofs.Ytafmmkhegkceiaa
set_option linter.unusedVariables false
open Go.RowKit Go.Maps Go.Shelf
attribute [local go_sem] Oper.semAt_some

theorem infoU : (Try.prog.info? 26).map (fun i => (i.zero, i.size, i.bytes)) = some (some (.int .u64 0), 1, 8) := by kernel_rfl

set_option maxRecDepth 100000 in
set_option maxHeartbeats 2000000 in
theorem appendSeq_in (n : Nat) (hn : 2 ≤ n) (gf : Nat) (lb : Array Value) (eg : ∀ args w, (callFunc gf args).run Try.prog w = .ok (.enter gf args) w)
    (S : List Nat → Prop) (N : Nat) (hN : N ≤ 1000) (w : World) (hseq : SeqStopsK Fence.wide (n - 1) Try.prog gf lb (fun x : Nat => #[encU x]) KeepsWalks S (fun _ => True) N w) :
    CallsIn Fence.wide n Try.prog 47 #[.slice none 0 0, .func (.func gf) #[] lb] w fun e w' => ∃ (v : Value) (ss : List Nat), e = .returned v ∧ S ss ∧ w'.ownsRow w.heap.size 26 1 v ss.length (ss.map encU) ∧ Below w.heap.size w w' := by
  have h1 : 1 ≤ n := by omega
  obtain ⟨i0, hi, hz0, hz1, hz2⟩ := info_parts infoU
  refine callsIn_of_wp_marks Try.func47 rfl trivial ?_ rfl
  simp only [Try.ntmps47, List.size_toArray, List.length_cons, List.length_nil, Nat.reduceAdd, Nat.reduceSub, Array.replicate_succ, Array.replicate_zero, List.push_toArray, List.append_toArray, List.nil_append, List.cons_append]
  gi_wp2
  have hb0 : Below w.heap.size w (w.alloc (.cells #[.slice none 0 0] 55)) := below_alloc _ _
  refine wpIn_rangeFunc_ownF (w0 := w) (N := N) (S := S) (Sp := fun _ => True) (Kp := KeepsWalks) (encs := fun x : Nat => #[encU x]) rfl h1 (gf := gf) (lb := lb) rfl trivial eg hseq walksK_t walksK_b hb0 (fun _ => rfl)
    (fun pre W => (∃ v, Boxed W w.heap.size 55 v ∧ W.ownsRow w.heap.size 26 1 v pre.length (pre.map encU) ∧ True) ∧ Below w.heap.size w W)
    (fun _ _ _ => False) ?hI ?hIx ?h0
    (fun x => { tmps := #[.slice none 0 0, .func (.func gf) #[] lb, .pointer (some ⟨w.heap.size, 0, none⟩), undef, .slice none 0 0, encU x, .func (.func gf) #[] lb, encU x, undef, undef, undef, undef, undef], defers := [] }) ?assign ?body ?done ?stop
  case hI => exact OwnFrom.and (Own.from (holdsRow_own w.heap.size w.heap.size 55 26 1 (fun pre : List Nat => pre.length) (fun pre => pre.map encU) (fun _ _ => True)) _) (ownFrom_below (Nat.le_refl _) (by simp))
  case hIx => exact fun _ _ _ _ _ h _ _ => h
  case h0 => exact ⟨⟨_, Boxed.new w _ _, (World.ownsRow_nil _ _ _ _), trivial⟩, hb0⟩
  case assign =>
    intro l x W K hK
    gi_wp2
    exact hK
  case body =>
    rintro l pre x W ⟨⟨v, hv, hrow, _⟩, hB⟩ hlt
    have hc := hv.cell
    have hne : (55 : TypeId) ≠ 26 := by decide
    unfold encU
    gi_wp2_with (gi_at_builtin; refine wpListIn_append_own _ rfl _ _ 55 rfl w.heap.size 26 i0 (.int .u64 0) 1 8 Try.underlying55 hi hz0 hz1 hz2 rfl (by decide) _ _ _ rfl (hrow.alloc _) ⟨W.heap.size, 0, none⟩ 1 1 [.int .u64 (x : Int)] rfl rfl (cell_one_new _ _ _) (by simp [Value.oneCell']) (by unfold maxLen; omega) (by omega) (by have := hB.size; simp; omega) ?_; intro v' w1 hown' hgrow _; obtain ⟨g', cap', rfl⟩ := ownsRow_succ hown'; obtain ⟨hv1, hv2, hr2, hk2, hb2⟩ := hv.appended hne hrow hB.size (Nat.le_refl _) hown' hgrow; have hc1 := hv1.cell; have hf1 := hv1.frozen)
    exact ⟨hk2, hk2.walks, ⟨_, hv2, by rw [List.length_append, List.map_append]; exact hr2, trivial⟩, hB.trans hb2⟩
  case done =>
    rintro D ys W hD hS ⟨⟨v, hv, hrow, _⟩, hB⟩ hK
    have hc := hv.cell
    gi_wp2
    refine ⟨by simp, .inl ⟨_, _, rfl, run_takeDeferred hK, ?_⟩⟩
    exact ⟨_, results_tmp rfl _ _ _, v, ys, rfl, hS, ownsRow_putObj hrow _ hK rfl, hB.trans (belowK_b (w := w) (Nat.le_refl _) W D _ _ (by simp at hD; omega) hK rfl rfl)⟩
  case stop =>
    rintro D c pre W _ _ h _
    exact h.elim

set_option maxHeartbeats 1000000 in
theorem collect_in (n : Nat) (hn : 3 ≤ n) (gf : Nat) (lb : Array Value) (eg : ∀ args w, (callFunc gf args).run Try.prog w = .ok (.enter gf args) w)
    (S : List Nat → Prop) (N : Nat) (hN : N ≤ 1000) (w : World) (hseq : SeqStopsK Fence.wide (n - 1 - 1) Try.prog gf lb (fun x : Nat => #[encU x]) KeepsWalks S (fun _ => True) N w) :
    CallsIn Fence.wide n Try.prog 35 #[.func (.func gf) #[] lb] w fun e w' => ∃ (v : Value) (ss : List Nat), e = .returned v ∧ S ss ∧ w'.ownsRow w.heap.size 26 1 v ss.length (ss.map encU) ∧ Below w.heap.size w w' := by
  have h1 : 1 ≤ n := by omega
  have hfA : Fence.wide.fn 47 := trivial
  have HA := appendSeq_in (n - 1) (by omega) gf lb eg S N hN w hseq
  refine callsIn_of_wp Try.func35 rfl trivial ?_ rfl
  simp only [Try.ntmps35, List.size_toArray, List.length_cons, List.length_nil, Nat.reduceAdd, Nat.reduceSub, Array.replicate_succ, Array.replicate_zero, List.push_toArray, List.append_toArray, List.nil_append, List.cons_append]
  gi_wp2_with (gi_at_call 47; refine HA.mono ?_; rintro e w' ⟨v, ss, rfl, hS, hrow, hb⟩)
  go_ret
  exact ⟨v, ss, rfl, hS, hrow, hb⟩

/-- The keys in order: a new row. -/
def SortedAns (gf : Nat) (lb : Array Value) (w : World) (S : List Nat → Prop) : Prop :=
  Calls Try.prog 23 #[.func (.func gf) #[] lb] w fun e w' => ∃ (g cap : Nat) (ss : List Nat), e = .returned (.slice (some ⟨g, 0, none⟩) ss.length cap) ∧ ss.Pairwise (· ≤ ·) ∧ (∃ ss', ss.Perm ss' ∧ S ss') ∧ w'.ownsRow w.heap.size 26 1 (.slice (some ⟨g, 0, none⟩) ss.length cap) ss.length (ss.map encU) ∧ Below w.heap.size w w'
set_option maxHeartbeats 1000000 in
theorem sorted_any (gf : Nat) (lb : Array Value) (eg : ∀ args w, (callFunc gf args).run Try.prog w = .ok (.enter gf args) w)
    (S : List Nat → Prop) (w : World) (hseq : SeqStopsK Fence.wide 3 Try.prog gf lb (fun x : Nat => #[encU x]) KeepsWalks S (fun _ => True) 12 w)
    (hS1 : ∀ ss, S ss → 1 ≤ ss.length ∧ ss.length ≤ 12 ∧ ∀ x ∈ ss, x < 18446744073709551616) : SortedAns gf lb w S := by
  have HC : Calls Try.prog 35 #[.func (.func gf) #[] lb] w fun e w' => ∃ (v : Value) (ss : List Nat), e = .returned v ∧ S ss ∧ w'.ownsRow w.heap.size 26 1 v ss.length (ss.map encU) ∧ Below w.heap.size w w' := callsIn_wide.1 (collect_in 5 (by omega) gf lb eg S 12 (by omega) w hseq)
  unfold SortedAns
  go_enter Try.func23, Try.ntmps23
  go_wp2_with (go_at_call 35; refine HC.mono ?_; rintro e w1 ⟨v, ss, rfl, hS, hrow, hb⟩; refine Hid.out ?_)
  unfold Hid
  obtain ⟨h1, h2, h3⟩ := hS1 ss hS
  obtain ⟨g, cap, rfl⟩ : ∃ g cap, v = .slice (some ⟨g, 0, none⟩) ss.length cap := by
    rcases hrow.2 with ⟨_, h0⟩ | ⟨g, cap, cur, rfl, _⟩
    · omega
    · exact ⟨g, cap, rfl⟩
  have HT := fun k => sort_any (w1.drewN k) w.heap.size g cap ss h2 h3 hrow
  unfold SortAns at HT
  have hg := (hrow.lt g rfl).1
  obtain ⟨n, hn⟩ : ∃ n, ss.length = n := ⟨_, rfl⟩
  have HN : Hid (ss.length = n) := hn
  rw [hn] at HT hrow ⊢
  clear hn
  have HT0 := HT 0
  go_wp2_with (go_at_call 36; refine (HT0).mono ?_; rintro e w2 ⟨rfl, l, hl1, hl2, hl3, hl4⟩)
  go_ret
  have hln : l.length = n := by rw [← HN.out]; exact hl1.length_eq
  subst hln
  exact ⟨g, cap, l, rfl, hl2, ⟨ss, hl1, hS⟩, hl3, hb.trans (((Below.refl _ w1).grown hl4 hb.size (fun k e => by cases e; exact hg)))⟩
end Go.Proofs.Ytafmmkhegkceiaa

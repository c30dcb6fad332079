/-
  Contracts of what tells a map's keys in order: maps.Keys and its iterator, slices.AppendSeq, Collect and Sorted of words. No condition but that the map has 1 to 12 keys.
-/
import Derived.Test.YtpjfapibjihbbaaGreatDoorF9
import Derived.RangeFuncNested
import Derived.RangeFuncBound
import Derived.RangeFuncCalls
import Derived.RangeFuncLeaves
import Derived.RangeFuncBox
import Derived.RangeFuncFrom
import Derived.RangeFuncSeq
import Derived.RangeFuncGives
import Derived.Shelf.Abstract
import Derived.Shelf.RegionOpen
import Derived.WalkKit
import Derived.OwnWalkIn
import Derived.TacticsInMore
import Derived.LoopNIn
import Derived.LoopIn
import Derived.Maps.OwnIn
import Derived.Maps.OwnSet
import Derived.Maps.AppendAt
import Derived.Sort.MapsRangeIn
import Derived.Maps.OwnOps
namespace Go.Proofs.YtpjfapibjihbbaaGreatDoor
set_option linter.unusedVariables false
open Go.RowKit Go.Maps Go.Shelf
attribute [local go_sem] Oper.semAt_some
variable {H : Type}

/-- A key of a map of words. -/
abbrev keyU (x : Nat) : Lit := .int .u64 (x : Int)
theorem keyU_inj {x y : Nat} (h : keyU x = keyU y) : x = y := by
  have : (x : Int) = y := by simpa [keyU] using h
  omega
theorem encU_inj {x y : Nat} (h : encU x = encU y) : x = y := by
  have : (x : Int) = y := by simpa [encU] using h
  omega
theorem keyed64 : Keyed Tryz.prog 22 := int_keyed Tryz.underlying22
theorem keyOf_u64 {key : Value} {kl : Lit} (h : keyOf Tryz.prog 22 key = some kl) : ∃ x : Nat, key = encU x ∧ kl = keyU x ∧ x < 18446744073709551616 := by
  cases key <;> simp [keyOf, Tryz.underlying22, mapKey] at h
  rename_i q a
  obtain ⟨⟨rfl, hw⟩, rfl⟩ := h
  obtain ⟨x, rfl, hx⟩ := wd_of_wf hw
  exact ⟨x, rfl, rfl, hx⟩
theorem wf_u64 {x : Nat} (h : x < 18446744073709551616) : (Lit.int .u64 (x : Int)).wf = true := by
  simp [Lit.wf, IntKind.min, IntKind.max, IntKind.signed, IntKind.bits]; omega
theorem keyOf_mk {x : Nat} (h : x < 18446744073709551616) : keyOf Tryz.prog 22 (.int .u64 (x : Int)) = some (keyU x) := keyOf_int_mk Tryz.underlying22 (wf_u64 h)

/-- No key twice; those that were met are no longer to come. -/
def ColU (D : DataW H) (left : Lit → Bool) (ss : List Nat) : Prop := ss.Nodup ∧ ∀ x : Nat, x ∈ ss ↔ (has D (keyU x) = true ∧ left (keyU x) = false)
theorem ColU.start (D : DataW H) : ColU D (has D) [] := ⟨List.nodup_nil, fun x => by cases has D (keyU x) <;> simp⟩
theorem ColU.step {D : DataW H} {left : Lit → Bool} {ss : List Nat} (h : ColU D left ss) {x : Nat} {y : DataW H} (hlk : left (keyU x) = true) (hat : ∀ zd, D.atKey (keyU x) zd = y) : ColU D (fun z => left z && !z.sameKey (keyU x)) (ss ++ [x]) := by
  have hhas : has D (keyU x) = true := has_true_of_atKey hat
  have hnew : x ∉ ss := fun hx => by have := ((h.2 x).1 hx).2; rw [hlk] at this; cases this
  refine ⟨List.nodup_append.2 ⟨h.1, by simp, fun a ha b hb => by simp at hb; subst hb; exact fun e => hnew (e ▸ ha)⟩, fun y => ?_⟩
  by_cases hy : y = x
  · subst hy; simp [hhas, Lit.sameKey]
  · have hs : (keyU y).sameKey (keyU x) = false := by simp [Lit.sameKey]; omega
    simp [h.2 y, hs, hy]
/-- The keys, each once. -/
def KeysAre (D : DataW H) (ss : List Nat) : Prop := ss.Nodup ∧ ∀ x : Nat, x ∈ ss ↔ has D (keyU x) = true

set_option maxRecDepth 100000 in
set_option maxHeartbeats 1000000 in
theorem keysI_walk (n : Nat) (hn : 1 ≤ n) (l Bm b nn : Nat) (D0 : DataW H) {R : Value → Option (DataW H × List MemPlace)} (J Jx : List Nat → World → Prop)
    (hY : ∀ pre x W, J pre W → pre.length < Maps.size D0 → YieldAt Fence.wide (n - 1) Tryz.prog l #[encU x] W fun e W' =>
      (e = .returned (.bool true) ∧ J (pre ++ [x]) W' ∧ KeepsWalks W W') ∨ (e = .returned (.bool false) ∧ Jx (pre ++ [x]) W'))
    (W : World) (hJ : AbidesFrom W.heap.size J) (hm : W.cell? ⟨Bm, 0, none⟩ = some (.map (some b))) (hown : W.ownsMap Tryz.prog 22 R b nn D0) (h0 : J [] W) :
    CallsIn Fence.wide n Tryz.prog 113 #[.func (.yield l) #[] #[], .pointer (some ⟨Bm, 0, none⟩)] W fun e W' => (∃ v, e = .returned v) ∧ ((∃ ss : List Nat, KeysAre D0 ss ∧ J ss W') ∨ (∃ pre : List Nat, True ∧ Jx pre W')) := by
  refine callsIn_of_wp Tryz.func113 rfl trivial ?_ rfl
  simp only [Tryz.ntmps113, List.size_toArray, List.length_cons, List.length_nil, Nat.reduceAdd, Nat.reduceSub, Array.replicate_succ, Array.replicate_zero, List.push_toArray, List.append_toArray, List.nil_append, List.cons_append]
  gi_wp2_with (first
    | (gi_at_range; refine wpListIn_range_own _ rfl _ 134 rfl 22 3 keyed64 Tryz.underlying134 _ b nn _ rfl hown ?_; intro w0 hrg0 hg0 hs0)
    | gi_in)
  go_frame
  gi_loopw [3] (fun _ wr => ∃ (left : Lit → Bool) (cnt : Nat) (ss : List Nat), wr.ranges Tryz.prog 22 R b W.heap.size nn D0 left cnt ∧ ss.length + cnt ≤ Maps.size D0 ∧ ColU D0 left ss ∧ J ss wr)
    (fun _ wr => wr.rangeLeft b W.heap.size)
  case atStart => exact ⟨_, _, [], hrg0, by simp, ColU.start D0, hJ [] W w0 none h0 hg0 (fun r e => by cases e)⟩
  case round =>
    obtain ⟨left, cnt, ss, hrg, hcs, hC, hJs⟩ := hrel
    gi_wp2_with (first
      | (gi_at_next; refine wpListIn_next_ranges _ rfl _ rfl 22 keyed64 R encU id (fun key kl hk => by obtain ⟨x, hx, _⟩ := keyOf_u64 hk; exact ⟨x, hx⟩) (fun v _ _ => ⟨v, rfl⟩) b W.heap.size nn _ _ _ rfl hrg ?_ ?_)
      | gi_in)
    · intro hc0 hl0
      gi_wp2
      go_end0
      exact ⟨⟨_, rfl⟩, .inl ⟨ss, ⟨hC.1, fun x => by rw [hC.2 x, hl0]; simp⟩, hJs⟩⟩
    · intro x c kl yd yp w2 cnt2 hkey hlk hv hat hrg2 hlt hg2 hs2 hen
      obtain ⟨x', ex, rfl, _⟩ := keyOf_u64 hkey
      obtain rfl : x = x' := encU_inj ex
      have hJ2 : J ss w2 := hJ ss wr w2 (some W.heap.size) hJs hg2 (fun r e => by cases e; exact ⟨Nat.le_refl _, hrg.iter_walk⟩)
      obtain ⟨fn, tmps, assign, body, hy, hR⟩ := hY ss x w2 hJ2 (by omega)
      clear hs2
      have hC2 := hC.step hlk hat
      gi_wp2
      refine hR.mono ?_
      rintro e W3 (⟨rfl, hJ3, hk3⟩ | ⟨rfl, hJx3⟩)
      · gi_wp2
        have hrg3 := hrg2.of_walks hk3
        go_roundw
        case rel => exact ⟨_, cnt2, ss ++ [x], hrg3, by simp; omega, hC2, hJ3⟩
        case measure => rw [hrg3.left_eq, hrg.left_eq]; exact hlt
      · gi_wp2
        refine bodyPost_ret (results_none rfl _ _ _) rfl ?_
        exact ⟨⟨_, rfl⟩, .inr ⟨ss ++ [x], trivial, hJx3⟩⟩
theorem keysI_stops (n : Nat) (hn : 1 ≤ n) (Bm b nn : Nat) (D0 : DataW H) {R : Value → Option (DataW H × List MemPlace)} (w : World) (hBm : Bm < w.heap.size) (hm : w.cell? ⟨Bm, 0, none⟩ = some (.map (some b))) (hown : w.ownsMap Tryz.prog 22 R b nn D0) :
    SeqStopsK Fence.wide n Tryz.prog 113 #[.pointer (some ⟨Bm, 0, none⟩)] (fun x : Nat => #[encU x]) KeepsWalks (KeysAre D0) (fun _ => True) (Maps.size D0) w := fun l J Jx W hW hJ _ hY h0 => by
  have hown' : W.ownsMap Tryz.prog 22 R b nn D0 := by
    have hbl := hown.lt
    obtain ⟨es, clock, hb, Ft, hs, hD⟩ := hown
    exact ⟨es, clock, (hW.block b hbl).trans hb, Ft, hs, hD⟩
  exact keysI_walk n hn l Bm b nn D0 J Jx hY W hJ ((hW.cell (p := ⟨Bm, 0, none⟩) hBm).trans hm) hown' h0
theorem keysI_any (mb : Option Nat) (w : World) :
    Calls Tryz.prog 89 #[.map mb] w fun e w' => e = .returned (.func (.func 113) #[] #[.pointer (some ⟨w.heap.size, 0, none⟩)]) ∧ w' = w.alloc (.cells #[.map mb] 134) := by
  go_enter Tryz.func89, Tryz.ntmps89
  go_wp2
  go_ret
  exact ⟨rfl, rfl⟩

set_option maxRecDepth 100000 in
set_option maxHeartbeats 1000000 in
theorem keysE_walk (n : Nat) (hn : 1 ≤ n) (l Bm b nn : Nat) (D0 : DataW H) {R : Value → Option (DataW H × List MemPlace)} (J Jx : List Nat → World → Prop)
    (hY : ∀ pre x W, J pre W → pre.length < Maps.size D0 → YieldAt Fence.wide (n - 1) Tryz.prog l #[encU x] W fun e W' =>
      (e = .returned (.bool true) ∧ J (pre ++ [x]) W' ∧ KeepsWalks W W') ∨ (e = .returned (.bool false) ∧ Jx (pre ++ [x]) W'))
    (W : World) (hJ : AbidesFrom W.heap.size J) (hm : W.cell? ⟨Bm, 0, none⟩ = some (.map (some b))) (hown : W.ownsMap Tryz.prog 22 R b nn D0) (h0 : J [] W) :
    CallsIn Fence.wide n Tryz.prog 75 #[.func (.yield l) #[] #[], .pointer (some ⟨Bm, 0, none⟩)] W fun e W' => (∃ v, e = .returned v) ∧ ((∃ ss : List Nat, KeysAre D0 ss ∧ J ss W') ∨ (∃ pre : List Nat, True ∧ Jx pre W')) := by
  refine callsIn_of_wp Tryz.func75 rfl trivial ?_ rfl
  simp only [Tryz.ntmps75, List.size_toArray, List.length_cons, List.length_nil, Nat.reduceAdd, Nat.reduceSub, Array.replicate_succ, Array.replicate_zero, List.push_toArray, List.append_toArray, List.nil_append, List.cons_append]
  gi_wp2_with (first
    | (gi_at_range; refine wpListIn_range_own _ rfl _ 99 rfl 22 78 keyed64 Tryz.underlying99 _ b nn _ rfl hown ?_; intro w0 hrg0 hg0 hs0)
    | gi_in)
  go_frame
  gi_loopw [3] (fun _ wr => ∃ (left : Lit → Bool) (cnt : Nat) (ss : List Nat), wr.ranges Tryz.prog 22 R b W.heap.size nn D0 left cnt ∧ ss.length + cnt ≤ Maps.size D0 ∧ ColU D0 left ss ∧ J ss wr)
    (fun _ wr => wr.rangeLeft b W.heap.size)
  case atStart => exact ⟨_, _, [], hrg0, by simp, ColU.start D0, hJ [] W w0 none h0 hg0 (fun r e => by cases e)⟩
  case round =>
    obtain ⟨left, cnt, ss, hrg, hcs, hC, hJs⟩ := hrel
    gi_wp2_with (first
      | (gi_at_next; refine wpListIn_next_ranges _ rfl _ rfl 22 keyed64 R encU id (fun key kl hk => by obtain ⟨x, hx, _⟩ := keyOf_u64 hk; exact ⟨x, hx⟩) (fun v _ _ => ⟨v, rfl⟩) b W.heap.size nn _ _ _ rfl hrg ?_ ?_)
      | gi_in)
    · intro hc0 hl0
      gi_wp2
      go_end0
      exact ⟨⟨_, rfl⟩, .inl ⟨ss, ⟨hC.1, fun x => by rw [hC.2 x, hl0]; simp⟩, hJs⟩⟩
    · intro x c kl yd yp w2 cnt2 hkey hlk hv hat hrg2 hlt hg2 hs2 hen
      obtain ⟨x', ex, rfl, _⟩ := keyOf_u64 hkey
      obtain rfl : x = x' := encU_inj ex
      have hJ2 : J ss w2 := hJ ss wr w2 (some W.heap.size) hJs hg2 (fun r e => by cases e; exact ⟨Nat.le_refl _, hrg.iter_walk⟩)
      obtain ⟨fn, tmps, assign, body, hy, hR⟩ := hY ss x w2 hJ2 (by omega)
      clear hs2
      have hC2 := hC.step hlk hat
      gi_wp2
      refine hR.mono ?_
      rintro e W3 (⟨rfl, hJ3, hk3⟩ | ⟨rfl, hJx3⟩)
      · gi_wp2
        have hrg3 := hrg2.of_walks hk3
        go_roundw
        case rel => exact ⟨_, cnt2, ss ++ [x], hrg3, by simp; omega, hC2, hJ3⟩
        case measure => rw [hrg3.left_eq, hrg.left_eq]; exact hlt
      · gi_wp2
        refine bodyPost_ret (results_none rfl _ _ _) rfl ?_
        exact ⟨⟨_, rfl⟩, .inr ⟨ss ++ [x], trivial, hJx3⟩⟩
theorem keysE_stops (n : Nat) (hn : 1 ≤ n) (Bm b nn : Nat) (D0 : DataW H) {R : Value → Option (DataW H × List MemPlace)} (w : World) (hBm : Bm < w.heap.size) (hm : w.cell? ⟨Bm, 0, none⟩ = some (.map (some b))) (hown : w.ownsMap Tryz.prog 22 R b nn D0) :
    SeqStopsK Fence.wide n Tryz.prog 75 #[.pointer (some ⟨Bm, 0, none⟩)] (fun x : Nat => #[encU x]) KeepsWalks (KeysAre D0) (fun _ => True) (Maps.size D0) w := fun l J Jx W hW hJ _ hY h0 => by
  have hown' : W.ownsMap Tryz.prog 22 R b nn D0 := by
    have hbl := hown.lt
    obtain ⟨es, clock, hb, Ft, hs, hD⟩ := hown
    exact ⟨es, clock, (hW.block b hbl).trans hb, Ft, hs, hD⟩
  exact keysE_walk n hn l Bm b nn D0 J Jx hY W hJ ((hW.cell (p := ⟨Bm, 0, none⟩) hBm).trans hm) hown' h0
theorem keysE_any (mb : Option Nat) (w : World) :
    Calls Tryz.prog 56 #[.map mb] w fun e w' => e = .returned (.func (.func 75) #[] #[.pointer (some ⟨w.heap.size, 0, none⟩)]) ∧ w' = w.alloc (.cells #[.map mb] 99) := by
  go_enter Tryz.func56, Tryz.ntmps56
  go_wp2
  go_ret
  exact ⟨rfl, rfl⟩
end Go.Proofs.YtpjfapibjihbbaaGreatDoor
/-
  Contracts of slices.AppendSeq, Collect and Sorted of words, against whatever tells them.
-/
namespace Go.Proofs.YtpjfapibjihbbaaGreatDoor
set_option linter.unusedVariables false
open Go.RowKit Go.Maps Go.Shelf
attribute [local go_sem] Oper.semAt_some

theorem infoU : (Tryz.prog.info? 22).map (fun i => (i.zero, i.size, i.bytes)) = some (some (.int .u64 0), 1, 8) := by kernel_rfl

set_option maxRecDepth 100000 in
set_option maxHeartbeats 2000000 in
theorem appendSeq_in (n : Nat) (hn : 2 ≤ n) (gf : Nat) (lb : Array Value) (eg : ∀ args w, (callFunc gf args).run Tryz.prog w = .ok (.enter gf args) w)
    (S : List Nat → Prop) (N : Nat) (hN : N ≤ 1000) (w : World) (hseq : SeqStopsK Fence.wide (n - 1) Tryz.prog gf lb (fun x : Nat => #[encU x]) KeepsWalks S (fun _ => True) N w) :
    CallsIn Fence.wide n Tryz.prog 90 #[.slice none 0 0, .func (.func gf) #[] lb] w fun e w' => ∃ (v : Value) (ss : List Nat), e = .returned v ∧ S ss ∧ w'.ownsRow w.heap.size 22 1 v ss.length (ss.map encU) ∧ Below w.heap.size w w' := by
  have h1 : 1 ≤ n := by omega
  obtain ⟨i0, hi, hz0, hz1, hz2⟩ := info_parts infoU
  refine callsIn_of_wp_marks Tryz.func90 rfl trivial ?_ rfl
  simp only [Tryz.ntmps90, List.size_toArray, List.length_cons, List.length_nil, Nat.reduceAdd, Nat.reduceSub, Array.replicate_succ, Array.replicate_zero, List.push_toArray, List.append_toArray, List.nil_append, List.cons_append]
  gi_wp2
  have hb0 : Below w.heap.size w (w.alloc (.cells #[.slice none 0 0] 26)) := below_alloc _ _
  refine wpIn_rangeFunc_ownF (w0 := w) (N := N) (S := S) (Sp := fun _ => True) (Kp := KeepsWalks) (encs := fun x : Nat => #[encU x]) rfl h1 (gf := gf) (lb := lb) rfl trivial eg hseq walksK_t walksK_b hb0 (fun _ => rfl)
    (fun pre W => (∃ v, Boxed W w.heap.size 26 v ∧ W.ownsRow w.heap.size 22 1 v pre.length (pre.map encU) ∧ True) ∧ Below w.heap.size w W)
    (fun _ _ _ => False) ?hI ?hIx ?h0
    (fun x => { tmps := #[.slice none 0 0, .func (.func gf) #[] lb, .pointer (some ⟨w.heap.size, 0, none⟩), undef, .slice none 0 0, encU x, .func (.func gf) #[] lb, encU x, undef, undef, undef, undef, undef], defers := [] }) ?assign ?body ?done ?stop
  case hI => exact OwnFrom.and (Own.from (holdsRow_own w.heap.size w.heap.size 26 22 1 (fun pre : List Nat => pre.length) (fun pre => pre.map encU) (fun _ _ => True)) _) (ownFrom_below (Nat.le_refl _) (by simp))
  case hIx => exact fun _ _ _ _ _ h _ _ => h
  case h0 => exact ⟨⟨_, Boxed.new w _ _, (World.ownsRow_nil _ _ _ _), trivial⟩, hb0⟩
  case assign =>
    intro l x W K hK
    gi_wp2
    exact hK
  case body =>
    rintro l pre x W ⟨⟨v, hv, hrow, _⟩, hB⟩ hlt
    have hc := hv.cell
    have hne : (26 : TypeId) ≠ 22 := by decide
    unfold encU
    gi_wp2_with (gi_at_builtin; refine wpListIn_append_own _ rfl _ _ 26 rfl w.heap.size 22 i0 (.int .u64 0) 1 8 Tryz.underlying26 hi hz0 hz1 hz2 rfl (by decide) _ _ _ rfl (hrow.alloc _) ⟨W.heap.size, 0, none⟩ 1 1 [.int .u64 (x : Int)] rfl rfl (cell_one_new _ _ _) (by simp [Value.oneCell']) (by unfold maxLen; omega) (by omega) (by have := hB.size; simp; omega) ?_; intro v' w1 hown' hgrow _; obtain ⟨g', cap', rfl⟩ := ownsRow_succ hown'; obtain ⟨hv1, hv2, hr2, hk2, hb2⟩ := hv.appended hne hrow hB.size (Nat.le_refl _) hown' hgrow; have hc1 := hv1.cell; have hf1 := hv1.frozen)
    exact ⟨hk2, hk2.walks, ⟨_, hv2, by rw [List.length_append, List.map_append]; exact hr2, trivial⟩, hB.trans hb2⟩
  case done =>
    rintro D ys W hD hS ⟨⟨v, hv, hrow, _⟩, hB⟩ hK
    have hc := hv.cell
    gi_wp2
    refine ⟨by simp, .inl ⟨_, _, rfl, run_takeDeferred hK, ?_⟩⟩
    exact ⟨_, results_tmp rfl _ _ _, v, ys, rfl, hS, ownsRow_putObj hrow _ hK rfl, hB.trans (belowK_b (w := w) (Nat.le_refl _) W D _ _ (by simp at hD; omega) hK rfl rfl)⟩
  case stop =>
    rintro D c pre W _ _ h _
    exact h.elim

set_option maxHeartbeats 1000000 in
theorem collect_in (n : Nat) (hn : 3 ≤ n) (gf : Nat) (lb : Array Value) (eg : ∀ args w, (callFunc gf args).run Tryz.prog w = .ok (.enter gf args) w)
    (S : List Nat → Prop) (N : Nat) (hN : N ≤ 1000) (w : World) (hseq : SeqStopsK Fence.wide (n - 1 - 1) Tryz.prog gf lb (fun x : Nat => #[encU x]) KeepsWalks S (fun _ => True) N w) :
    CallsIn Fence.wide n Tryz.prog 73 #[.func (.func gf) #[] lb] w fun e w' => ∃ (v : Value) (ss : List Nat), e = .returned v ∧ S ss ∧ w'.ownsRow w.heap.size 22 1 v ss.length (ss.map encU) ∧ Below w.heap.size w w' := by
  have h1 : 1 ≤ n := by omega
  have hfA : Fence.wide.fn 90 := trivial
  have HA := appendSeq_in (n - 1) (by omega) gf lb eg S N hN w hseq
  refine callsIn_of_wp Tryz.func73 rfl trivial ?_ rfl
  simp only [Tryz.ntmps73, List.size_toArray, List.length_cons, List.length_nil, Nat.reduceAdd, Nat.reduceSub, Array.replicate_succ, Array.replicate_zero, List.push_toArray, List.append_toArray, List.nil_append, List.cons_append]
  gi_wp2_with (gi_at_call 90; refine HA.mono ?_; rintro e w' ⟨v, ss, rfl, hS, hrow, hb⟩)
  go_ret
  exact ⟨v, ss, rfl, hS, hrow, hb⟩

/-- The keys in order: a new row. -/
def SortedAns (gf : Nat) (lb : Array Value) (w : World) (S : List Nat → Prop) : Prop :=
  Calls Tryz.prog 55 #[.func (.func gf) #[] lb] w fun e w' => ∃ (g cap : Nat) (ss : List Nat), e = .returned (.slice (some ⟨g, 0, none⟩) ss.length cap) ∧ ss.Pairwise (· ≤ ·) ∧ (∃ ss', ss.Perm ss' ∧ S ss') ∧ w'.ownsRow w.heap.size 22 1 (.slice (some ⟨g, 0, none⟩) ss.length cap) ss.length (ss.map encU) ∧ Below w.heap.size w w'
set_option maxHeartbeats 1000000 in
theorem sorted_any (gf : Nat) (lb : Array Value) (eg : ∀ args w, (callFunc gf args).run Tryz.prog w = .ok (.enter gf args) w)
    (S : List Nat → Prop) (w : World) (hseq : SeqStopsK Fence.wide 3 Tryz.prog gf lb (fun x : Nat => #[encU x]) KeepsWalks S (fun _ => True) 12 w)
    (hS1 : ∀ ss, S ss → 1 ≤ ss.length ∧ ss.length ≤ 12 ∧ ∀ x ∈ ss, x < 18446744073709551616) : SortedAns gf lb w S := by
  have HC : Calls Tryz.prog 73 #[.func (.func gf) #[] lb] w fun e w' => ∃ (v : Value) (ss : List Nat), e = .returned v ∧ S ss ∧ w'.ownsRow w.heap.size 22 1 v ss.length (ss.map encU) ∧ Below w.heap.size w w' := callsIn_wide.1 (collect_in 5 (by omega) gf lb eg S 12 (by omega) w hseq)
  unfold SortedAns
  go_enter Tryz.func55, Tryz.ntmps55
  go_wp2_with (go_at_call 73; refine HC.mono ?_; rintro e w1 ⟨v, ss, rfl, hS, hrow, hb⟩; refine Hid.out ?_)
  unfold Hid
  obtain ⟨h1, h2, h3⟩ := hS1 ss hS
  obtain ⟨g, cap, rfl⟩ : ∃ g cap, v = .slice (some ⟨g, 0, none⟩) ss.length cap := by
    rcases hrow.2 with ⟨_, h0⟩ | ⟨g, cap, cur, rfl, _⟩
    · omega
    · exact ⟨g, cap, rfl⟩
  have HT := fun k => sort_any (w1.drewN k) w.heap.size g cap ss h2 h3 hrow
  unfold SortAns at HT
  have hg := (hrow.lt g rfl).1
  obtain ⟨n, hn⟩ : ∃ n, ss.length = n := ⟨_, rfl⟩
  have HN : Hid (ss.length = n) := hn
  rw [hn] at HT hrow ⊢
  clear hn
  have HT0 := HT 0
  go_wp2_with (go_at_call 74; refine (HT0).mono ?_; rintro e w2 ⟨rfl, l, hl1, hl2, hl3, hl4⟩)
  go_ret
  have hln : l.length = n := by rw [← HN.out]; exact hl1.length_eq
  subst hln
  exact ⟨g, cap, l, rfl, hl2, ⟨ss, hl1, hS⟩, hl3, hb.trans (((Below.refl _ w1).grown hl4 hb.size (fun k e => by cases e; exact hg)))⟩
end Go.Proofs.YtpjfapibjihbbaaGreatDoor
/-
  The contract of sieve's gather: a map of just the prime factors, each with how often it is one.
-/
namespace Go.Proofs.YtpjfapibjihbbaaGreatDoor
set_option linter.unusedVariables false
open Go.RowKit Go.Maps

/-! ### What is counted -/
def upd (c : Nat → Nat) (q : Nat) : Nat → Nat := fun r => if r = q then c q + 1 else c r
structure GInv (n0 n q : Nat) (c : Nat → Nat) : Prop where
  one : 1 ≤ n
  cnt : ∀ r, Prm r → vp r n0 = c r + vp r n
  non : ∀ r, ¬ Prm r → c r = 0
  low : ∀ r, Prm r → r < q → ¬ r ∣ n
theorem GInv.start {n0 : Nat} (h : 1 ≤ n0) : GInv n0 n0 2 (fun _ => 0) := ⟨h, fun r _ => by omega, fun _ _ => rfl, fun r hr hl => by have := hr.1; omega⟩
theorem GInv.step {n0 n q : Nat} {c : Nat → Nat} (h : GInv n0 n q c) (hq : 2 ≤ q) (hd : n % q = 0) : Prm q ∧ GInv n0 (n / q) q (upd c q) := by
  have hdv := Nat.dvd_of_mod_eq_zero hd
  have pq := prm_of_least hq hdv h.low
  have h1 := h.one
  have hn : n = q * (n / q) := (Nat.mul_div_cancel' hdv).symm
  have hk : 1 ≤ n / q := Nat.div_pos (Nat.le_of_dvd h1 hdv) (by omega)
  refine ⟨pq, hk, fun r hr => ?_, fun r hr => ?_, fun r hr hl hd' => h.low r hr hl (Nat.dvd_trans hd' ⟨q, by rw [Nat.mul_comm]; exact hn⟩)⟩
  · have h2 := h.cnt r hr
    rw [hn] at h2
    unfold upd
    by_cases e : r = q
    · subst e; rw [if_pos rfl]; rw [vp_mul hq hk] at h2; omega
    · rw [if_neg e]; rw [vp_other hr pq e hk] at h2; exact h2
  · unfold upd
    by_cases e : r = q
    · exact absurd (e ▸ pq) hr
    · rw [if_neg e]; exact h.non r hr
theorem GInv.next {n0 n q : Nat} {c : Nat → Nat} (h : GInv n0 n q c) (hd : ¬ n % q = 0) : GInv n0 n (q + 1) c :=
  ⟨h.one, h.cnt, h.non, fun r hr hl hd' => by
    by_cases e : r = q
    · exact hd (Nat.mod_eq_zero_of_dvd (e ▸ hd'))
    · exact h.low r hr (by omega) hd'⟩
/-- Each prime as often as it is a factor. -/
def Cnt (n0 : Nat) (c : Nat → Nat) : Prop := ∀ r, (Prm r → c r = vp r n0) ∧ (¬ Prm r → c r = 0)
theorem GInv.done {n0 n q : Nat} {c : Nat → Nat} (h : GInv n0 n q c) (hn : n ≤ 1) : Cnt n0 c := by
  have := h.one
  obtain rfl : n = 1 := by omega
  exact fun r => ⟨fun hr => by have := h.cnt r hr; rw [vp_one hr.1] at this; omega, h.non r⟩
theorem GInv.last {n0 n q : Nat} {c : Nat → Nat} (h : GInv n0 n q c) (hn : 1 < n) (hq : n < q * q) : Prm n ∧ Cnt n0 (upd c n) := by
  have pn := prm_of_root (by omega) hq h.low
  refine ⟨pn, fun r => ⟨fun hr => ?_, fun hr => ?_⟩⟩
  · have h2 := h.cnt r hr
    unfold upd
    by_cases e : r = n
    · subst e
      rw [if_pos rfl]
      have : vp r r = 1 := by have := vp_mul (q := r) (n := 1) hr.1 (by omega); rw [Nat.mul_one, vp_one hr.1] at this; exact this
      omega
    · rw [if_neg e]
      have : vp r n = 0 := vp_zero hr.1 fun hd => by
        rcases pn.2 r hd with e' | e'
        · have := hr.1; omega
        · exact e e'
      omega
  · unfold upd
    by_cases e : r = n
    · exact absurd (e ▸ pn) hr
    · rw [if_neg e]; exact h.non r hr
theorem vp_le {q n : Nat} (hq : 2 ≤ q) (hn : 1 ≤ n) : vp q n < n := by
  obtain ⟨m, he, hm⟩ := vp_ex q hq n hn
  have h1 := lt_pow hq (vp q n)
  have hm0 : 0 < m := Nat.pos_of_ne_zero fun h => hm (h ▸ Nat.dvd_zero q)
  have h2 : q ^ vp q n * 1 ≤ q ^ vp q n * m := Nat.mul_le_mul_left _ hm0
  omega
theorem GInv.small {n0 n q : Nat} {c : Nat → Nat} (h : GInv n0 n q c) (h0 : 1 ≤ n0) (r : Nat) : c r < n0 := by
  by_cases hr : Prm r
  · have h1 := h.cnt r hr
    have := vp_le hr.1 h0
    omega
  · rw [h.non r hr]; omega

/-! ### The map -/
/-- A map of words to counts lies there. -/
def CMap (w : World) (b n : Nat) (c : Nat → Nat) : Prop := ∃ D : DataW Unit, w.ownsMap Tryz.prog 22 (plainElem Tryz.prog 3) b n D ∧ (∀ q : Nat, D.atKey (keyU q) (.lit (.int .i64 0)) = .lit (.int .i64 (c q : Int))) ∧ ∀ q : Nat, has D (keyU q) = decide (0 < c q)
theorem isKeyU (q : Nat) : WideAt.IsKeyLit (keyU q) := trivial
theorem cmap_new (w : World) : CMap (w.alloc (.map #[] 0)) w.heap.size 0 (fun _ => 0) := ⟨.map [], World.ownsMap_made w _ _ _, fun q => rfl, fun q => by simp [has]⟩
theorem CMap.below {w w' : World} {b n B : Nat} {c : Nat → Nat} (h : CMap w b n c) (hb : Below B w w') (hB : b < B) : CMap w' b n c := by
  obtain ⟨D, ⟨es, clock, h1, h2, h3, h4⟩, h5⟩ := h
  exact ⟨D, ⟨es, clock, (hb.block b hB).trans h1, h2, h3, h4⟩, h5⟩
theorem cmap_put {w' : World} {b n : Nat} {c : Nat → Nat} {D : DataW Unit} (hD : IsMap D) (ha : ∀ q : Nat, D.atKey (keyU q) (.lit (.int .i64 0)) = .lit (.int .i64 (c q : Int))) (hh : ∀ q : Nat, has D (keyU q) = decide (0 < c q)) (q : Nat)
    (h : w'.ownsMap Tryz.prog 22 (plainElem Tryz.prog 3) b n (D.put (keyU q) (.lit (.int .i64 ((c q + 1 : Nat) : Int))))) : CMap w' b n (upd c q) := by
  refine ⟨_, h, fun r => ?_, fun r => ?_⟩
  · unfold upd
    by_cases e : r = q
    · subst e; rw [if_pos rfl, atKey_put_same hD (isKeyU r)]
    · rw [if_neg e, atKey_put_other (fun e' => e (keyU_inj e')), ha]
  · unfold upd
    by_cases e : r = q
    · subst e; rw [if_pos rfl, has_put_same hD (isKeyU r)]; simp
    · rw [if_neg e, has_put_other (fun e' => e (keyU_inj e')), hh]
theorem cnt_eq {d : DataW Unit} {x e : Nat} {cc : Int} (h1 : d = .lit (.int .i64 cc)) (h2 : d = .lit (.int .i64 (x : Int))) (h3 : x = e) : cc = (e : Int) := by
  rw [h1, h3] at h2; simpa using h2
theorem zeroInt (w : World) : (zeroValue 3).run Tryz.prog w = .ok (.int .i64 0) w := by kernel_rfl
theorem wf_cnt {x : Nat} (h : x ≤ 4294967296) : (Lit.int .i64 ((x : Nat) : Int)).wf = true := by
  simp [Lit.wf, IntKind.min, IntKind.max, IntKind.signed, IntKind.bits]; omega
theorem wf_cnt1 {x : Nat} (h : x + 1 ≤ 4294967296) : (Lit.int .i64 ((x : Int) + 1)).wf = true := wf_cnt (x := x + 1) h

set_option maxHeartbeats 2000000 in
set_option maxRecDepth 100000 in
/-- gather. -/
theorem gather_any (n0 : Nat) (h2 : 2 ≤ n0) (hle : n0 ≤ 4294967296) (w : World) :
    Calls Tryz.prog 88 #[.int .u64 (n0 : Int)] w fun e w' => ∃ c, e = .returned (.map (some w.heap.size)) ∧ CMap w' w.heap.size 4294967297 c ∧ Cnt n0 c ∧ Below w.heap.size w w' := by
  have hmm := @run_makeMap Tryz.prog
  have hsz : ∀ o, (w.alloc o).heap.size = w.heap.size + 1 := fun o => by simp
  go_enter Tryz.func88, Tryz.ntmps88
  go_wp2
  go_loopw [0, 4] (fun x y wr => ∃ (n q nb : Nat) (c : Nat → Nat), x = .int .u64 (n : Int) ∧ y = .int .u64 (q : Int) ∧ n ≤ n0 ∧ 2 ≤ q ∧ q ≤ 65537 ∧ nb + n ≤ n0 ∧ Hid (GInv n0 n q c) ∧ Hid (CMap wr w.heap.size nb c) ∧ Below w.heap.size w wr) (fun _ y _ => 65537 - (intOf y).toNat)
  case atStart => exact ⟨n0, 2, 0, _, rfl, rfl, by omega, by omega, by omega, by omega, GInv.start (by omega), cmap_new w, below_alloc _ _⟩
  case round =>
    obtain ⟨n, q, nb, c, rfl, rfl, hn0, hq2, hq6, hnb, HG, HM, hB⟩ := hrel
    obtain ⟨s, hs⟩ : ∃ s, q * q = s := ⟨_, rfl⟩
    have hm := wrap_sq hs (by omega)
    have HS : Hid (q * q = s) := hs
    by_cases hlq : s ≤ n
    · have hq7 : q ≤ 65536 := sq_root (by omega)
      clear hs
      go_wp2
      go_loopw [0] (fun x wi => ∃ (n nb : Nat) (c : Nat → Nat), x = .int .u64 (n : Int) ∧ 1 ≤ n ∧ n ≤ n0 ∧ nb + n ≤ n0 ∧ Hid (GInv n0 n q c) ∧ Hid (CMap wi w.heap.size nb c) ∧ Below w.heap.size w wi) (fun x _ => (intOf x).toNat)
      case atStart => exact ⟨n, nb, c, rfl, HG.out.one, hn0, hnb, HG, HM, hB⟩
      case round =>
        clear HG HM hB hnb hn0 hlq hm HS
        obtain ⟨n, nb, c, rfl, hn1, hn0, hnb, HG, HM, hB⟩ := hrel
        by_cases hr : n % q = 0
        · have hr' : ((n : Int) % (q : Int) == 0) = true := by rw [beq_iff_eq]; omega
          obtain ⟨pq, hG2⟩ := HG.out.step hq2 hr
          have HG2 : Hid (GInv n0 (n / q) q (upd c q)) := hG2
          have hcb := HG.out.small (by omega) q
          obtain ⟨D, hown, ha, hh⟩ := HM.out
          have HA : Hid (∀ q : Nat, D.atKey (keyU q) (.lit (.int .i64 0)) = .lit (.int .i64 (c q : Int))) := ha
          have HH : Hid (∀ q : Nat, has D (keyU q) = decide (0 < c q)) := hh
          have hdiv : n / q < n := Nat.div_lt_self (by omega) hq2
          have hdiv1 : 1 ≤ n / q := hG2.one
          obtain ⟨e, he⟩ : ∃ e, c q = e := ⟨_, rfl⟩
          have HE : Hid (c q = e) := he
          rw [he] at hcb
          have HKQ : Hid (keyOf Tryz.prog 22 (.int .u64 (q : Int)) = some (keyU q)) := keyOf_mk (x := q) (by omega)
          have hwe : e + 1 ≤ 4294967296 := by omega
          have HNM : Hid (nb < maxLen) := by unfold Hid maxLen; omega
          clear hr ha hh he pq hG2 HG HM
          go_wp2_with (first
            | (at_lookup; refine wpList_lookup_own_int _ rfl _ _ 134 rfl 22 3 .i64 keyed64 Tryz.underlying134 Tryz.underlying3 (zeroInt _) w.heap.size nb _ rfl hown _ _ rfl HKQ.out ?_; intro cc hat hwc; obtain rfl := cnt_eq hat (HA.out q) HE.out; clear hat hwc)
            | (at_mapUpdate; refine wpList_mapUpdate_own _ rfl _ _ _ 134 rfl 22 3 keyed64 Tryz.underlying134 _ w.heap.size nb _ rfl hown HNM.out _ _ _ rfl rfl HKQ.out _ [] (plainElem_int Tryz.underlying3 (wf_cnt1 hwe)) ?_; intro w1 hown1 hgrow1))
          have HM2 : Hid (CMap w1 w.heap.size (nb + 1) (upd c q)) := cmap_put hown.isMap HA.out HH.out q (by rw [HE.out]; exact hown1)
          have hB2 : Below w.heap.size w w1 := hB.grown hgrow1 hB.size (fun k ek => by cases ek; exact Nat.le_refl _)
          clear hown hown1 hgrow1 HA HH
          go_roundw
          case rel => exact ⟨n / q, nb + 1, upd c q, by go_num, hdiv1, by omega, by omega, HG2, HM2, hB2⟩
          case measure => simp [intOf]; omega
        · have hr' : ((n : Int) % (q : Int) == 0) = false := by rw [beq_eq_false_iff_ne]; omega
          have HG2 : Hid (GInv n0 n (q + 1) c) := HG.out.next hr
          clear HG hr
          go_wp2
          go_roundw
          case rel => exact ⟨n, q + 1, nb, c, rfl, by go_num, hn0, by omega, by omega, hnb, HG2, HM, hB⟩
          case measure => simp [intOf]; omega
    · have hn1 := HG.out.one
      by_cases hg1 : 1 < n
      · obtain ⟨pn, hC⟩ := HG.out.last hg1 (by omega)
        have HC : Hid (Cnt n0 (upd c n)) := hC
        have hcb := HG.out.small (by omega) n
        obtain ⟨D, hown, ha, hh⟩ := HM.out
        have HA : Hid (∀ q : Nat, D.atKey (keyU q) (.lit (.int .i64 0)) = .lit (.int .i64 (c q : Int))) := ha
        have HH : Hid (∀ q : Nat, has D (keyU q) = decide (0 < c q)) := hh
        obtain ⟨e, he⟩ : ∃ e, c n = e := ⟨_, rfl⟩
        have HE : Hid (c n = e) := he
        rw [he] at hcb
        have HKQ : Hid (keyOf Tryz.prog 22 (.int .u64 (n : Int)) = some (keyU n)) := keyOf_mk (x := n) (by omega)
        have hwe : e + 1 ≤ 4294967296 := by omega
        have HNM : Hid (nb < maxLen) := by unfold Hid maxLen; omega
        clear hs ha hh he pn hC HG HM
        go_wp2_with (first
          | (at_lookup; refine wpList_lookup_own_int _ rfl _ _ 134 rfl 22 3 .i64 keyed64 Tryz.underlying134 Tryz.underlying3 (zeroInt _) w.heap.size nb _ rfl hown _ _ rfl HKQ.out ?_; intro cc hat hwc; obtain rfl := cnt_eq hat (HA.out n) HE.out; clear hat hwc)
          | (at_mapUpdate; refine wpList_mapUpdate_own _ rfl _ _ _ 134 rfl 22 3 keyed64 Tryz.underlying134 _ w.heap.size nb _ rfl hown HNM.out _ _ _ rfl rfl HKQ.out _ [] (plainElem_int Tryz.underlying3 (wf_cnt1 hwe)) ?_; intro w1 hown1 hgrow1))
        go_ret
        have hB2 : Below w.heap.size w w1 := hB.grown hgrow1 hB.size (fun k ek => by cases ek; exact Nat.le_refl _)
        exact ⟨upd c n, rfl, cmap_put hown.isMap HA.out HH.out n (by rw [HE.out]; exact hown1.mono (by omega)), HC.out, hB2⟩
      · have HC : Hid (Cnt n0 c) := HG.out.done (by omega)
        have HM2 : Hid (CMap wr w.heap.size 4294967297 c) := by
          obtain ⟨D, h, h'⟩ := HM.out
          exact ⟨D, h.mono (by omega), h'⟩
        clear hs HG HM
        go_wp2
        go_ret
        exact ⟨c, rfl, HM2.out, HC.out, hB⟩
end Go.Proofs.YtpjfapibjihbbaaGreatDoor

/-
  The contract of slices.Backward at ints: it goes over a shape's axes, from the last to the first. No condition but that a shape lies there.
-/
import Derived.Test.YtccknfhhmdoffaaSh6
import Derived.RangeFuncNested
import Derived.RangeFuncBound
import Derived.RangeFuncCalls
import Derived.RangeFuncLeaves
import Derived.RangeFuncBox
import Derived.Shelf.Abstract
import Derived.Shelf.RegionOpen
import Derived.OwnWalkIn
import Derived.TacticsInMore
import Derived.LoopNIn
import Derived.LoopIn
namespace Go.Proofs.Ytccknfhhmdoffaa
set_option linter.unusedVariables false
open Go.RowKit Go.Shelf
attribute [local go_sem] Oper.semAt_some

/-- An axis below L, and its length. -/
abbrev Ax (L : Nat) := { x : Nat × Nat // x.1 < L ∧ 1 ≤ x.2 }
def axs {L : Nat} (l : List (Ax L)) : List (Nat × Nat) := l.map (·.1)
theorem axs_snoc {L : Nat} (l : List (Ax L)) (x : Ax L) : axs (l ++ [x]) = axs l ++ [x.1] := by simp [axs]
theorem axs_len {L : Nat} (l : List (Ax L)) : (axs l).length = l.length := by simp [axs]
abbrev encA {L : Nat} (x : Ax L) : Array Value := #[.int .i64 (x.1.1 : Int), .int .i64 (x.1.2 : Int)]
/-- The axes, from the last on. -/
def bk (ds : List Nat) : List (Nat × Nat) := (ds.zipIdx.map fun x => (x.2, x.1)).reverse
theorem bk_len (ds : List Nat) : (bk ds).length = ds.length := by simp [bk]
theorem bk_get (ds : List Nat) {m d : Nat} (h : ds[m]? = some d) : (bk ds)[ds.length - 1 - m]? = some (m, d) := by
  have hm := (List.getElem?_eq_some_iff.1 h).1
  unfold bk
  rw [List.getElem?_reverse (by simp; omega)]
  simp only [List.length_map, List.length_zipIdx]
  rw [show ds.length - 1 - (ds.length - 1 - m) = m by omega]
  simp [h]
theorem take_snoc {α : Type} {l : List α} {k : Nat} {x : α} (h : l[k]? = some x) : l.take (k + 1) = l.take k ++ [x] := by
  rw [List.take_add_one, h]; rfl

/-- What a round keeps: all that lies below, and the iterator's own cell. -/
def KB (n B : Nat) (W W' : World) : Prop := Below n W W' ∧ W'.cell? ⟨B, 0, none⟩ = W.cell? ⟨B, 0, none⟩
theorem KB.refl (n B : Nat) (W : World) : KB n B W W := ⟨Below.refl _ _, rfl⟩
theorem KB.trans {n B : Nat} {X Y Z : World} (h : KB n B X Y) (k : KB n B Y Z) : KB n B X Z := ⟨h.1.trans k.1, k.2.trans h.2⟩
theorem KB.put {n B : Nat} {w : World} (hn : n ≤ w.heap.size) (hB : B < w.heap.size) (W : World) (l : Nat) (o o' : Obj) (hl : w.heap.size ≤ l) (h : W.heap[l]? = some o) (h1 : o.isCells = false) (h2 : o.isWalk = false) : KB n B W (W.putObj l o') :=
  ⟨belowK_b hn W l o o' hl h h1 h2, (belowK_b (n₀ := B + 1) (by omega) W l o o' hl h h1 h2).cell (p := ⟨B, 0, none⟩) (Nat.lt_succ_self B)⟩

set_option maxRecDepth 100000 in
set_option maxHeartbeats 2000000 in
theorem back1_in (n : Nat) (hn : 1 ≤ n) (l B n₁ : Nat) (A : Option Addr) (C L : Nat) (ds : List Nat) (hL : ds.length = L) (hlen : (L : Int) ≤ 9223372036854775807) (hpos : ∀ d ∈ ds, 1 ≤ d) (J Jx : List (Ax L) → World → Prop)
    (hY : ∀ pre x W, J pre W → pre.length < L → YieldAt Fence.wide (n - 1) Try.prog l (encA x) W fun e W' =>
      (e = .returned (.bool true) ∧ J (pre ++ [x]) W' ∧ KB n₁ B W W') ∨ (e = .returned (.bool false) ∧ Jx (pre ++ [x]) W'))
    (W : World) (hB : W.cell? ⟨B, 0, none⟩ = some (.slice A L C)) (hc : ∀ (j d : Nat), ds[j]? = some d → ∃ b o, A = some ⟨b, o, none⟩ ∧ b < n₁ ∧ W.cell? ⟨b, o + j, none⟩ = some (.int .i64 (d : Int))) (h0 : J [] W) :
    CallsIn Fence.wide n Try.prog 49 #[.func (.yield l) #[] #[], .pointer (some ⟨B, 0, none⟩)] W fun e W' => (∃ v, e = .returned v) ∧
      ((∃ ys : List (Ax L), axs ys = bk ds ∧ J ys W') ∨ (∃ pre : List (Ax L), True ∧ Jx pre W')) := by
  refine callsIn_of_wp Try.func49 rfl trivial ?_ rfl
  simp only [Try.ntmps49, List.size_toArray, List.length_cons, List.length_nil, Nat.reduceAdd, Nat.reduceSub, Array.replicate_succ, Array.replicate_zero, List.push_toArray, List.append_toArray, List.nil_append, List.cons_append]
  gi_wp2
  gi_loopw [3] (fun i wr => ∃ (m : Nat) (pre : List (Ax L)), m ≤ L ∧ i = .int .i64 ((m : Int) - 1) ∧ axs pre = (bk ds).take (L - m) ∧ J pre wr ∧ KB n₁ B W wr)
    (fun i _ => (intOf i + 1).toNat)
  case atStart => exact ⟨L, [], Nat.le_refl _, rfl, by simp [axs], h0, KB.refl _ _ _⟩
  case round =>
    obtain ⟨m, pre, hm, rfl, hp, hJs, hK⟩ := hrel
    have hBx := hK.2.trans hB
    cases m with
    | zero =>
      have hneg : ¬ (0 : Int) ≤ ((0 : Nat) : Int) - 1 := by omega
      have HS : Hid (axs pre = bk ds) := by
        unfold Hid; rw [hp, Nat.sub_zero, ← hL, ← bk_len, List.take_length]
      clear hp
      gi_wp2
      go_end0
      exact ⟨⟨_, rfl⟩, .inl ⟨pre, HS.out, hJs⟩⟩
    | succ m =>
      obtain ⟨d, hd⟩ : ∃ d, ds[m]? = some d := ⟨_, List.getElem?_eq_getElem (by omega)⟩
      obtain ⟨b, o, rfl, hb, c0⟩ := hc m d hd
      have c0' := (hK.1.cell (p := ⟨b, o + m, none⟩) hb).trans c0
      have hx1 : 1 ≤ d := hpos d (List.mem_of_getElem? hd)
      have hl : pre.length = L - (m + 1) := by rw [← axs_len, hp, List.length_take, bk_len]; omega
      have hg := bk_get ds hd
      rw [hL, show L - 1 - m = L - (m + 1) by omega] at hg
      have HS : Hid (axs pre ++ [(m, d)] = (bk ds).take (L - m)) := by
        unfold Hid; rw [hp, ← take_snoc hg, show L - (m + 1) + 1 = L - m by omega]
      obtain ⟨fn, tmps, assign, body, hy, hR⟩ := hY pre ⟨(m, d), by omega, hx1⟩ wr hJs (by omega)
      dsimp only [encA] at hy
      have hm1 : ((m + 1 : Nat) : Int) - 1 = (m : Int) := by omega
      have hml : (m : Int) < (L : Int) := by omega
      rw [hm1]
      clear c0 hd hp hg hm1
      gi_wp2
      refine hR.mono ?_
      rintro e W3 (⟨rfl, hJ3, hk3⟩ | ⟨rfl, hJx3⟩)
      · gi_wp2
        go_roundw
        case rel => exact ⟨m, _, by omega, by first | rfl | go_num, by rw [axs_snoc]; exact HS.out, hJ3, hK.trans hk3⟩
        case measure => simp [intOf]
      · gi_wp2
        refine bodyPost_ret (results_none rfl _ _ _) rfl ?_
        exact ⟨⟨_, rfl⟩, .inr ⟨_, trivial, hJx3⟩⟩

theorem back_stops (n : Nat) (hn : 1 ≤ n) (B n₁ : Nat) (A : Option Addr) (C L : Nat) (ds : List Nat) (hL : ds.length = L) (hpos : ∀ d ∈ ds, 1 ≤ d) (w : World) (hB : B < w.heap.size) (hn₁ : n₁ ≤ w.heap.size) (hc : w.cell? ⟨B, 0, none⟩ = some (.slice A L C)) (W0 : World) (hW0 : W0.heap.size ≤ n₁) (hZ : ZAt W0 A C (ints ds)) (hb0 : Below W0.heap.size W0 w) :
    SeqStopsK Fence.wide n Try.prog 49 #[.pointer (some ⟨B, 0, none⟩)] (encA (L := L)) (KB n₁ B) (fun ys => axs ys = bk ds) (fun _ => True) L w := fun l J Jx W hW _ _ hY h0 => by
  refine back1_in n hn l B n₁ A C L ds hL (by have := hZ.len; rw [ints_len, hL] at this; exact this) hpos J Jx hY W ((hW.cell (p := ⟨B, 0, none⟩) hB).trans hc) ?_ h0
  intro j d hd
  obtain ⟨b, o, hA, hb, c0⟩ := (hZ.below (hb0.trans (hW.mono hb0.size))).nat hd
  obtain ⟨b', o', hA', hb', _⟩ := hZ.nat hd
  rw [hA] at hA'
  cases hA'
  exact ⟨b, o, hA, by omega, c0⟩

/-- slices.Backward. -/
theorem back_in (n : Nat) (a : Option Addr) (len cap : Nat) (w : World) :
    CallsIn Fence.wide n Try.prog 46 #[.slice a len cap] w fun e w' => e = .returned (.func (.func 49) #[] #[.pointer (some ⟨w.heap.size, 0, none⟩)]) ∧ w' = w.alloc (.cells #[.slice a len cap] 22) := by
  refine callsIn_of_wp Try.func46 rfl trivial ?_ rfl
  simp only [Try.ntmps46, List.size_toArray, List.length_cons, List.length_nil, Nat.reduceAdd, Nat.reduceSub, Array.replicate_succ, Array.replicate_zero, List.push_toArray, List.append_toArray, List.nil_append, List.cons_append]
  gi_wp2
  go_ret
  exact ⟨rfl, rfl⟩
end Go.Proofs.Ytccknfhhmdoffaa

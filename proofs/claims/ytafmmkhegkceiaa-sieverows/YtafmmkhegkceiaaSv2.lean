/-
  Contracts of what sorts words: cmp.Less, insertionSortOrdered, pdqsortOrdered and slices.Sort of up to 12 of them. No condition but these.
-/
import Derived.Test.YtafmmkhegkceiaaSv1
import Derived.Laws.OwnMore
import Derived.Maps.AppendAt
import Derived.Lib.HexFns
namespace Go.Proofs.Ytafmmkhegkceiaa
set_option linter.unusedVariables false
open Go.RowKit

theorem nan_any (x : Int) : Ans 83 #[.int .u64 x] (.bool false) := by
  intro w
  go_enter Try.func83, Try.ntmps83
  go_wp2
  go_ret
  exact ⟨by simp, 0, rfl⟩
theorem less_walk (x y : Int) (b : Bool) (hb : decide (x < y) = b) : Ans 66 #[.int .u64 x, .int .u64 y] (.bool b) := by
  intro w
  have HN := nan_any x
  go_enter Try.func66, Try.ntmps66
  go_wp2_with (go_at_call 83; with_reducible refine Ans.use HN _ fun n1 => ?_)
  go_ret
  exact ⟨rbool (by simp), n1, rfl⟩

/-! ### Lists of words -/
theorem grown_drew {w w' : World} {row : Option Nat} (h : w.grownBy w' row) (n : Nat) : w.grownBy (w'.drewN n) row := ⟨h.os, h.tape, h.output, h.size, h.block⟩
def encU (x : Nat) : Value := .int .u64 (x : Int)
def at' (l : List Nat) (x : Nat) : Nat := l[x]?.getD 0
def sw (l : List Nat) (k : Nat) : List Nat := (l.set (k + 1) (at' l k)).set k (at' l (k + 1))
theorem at_lt {l : List Nat} {x : Nat} (h : x < l.length) : l[x]? = some (at' l x) := by
  unfold at'; rw [List.getElem?_eq_getElem h]; rfl
theorem sw_len (l : List Nat) (k : Nat) : (sw l k).length = l.length := by simp [sw]
theorem sw_at {l : List Nat} {k : Nat} (h : k + 1 < l.length) (x : Nat) : at' (sw l k) x = if x = k then at' l (k + 1) else if x = k + 1 then at' l k else at' l x := by
  unfold at' sw
  rw [List.getElem?_set, List.getElem?_set]
  by_cases h1 : x = k
  · subst h1; simp; rw [if_pos (by omega)]; rfl
  · rw [if_neg (fun e => h1 e.symm), if_neg h1]
    by_cases h2 : x = k + 1
    · subst h2; simp [h]; rfl
    · rw [if_neg (fun e => h2 e.symm), if_neg h2]
theorem sw_perm {l : List Nat} {k : Nat} (h : k + 1 < l.length) : (sw l k).Perm l := by
  have hk : k < l.length := by omega
  have h1 : ((l.set (k + 1) l[k]).set k l[k + 1]).Perm l := List.set_set_perm h hk
  unfold sw at'
  rw [List.getElem?_eq_getElem h, List.getElem?_eq_getElem hk]
  exact h1
theorem sw_map (l : List Nat) (k : Nat) : (sw l k).map encU = ((l.map encU).set (k + 1) (encU (at' l k))).set k (encU (at' l (k + 1))) := by
  simp [sw, List.map_set]
/-- The first i + 1 are in order, but for the one at j. -/
def Nearly (l : List Nat) (i j : Nat) : Prop := ∀ a b, a < b → b ≤ i → b ≠ j → at' l a ≤ at' l b
theorem Nearly.step {l : List Nat} {i k : Nat} (h : Nearly l i (k + 1)) (hk : k + 1 ≤ i) (hl : k + 1 < l.length) (hlt : at' l (k + 1) < at' l k) : Nearly (sw l k) i k := by
  intro a b hab hbi hbk
  rw [sw_at hl, sw_at hl]
  have h1 := h a b hab hbi
  have h2 := fun h' : a < k => h a k h' (by omega) (by omega)
  have h3 := fun h' : k < b => h k b h' (by omega)
  have h4 := fun h' : k + 1 < b => h (k + 1) b h' (by omega) (by omega)
  by_cases e1 : b = k + 1
  · subst e1
    rw [if_neg (show ¬ k + 1 = k by omega), if_pos rfl]
    by_cases e2 : a = k
    · subst e2; rw [if_pos rfl]; omega
    · rw [if_neg e2, if_neg (show ¬ a = k + 1 by omega)]
      exact h2 (by omega)
  · rw [if_neg hbk, if_neg e1]
    by_cases e2 : a = k
    · subst e2; rw [if_pos rfl]; exact h4 (by omega)
    · rw [if_neg e2]
      by_cases e3 : a = k + 1
      · subst e3; rw [if_pos rfl]; exact h3 (by omega) e1
      · rw [if_neg e3]; exact h1 e1
theorem Nearly.done {l : List Nat} {i k : Nat} (h : Nearly l i (k + 1)) (hk : k + 1 ≤ i) (hge : at' l k ≤ at' l (k + 1)) : Nearly l (i + 1) (i + 1) := by
  intro a b hab hbi hbk
  by_cases e : b = k + 1
  · subst e
    by_cases e2 : a = k
    · subst e2; exact hge
    · exact Nat.le_trans (h a k (by omega) (by omega) (by omega)) hge
  · exact h a b hab (by omega) e
theorem Nearly.zero {l : List Nat} {i : Nat} (h : Nearly l i 0) : Nearly l (i + 1) (i + 1) := fun a b hab hbi hbk => h a b hab (by omega) (by omega)
theorem Nearly.all {l : List Nat} {i : Nat} (h : Nearly l i i) (hl : l.length ≤ i) : l.Pairwise (· ≤ ·) := by
  rw [List.pairwise_iff_getElem]
  intro a b ha hb hab
  have := h a b hab (by omega) (by omega)
  unfold at' at this
  rw [List.getElem?_eq_getElem ha, List.getElem?_eq_getElem hb] at this
  exact this

set_option maxHeartbeats 1000000 in
/-- insertionSortOrdered. -/
theorem insertion_any (w : World) (base g cap : Nat) (l0 : List Nat) (hlen : l0.length ≤ 1000) (hw : ∀ x ∈ l0, x < 18446744073709551616) (hrow : w.ownsRow base 26 1 (.slice (some ⟨g, 0, none⟩) l0.length cap) l0.length (l0.map encU)) :
    Calls Try.prog 60 #[.slice (some ⟨g, 0, none⟩) l0.length cap, .int .i64 0, .int .i64 (l0.length : Int)] w fun e w' => e = .returned (.tuple #[]) ∧ ∃ l : List Nat, l.Perm l0 ∧ l.Pairwise (· ≤ ·) ∧ w'.ownsRow base 26 1 (.slice (some ⟨g, 0, none⟩) l0.length cap) l0.length (l.map encU) ∧ w.grownBy w' (some g) := by
  obtain ⟨n, hn⟩ : ∃ n, l0.length = n := ⟨_, rfl⟩
  have HN : Hid (l0.length = n) := hn
  rw [hn] at hlen hrow ⊢
  clear hn
  go_enter Try.func60, Try.ntmps60
  go_wp2
  go_loopw [6] (fun v wr => ∃ (i : Nat) (l : List Nat), v = .int .i64 (i : Int) ∧ 1 ≤ i ∧ i ≤ n + 1 ∧ Hid (l.Perm l0 ∧ Nearly l i i) ∧ wr.ownsRow base 26 1 (.slice (some ⟨g, 0, none⟩) n cap) n (l.map encU) ∧ w.grownBy wr (some g)) (fun v _ => n + 1 - (intOf v).toNat)
  case atStart => exact ⟨1, l0, by go_num, by omega, by omega, ⟨List.Perm.refl _, fun a b h1 h2 h3 => by omega⟩, hrow, World.grownBy.refl _ _⟩
  case round =>
    obtain ⟨i, l, rfl, hi, hin, HP, hR, hG⟩ := hrel
    by_cases hlt : i < n
    · go_wp2
      go_loopw [7] (fun v wi => ∃ (j : Nat) (l : List Nat), v = .int .i64 (j : Int) ∧ j ≤ i ∧ Hid (l.Perm l0 ∧ Nearly l i j) ∧ wi.ownsRow base 26 1 (.slice (some ⟨g, 0, none⟩) n cap) n (l.map encU) ∧ w.grownBy wi (some g)) (fun v _ => (intOf v).toNat)
      case atStart => exact ⟨i, l, rfl, by omega, HP, hR, hG⟩
      case round =>
        clear HP hR hG
        obtain ⟨j, l, rfl, hj, HP, hR, hG⟩ := hrel
        have hll : l.length = n := by rw [← HN.out]; exact HP.out.1.length_eq
        by_cases h0 : j = 0
        · subst h0
          have hgd : decide ((0 : Int) < 0) = false := by decide
          have HQ : Hid (l.Perm l0 ∧ Nearly l (i + 1) (i + 1)) := ⟨HP.out.1, HP.out.2.zero⟩
          clear HP
          go_wp2
          go_quiet ((fail))
          go_wp2
          go_roundw
          case rel => exact ⟨i + 1, l, by go_num, by omega, by omega, HQ, hR, grown_drew hG _⟩
          case measure => simp [intOf]; omega
        · obtain ⟨k, rfl⟩ : ∃ k, j = k + 1 := ⟨j - 1, by omega⟩
          have hk1 : k + 1 < l.length := by omega
          have c1 := (hR.cellAt (k + 1) (by omega)).trans (show (l.map encU)[k + 1]? = some (.int .u64 (at' l (k + 1) : Int)) by rw [List.getElem?_map, at_lt hk1]; rfl)
          have c0 := (hR.cellAt k (by omega)).trans (show (l.map encU)[k]? = some (.int .u64 (at' l k : Int)) by rw [List.getElem?_map, at_lt (by omega)]; rfl)
          have f1 := hR.frozenAt (k + 1)
          have f0 := hR.frozenAt k
          obtain ⟨x, hx⟩ : ∃ x, at' l (k + 1) = x := ⟨_, rfl⟩
          obtain ⟨y, hy⟩ : ∃ y, at' l k = y := ⟨_, rfl⟩
          rw [hx] at c1
          rw [hy] at c0
          obtain ⟨j, hjk⟩ : ∃ j, k + 1 = j := ⟨_, rfl⟩
          have HJ : Hid (k + 1 = j) := hjk
          rw [hjk] at c1 f1 hj ⊢
          have hgd : decide ((0 : Int) < (j : Int)) = true := decide_eq_true (by omega)
          have hgd2 : decide (0 < j) = true := decide_eq_true (by omega)
          have hjn : j < n := by omega
          have hkn : k < n := by omega
          have hjk' : (j : Int) - 1 = (k : Int) := by omega
          have hwk : IntKind.i64.wrap (k : Int) = (k : Int) := by rw [IntKind.wrap_i64]; omega
          clear hjk
          by_cases hxy : x < y
          · have HL := less_walk (x : Int) (y : Int) true (by simp; omega)
            have HQ : Hid ((sw l k).Perm l0 ∧ Nearly (sw l k) i k) := ⟨(sw_perm hk1).trans HP.out.1, HP.out.2.step (by omega) hk1 (by omega)⟩
            have HM : Hid ((sw l k).map encU = ((l.map encU).set j (.int .u64 (y : Int))).set k (.int .u64 (x : Int))) := by
              unfold Hid; rw [sw_map, HJ.out, ← hy, ← hx, HJ.out]; rfl
            clear HP
            go_wp2
            go_quiet ((go_at_call 66; first | (with_reducible exact Ans.quiet HL) | (with_reducible exact Ans.quiet0 HL)))
            go_wp2
            go_region
            obtain ⟨hR1, hG1⟩ := World.ownsRow.stored (w := wr.drewN (nq + 1)) hR j (.int .u64 (y : Int))
            obtain ⟨hR2, hG2⟩ := hR1.stored k (.int .u64 (x : Int))
            rw [← HM.out] at hR2
            have hG3 := ((grown_drew hG (nq + 1)).trans hG1).trans hG2
            generalize (((wr.drewN (nq + 1)).setCell ⟨g, j, none⟩ (.int .u64 (y : Int))).setCell ⟨g, k, none⟩ (.int .u64 (x : Int))) = w3 at hR2 hG3 ⊢
            clear hR1 hG1 hG2 c0 c1 f0 f1
            go_wp2
            go_roundw
            case rel => exact ⟨k, sw l k, by go_num, by omega, HQ, hR2, hG3⟩
            case measure => simp [intOf]; omega
          · have HL := less_walk (x : Int) (y : Int) false (by simp; omega)
            have HQ : Hid (l.Perm l0 ∧ Nearly l (i + 1) (i + 1)) := ⟨HP.out.1, HP.out.2.done (by omega) (by omega)⟩
            clear HP
            go_wp2
            go_quiet ((go_at_call 66; first | (with_reducible exact Ans.quiet HL) | (with_reducible exact Ans.quiet0 HL)))
            go_wp2
            go_roundw
            case rel => exact ⟨i + 1, l, by go_num, by omega, by omega, HQ, hR, grown_drew hG _⟩
            case measure => simp [intOf]; omega
    · have HQ : Hid (l.Perm l0 ∧ l.Pairwise (· ≤ ·)) := ⟨HP.out.1, HP.out.2.all (by rw [HP.out.1.length_eq, HN.out]; omega)⟩
      clear HP
      go_wp2
      go_end0
      exact ⟨rfl, l, HQ.out.1, HQ.out.2, hR, hG⟩
end Go.Proofs.Ytafmmkhegkceiaa

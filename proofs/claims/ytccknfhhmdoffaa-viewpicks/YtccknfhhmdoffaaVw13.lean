/-
  What slices.Delete answers of a row of one's own, one of it struck. No condition but that the row lies there.
-/
import Derived.Test.YtccknfhhmdoffaaVw10
import Derived.Deep.RegionLaw
import Derived.Lib.SliceRun
import Derived.Lib.SlicesDelete
namespace Go.Proofs.Ytccknfhhmdoffaa
set_option linter.unusedVariables false
open Go.RowKit Go.Lib

/-- A row laid over another one, from a place on. -/
def layZ (zs : List Int) : Nat → List Int → List Int
  | _, [] => zs
  | o, y :: r => layZ (zs.set o y) (o + 1) r
theorem layZ_len : ∀ (ys zs : List Int) (o : Nat), (layZ zs o ys).length = zs.length
  | [], _, _ => rfl
  | y :: r, zs, o => by rw [layZ, layZ_len r]; simp
theorem layZ_at : ∀ (ys zs : List Int) (o i : Nat), o + ys.length ≤ zs.length → (layZ zs o ys)[i]? = if o ≤ i ∧ i < o + ys.length then ys[i - o]? else zs[i]?
  | [], zs, o, i, _ => by
    rw [if_neg (by simp)]; rfl
  | y :: r, zs, o, i, h => by
    simp only [List.length_cons] at h ⊢
    rw [layZ, layZ_at r (zs.set o y) (o + 1) i (by simp; omega), List.getElem?_set]
    by_cases h1 : i = o
    · subst h1
      rw [if_neg (by omega), if_pos rfl, if_pos (by omega), if_pos (by omega), Nat.sub_self]; rfl
    · by_cases h2 : o + 1 ≤ i ∧ i < o + 1 + r.length
      · rw [if_pos h2, if_pos (by omega), show i - o = (i - (o + 1)) + 1 by omega]; rfl
      · rw [if_neg h2, if_neg (by omega), if_neg (by omega)]
theorem OwnZ.lay {base g C : Nat} : ∀ (ys zs : List Int) (o : Nat) (w : World), OwnZ w base (some ⟨g, 0, none⟩) C zs → OwnZ (w.setCells g o (zcells ys)) base (some ⟨g, 0, none⟩) C (layZ zs o ys)
  | [], _, _, _, h => h
  | y :: r, zs, o, w, h => OwnZ.lay r (zs.set o y) (o + 1) _ (h.set o y)
theorem grown_trans {a b c : World} {row : Option Nat} (h : a.grownBy b row) (k : b.grownBy c row) : a.grownBy c row :=
  ⟨k.os.trans h.os, k.tape.trans h.tape, k.output.trans h.output, Nat.le_trans h.size k.size, fun n hn hne => (k.block n (Nat.lt_of_lt_of_le hn h.size) hne).trans (h.block n hn hne)⟩
theorem grown_cell (w : World) (g o : Nat) (v : Value) : w.grownBy (w.setCell ⟨g, o, none⟩ v) (some g) :=
  ⟨rfl, rfl, rfl, (KeepsWalks.setCell w _ v).size, fun n _ hne => Below.heap_setCell _ _ _ n (fun e => hne (by rw [e]))⟩
theorem grown_cells (g : Nat) : ∀ (vs : List Value) (o : Nat) (w : World), w.grownBy (w.setCells g o vs) (some g)
  | [], _, w => ⟨rfl, rfl, rfl, Nat.le_refl _, fun _ _ _ => rfl⟩
  | v :: r, o, w => grown_trans (grown_cell w g o v) (grown_cells g r (o + 1) _)
theorem OwnZ.take {w : World} {base g C : Nat} {zs : List Int} (h : OwnZ w base (some ⟨g, 0, none⟩) C zs) (n : Nat) : OwnZ w base (some ⟨g, 0, none⟩) C (zs.take n) := by
  rcases h.2 with ⟨hv, _⟩ | ⟨g', cap, cur, hv, hb, hg, h1, h2, h3, h4⟩
  · cases hv
  · cases hv
    refine ⟨by simp [zcells], .inr ⟨g, C, cur, rfl, hb, hg, by simp; omega, h2, h3, ?_⟩⟩
    have : cur.toList.take (zs.length * 1) = zcells zs := h4
    rw [Nat.mul_one] at this
    rw [List.length_take, Nat.mul_one, ← List.take_take, this]
    simp [zcells]
theorem struck {zs : List Int} {k : Nat} (hk : k < zs.length) : (layZ (layZ zs k (zs.drop (k + 1))) (zs.length - 1) [0]).take (zs.length - 1) = zs.eraseIdx k := by
  apply List.ext_getElem?
  intro i
  rw [List.getElem?_take, List.getElem?_eraseIdx]
  by_cases hi : i < zs.length - 1
  · rw [if_pos hi, layZ_at _ _ _ _ (by rw [layZ_len]; simp; omega), if_neg (by simp; omega), layZ_at _ _ _ _ (by simp; omega)]
    simp only [List.length_drop]
    by_cases h2 : i < k
    · rw [if_neg (by omega), if_pos h2]
    · rw [if_pos (by omega), if_neg h2, List.getElem?_drop, show k + 1 + (i - k) = i + 1 by omega]
  · rw [if_neg hi]
    by_cases h2 : i < k
    · omega
    · rw [if_neg h2, List.getElem?_eq_none (by omega)]
theorem grown_drewZ (w : World) : ∀ row, w.grownBy w.drew row := fun _ => ⟨rfl, rfl, rfl, Nat.le_refl _, fun _ _ _ => rfl⟩
theorem zeroI' (w : World) : (zeroValue 3).run Try.prog w = .ok (Value.int .i64 0) w := by kernel_rfl

set_option maxRecDepth 20000 in
set_option maxHeartbeats 2000000 in
theorem delete_any (w : World) (base g C L k j : Nat) (zs : List Int) (hO : OwnZ w base (some ⟨g, 0, none⟩) C zs) (hL : zs.length = L) (hk : k < L) (hj : j = k + 1) :
    Calls Try.prog 43 #[.slice (some ⟨g, 0, none⟩) L C, .int .i64 (k : Int), .int .i64 (j : Int)] w fun e w' => e = .returned (.slice (some ⟨g, 0, none⟩) (L - 1) C) ∧ OwnZ w' base (some ⟨g, 0, none⟩) C (zs.eraseIdx k) ∧ w.grownBy w' (some g) := by
  obtain ⟨g', cur, e, b0, hb, hLC, hC, hcs, hcell⟩ := hO.blk (by omega)
  cases e
  rw [hL] at hLC
  obtain ⟨i0, hi0, hz0, hz1, hz2⟩ := info_parts infoZ
  have hCm : C ≤ 9223372036854775807 := by unfold maxLen at hC; omega
  obtain ⟨news, hnews⟩ : ∃ news, zcells (zs.drop j) = news := ⟨_, rfl⟩
  have hnl : news.length = L - j := by rw [← hnews]; simp [zcells, hL]
  have hsrc : ∀ t u, news[t]? = some u → w.drew.cell? ⟨g, j + t, none⟩ = some u := by
    intro t u hu
    rw [← hnews] at hu
    obtain ⟨z, hz, rfl⟩ := zcells_at hu
    rw [List.getElem?_drop] at hz
    show w.cell? ⟨g, j + t, none⟩ = _
    rw [b0.cell]
    exact hcell _ _ hz
  obtain ⟨A, hA, s0⟩ : ∃ A : Addr, (if C = j then some (⟨g, 0, none⟩ : Addr) else some ⟨g, j, none⟩) = some A ∧ Hid (∀ t u, news[t]? = some u → w.drew.cell? (A.add t) = some u) := by
    by_cases h : C = j
    · refine ⟨⟨g, 0, none⟩, by simp [h], fun t u hu => ?_⟩
      have h0 : news.length = 0 := by rw [hnl]; omega
      rw [List.length_eq_zero_iff.1 h0] at hu
      simp at hu
    · exact ⟨⟨g, j, none⟩, by simp [h], fun t u hu => by rw [Addr.add_lit]; exact hsrc t u hu⟩
  have s1 : Hid (news.length = (L - j) * 1) := by unfold Hid; rw [Nat.mul_one]; exact hnl
  have s2 : Hid (∀ u ∈ news, u.oneCell' = true) := by
    intro u hu
    rw [← hnews] at hu
    obtain ⟨i, hi, rfl⟩ := List.getElem_of_mem hu
    obtain ⟨z, _, hc⟩ := zcells_at (List.getElem?_eq_getElem hi)
    rw [hc]; rfl
  have s3 : Hid (∀ t, t < news.length → (w.drew.cell? ⟨g, 0 + k * 1 + t, none⟩).isSome = true ∧ w.drew.frozen? ⟨g, 0 + k * 1 + t, none⟩ = false) := by
    intro t ht
    rw [hnl] at ht
    refine ⟨?_, b0.frozen _⟩
    show (w.cell? _).isSome = true
    rw [b0.cell, hcell (0 + k * 1 + t) _ (List.getElem?_eq_getElem (by omega))]; rfl
  obtain ⟨W1, hW1⟩ : ∃ W1, w.drew.setCells g (0 + k * 1) news = W1 := ⟨_, rfl⟩
  have hd : OwnZ w.drew base (some ⟨g, 0, none⟩) C zs := hO.below (below_drewZ w)
  have o1 : OwnZ W1 base (some ⟨g, 0, none⟩) C (layZ zs k (zs.drop (k + 1))) := by
    rw [← hW1, ← hnews, hj, show 0 + k * 1 = k by omega]; exact OwnZ.lay _ _ _ _ hd
  have g1 : w.grownBy W1 (some g) := by rw [← hW1]; exact grown_trans (grown_drewZ w _) (grown_cells g _ _ _)
  obtain ⟨g', cur', e', b1, _, _, _, _, hcell1⟩ := o1.blk (by rw [layZ_len]; omega)
  cases e'
  have o2 : OwnZ (W1.setCells g (L - 1) [.int .i64 0]) base (some ⟨g, 0, none⟩) C (zs.eraseIdx k) := by
    have := (OwnZ.lay [0] _ (L - 1) W1 o1).take (L - 1)
    rw [← hL, struck (by omega)] at this
    rw [← hL]; exact this
  have g2 : w.grownBy (W1.setCells g (L - 1) [.int .i64 0]) (some g) := grown_trans g1 (grown_cells g _ _ _)
  obtain ⟨m, hm⟩ : ∃ m, L - 1 = m := ⟨_, rfl⟩
  rw [hm] at o2 g2 ⊢
  have hkm : k + (L - j) = m := by omega
  have hLm : L - m = 1 := by omega
  have hcl : ∀ ty, (Builtin.clear_ #[22] ty #[.slice (some ⟨g, m, none⟩) 1 (C - m)]).run Try.prog W1 = .ok (.tuple #[]) (W1.setCells g m [.int .i64 0]) :=
    fun ty => Lib.run_clear_slice W1 _ _ ty _ Try.underlying22 zeroI' rfl rfl g m 1 _ (by omega) (fun t ht => by
      obtain rfl : t = 0 := by omega
      rw [Nat.add_zero, b1.cell, hcell1 m _ (List.getElem?_eq_getElem (by rw [layZ_len]; omega))]; rfl) (fun t ht => b1.frozen _)
  have O2 : Hid (OwnZ (W1.setCells g m [.int .i64 0]) base (some ⟨g, 0, none⟩) C (zs.eraseIdx k)) := o2
  have G2 : Hid (w.grownBy (W1.setCells g m [.int .i64 0]) (some g)) := g2
  have hW : Hid (w.drew.setCells g (0 + k * 1) news = W1) := hW1
  have hkC : k ≤ C := by omega
  have hjC : j ≤ C := by omega
  have hkj : k ≤ j := by omega
  have hjL : j ≤ L := by omega
  have hmL : m ≤ L := by omega
  have hmC : m ≤ C := by omega
  have hne : ¬ (k : Int) = (j : Int) := by omega
  clear hj hO hd o1 g1 b1 hcell1 o2 g2 hW1 b0 hcell hsrc hnews hcs hnl hC hL
  go_enter Try.func43, Try.ntmps43
  go_wp2_with fail
  go_region_law (refine step_append_room rfl (.tmp 22) (.tmp 25) 22 rfl 3 i0 1 Try.underlying22 hi0 hz1 g 0 k C (by simp [Act.eval, Act.put]) A (L - j) (C - j) news (by simp [Act.eval, Act.put]) s1.out s0.out s2.out (by omega) s3.out ?_; rw [hW.out])
  go_wp2
  go_ret
  exact ⟨rfl, O2.out, G2.out⟩
end Go.Proofs.Ytccknfhhmdoffaa

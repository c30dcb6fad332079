/-
  What slices.Clone at ints and shape.All answer. No condition but that a row of at most 100 ints lies there.
-/
import Derived.Test.YtccknfhhmdoffaaSh10
namespace Go.Proofs.Ytccknfhhmdoffaa
set_option linter.unusedVariables false
open Go.RowKit Go.Shelf

theorem infoZ : (Try.prog.info? 3).map (fun i => (i.zero, i.size, i.bytes)) = some (some (.int .i64 0), 1, 8) := by kernel_rfl
def zcells (zs : List Int) : List Value := zs.map fun z => .int .i64 z
theorem zcells_at {zs : List Int} {j : Nat} {u : Value} (h : (zcells zs)[j]? = some u) : ∃ z, zs[j]? = some z ∧ u = .int .i64 z := by
  unfold zcells at h
  rw [List.getElem?_map] at h
  cases hz : zs[j]? with
  | none => rw [hz] at h; cases h
  | some z => rw [hz] at h; cases h; exact ⟨z, rfl, rfl⟩
/-- A row of the call's own read as a row of ints. -/
theorem own_ints {w : World} {base : Nat} {v : Value} {zs : List Int} (h : w.ownsRow base 3 1 v zs.length (zcells zs)) (hok : ∀ z ∈ zs, I64 z) : ∃ A C, v = .slice A zs.length C ∧ ZAt w A C zs := by
  have h' := h
  rcases h.2 with ⟨rfl, hn⟩ | ⟨g, cap, cur, rfl, hb, hg, hc, hm, _⟩
  · refine ⟨none, 0, by rw [hn], by omega, by unfold maxLen; omega, fun i f hf => ?_⟩
    have := (List.getElem?_eq_some_iff.1 hf).1; omega
  · refine ⟨_, _, rfl, hc, hm, fun i z hz => ?_⟩
    have ca := h'.cells (g := g) rfl i (.int .i64 z) (by unfold zcells; rw [List.getElem?_map, hz]; rfl)
    refine ⟨g, 0, rfl, (Array.getElem?_eq_some_iff.1 hg).1, ?_, hok z (List.mem_of_getElem? hz)⟩
    rw [Nat.zero_add]; rw [Addr.add_lit] at ca; simpa using ca

def CloneZ (W : World) (v : Value) (zs : List Int) : Prop := ∀ w, Below W.heap.size W w → Calls Try.prog 34 #[v] w fun e w' => ∃ A' C', e = .returned (.slice A' zs.length C') ∧ ZAt w' A' C' zs ∧ (∀ b o, A' = some ⟨b, o, none⟩ → w.heap.size ≤ b) ∧ Below w.heap.size w w'
theorem CloneZ.use {W : World} {v : Value} {zs : List Int} (h : CloneZ W v zs) {w : World} (hw : Below W.heap.size W w) {R : Ending → World → Prop} (k : ∀ A' C' w', ZAt w' A' C' zs → (∀ b o, A' = some ⟨b, o, none⟩ → w.heap.size ≤ b) → Below w.heap.size w w' → R (.returned (.slice A' zs.length C')) w') : Calls Try.prog 34 #[v] w R :=
  (h w hw).mono fun _ _ ⟨A', C', he, h1, h2, h3⟩ => by subst he; exact k _ _ _ h1 h2 h3
theorem clone_nilZ (W : World) (C : Nat) (zs : List Int) (hP : ZAt W none C zs) : CloneZ W (.slice none zs.length C) zs := by
  have : zs = [] := by
    cases zs with
    | nil => rfl
    | cons f fs => obtain ⟨_, _, h, _⟩ := hP.get 0 f rfl; cases h
  subst this
  intro w hw
  have hq : ∀ (w : World) (a : Option Addr) (n c : Nat), (binOp .eql 22 (.slice a n c) (.slice none 0 0)).run Try.prog w = .ok (.bool a.isNone) w := fun w a n c => by simp only [binOp]; simp [Op.equal, Op.maxDepth, Lib.run_equalIn_slice_nil w 9999 _ _ a n c 0 0 Try.underlying22]
  go_enter Try.func34, Try.ntmps34
  go_wp2
  go_ret
  exact ⟨none, 0, rfl, ⟨by simp, by unfold maxLen; omega, fun i f hf => by simp at hf⟩, (fun b o h => by cases h), Below.refl _ _⟩
set_option maxHeartbeats 1000000 in
theorem clone_someZ (W : World) (a : Addr) (C : Nat) (zs : List Int) (hP : ZAt W (some a) C zs) (hfs : zs.length * 8 ≤ 140737488355328) : CloneZ W (.slice (some a) zs.length C) zs := by
  intro w hw
  obtain ⟨i1, hi1, hz1, hs1, hb1⟩ := info_parts infoZ
  have hok : ∀ z ∈ zs, I64 z := fun z hz => by
    obtain ⟨j, hj, rfl⟩ := List.getElem_of_mem hz
    obtain ⟨_, _, _, _, _, k⟩ := hP.get j _ (List.getElem?_eq_getElem hj)
    exact k
  have hnews : ∀ j u, (zcells zs)[j]? = some u → (w.alloc (.cells #[] 3)).cell? (a.add j) = some u := by
    intro j u hu
    obtain ⟨z, hz, rfl⟩ := zcells_at hu
    obtain ⟨b, o, ha, hb, c0, _⟩ := hP.get j z hz
    cases ha
    have hBW := bb hw (below_alloc w (.cells #[] 3))
    rw [Addr.add_lit]
    exact keep_cellZ hBW hb c0
  have hone : ∀ u ∈ zcells zs, u.oneCell' = true := by
    intro u hu
    obtain ⟨j, hj, rfl⟩ := List.getElem_of_mem hu
    obtain ⟨z, _, hc⟩ := zcells_at (List.getElem?_eq_getElem hj)
    rw [hc]; rfl
  have hO := World.ownsRow_made (base := w.heap.size) (e := 3) (size := 1) w #[] 0 (Nat.le_refl _) (by unfold maxLen; omega) rfl
  obtain ⟨L, hL⟩ : ∃ L, zs.length = L := ⟨_, rfl⟩
  have HL : Hid (zs.length = L) := hL
  have hpl : (zcells zs).length = L * 1 := by rw [Nat.mul_one, ← hL]; simp [zcells]
  rw [hL] at hfs ⊢
  clear hL
  have hq : ∀ (w : World) (a : Option Addr) (n c : Nat), (binOp .eql 22 (.slice a n c) (.slice none 0 0)).run Try.prog w = .ok (.bool a.isNone) w := fun w a n c => by simp only [binOp]; simp [Op.equal, Op.maxDepth, Lib.run_equalIn_slice_nil w 9999 _ _ a n c 0 0 Try.underlying22]
  go_enter Try.func34, Try.ntmps34
  go_wp2_with (at_builtin; refine Hid.out ?_)
  unfold Hid
  refine (wpList_append_own _ rfl _ _ 22 rfl w.heap.size 3 i1 _ 1 8 Try.underlying22 hi1 hz1 hs1 hb1 rfl (by omega) _ 0 _ rfl hO a L C (zcells zs) rfl hpl hnews hone (by unfold maxLen; omega) (by omega) (by simp) ?_)
  intro v' w2 hO3 hG _
  have hB2 : Below w.heap.size w w2 := (below_alloc w (.cells #[] 3)).grown hG (by simp) (fun n hn => (hO.lt n hn).1)
  have hPr : w2.ownsRow w.heap.size 3 1 v' zs.length (zcells zs) := by
    rw [HL.out]; rw [Nat.zero_add, List.nil_append] at hO3; exact hO3
  obtain ⟨A', C', hv, hP'⟩ := own_ints hPr hok
  rw [HL.out] at hv
  subst hv
  have HP : Hid (ZAt w2 A' C' zs) := hP'
  have HB : Hid (∀ b o, A' = some ⟨b, o, none⟩ → w.heap.size ≤ b) := fun b o hA => (hO3.lt b (by rw [hA]; rfl)).1
  clear hO3 hG hO hnews hone hPr hP'
  go_wp2
  go_ret
  exact ⟨A', C', rfl, HP.out, HB.out, hB2⟩
theorem clone_anyZ (W : World) (A : Option Addr) (C : Nat) (zs : List Int) (hP : ZAt W A C zs) (hfs : zs.length * 8 ≤ 140737488355328) : CloneZ W (.slice A zs.length C) zs := by
  cases A with
  | none => exact clone_nilZ W C zs hP
  | some a => exact clone_someZ W a C zs hP hfs

/-- shape.All: what it hands back. -/
def AllAns (W : World) (v : Value) (zs : List Int) : Prop := ∀ w, Below W.heap.size W w → Calls Try.prog 32 #[v] w fun e w' => ∃ b1 b2 A' C', e = .returned (.func (.func 44) #[] #[.pointer (some ⟨b1, 0, none⟩), .pointer (some ⟨b2, 0, none⟩)]) ∧ Blk w' b1 3 #[.int .i64 (sizeV zs)] ∧ Blk w' b2 22 #[.slice A' zs.length C'] ∧ ZAt w' A' C' zs ∧ w.heap.size ≤ b1 ∧ w.heap.size ≤ b2 ∧ (∀ b o, A' = some ⟨b, o, none⟩ → w.heap.size ≤ b) ∧ Below w.heap.size w w'
set_option maxHeartbeats 1000000 in
theorem all_any (W : World) (A : Option Addr) (C : Nat) (zs : List Int) (hP : ZAt W A C zs) (hfs : zs.length * 8 ≤ 140737488355328) : AllAns W (.slice A zs.length C) zs := by
  intro w hw
  have HS := size_any W A C zs hP
  have HC := clone_anyZ W A C zs hP hfs
  have HCu := fun {w : World} (hw : Below W.heap.size W w) {R : Ending → World → Prop} k => HC.use hw (R := R) k
  obtain ⟨P, hPe⟩ : ∃ P, sizeV zs = P := ⟨_, rfl⟩
  obtain ⟨E, hEe⟩ : ∃ E, errV zs = E := ⟨_, rfl⟩
  rw [hPe, hEe] at HS
  rw [hPe]
  obtain ⟨L, hL⟩ : ∃ L, zs.length = L := ⟨_, rfl⟩
  rw [hL] at HS HCu ⊢
  clear hP hfs hPe hEe hL HC
  have hb1 := Blk.new w 3 #[.int .i64 P]
  have hBV := below_alloc w (.cells #[.int .i64 P] 3)
  go_enter Try.func32, Try.ntmps32
  go_wp2_with (first
    | (go_at_call 29; with_reducible refine AnsQ.use HS hw ?_)
    | (go_at_call 34; refine HCu (hw.trans (hBV.mono hw.size)) fun A' C' w2 hZ2 hA2 hb2 => ?_; have d1 := hb1.below hb2))
  go_ret
  refine ⟨_, _, A', C', rfl, d1.alloc _, Blk.new _ _ _, hZ2.below (below_alloc _ _), Nat.le_refl _, Nat.le_trans hBV.size hb2.size, fun b o h => Nat.le_trans hBV.size (hA2 b o h), bb (bb hBV hb2) (below_alloc _ _)⟩
end Go.Proofs.Ytccknfhhmdoffaa

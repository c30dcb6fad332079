/-
  Rows of 256 bits as values and as blocks of memory.
-/
import Derived.Test.YtlgadaojekcjeaaDoorProg
import Derived.WalkKit
import Derived.WalkSpells
import Derived.WalkLawsBesides
import Derived.Laws.Rows
import Derived.Laws.Tables
namespace Go.Proofs.YtlgadaojekcjeaaDoor
open Go.RowKit

/-- 256 bits, as a value. -/
def bv (b : Nat → Bool) : Array Value := ((List.range 256).map fun i => Value.bool (b i)).toArray
theorem bv_size (b : Nat → Bool) : (bv b).size = 256 := by simp [bv]
theorem bv_get (b : Nat → Bool) (i : Nat) (h : i < 256) : (bv b)[i]? = some (.bool (b i)) := by simp [bv, h]
theorem bv_congr {a b : Nat → Bool} (h : ∀ i, i < 256 → a i = b i) : bv a = bv b := by
  unfold bv
  congr 1
  apply List.map_congr_left
  intro i hi
  rw [h i (by simpa using hi)]
theorem bv_set (b : Nat → Bool) (i : Nat) (v : Bool) : (bv b).setIfInBounds i (.bool v) = bv (fun j => if j = i then v else b j) := by
  apply Array.ext_getElem?
  intro j
  rw [Array.getElem?_setIfInBounds]
  by_cases hj : j < 256
  · rw [bv_get (fun j => if j = i then v else b j) j hj]
    by_cases h : i = j
    · subst h; simp [bv_size, hj]
    · have h' : ¬ j = i := fun e => h e.symm
      simp [h, h', bv_get b j hj]
  · have e1 : (bv b)[j]? = none := by simp [bv_size]; omega
    have e2 : (bv (fun j => if j = i then v else b j))[j]? = none := by simp [bv_size]; omega
    rw [e1, e2]
    by_cases h : i = j
    · subst h; simp [bv_size, hj]
    · simp [h]
theorem bv_one (b : Nat → Bool) : (bv b).all (·.oneCell') = true := by
  rw [Array.all_eq_true_iff_forall_mem]
  intro v hv
  simp [bv] at hv
  obtain ⟨i, _, rfl⟩ := hv
  rfl
theorem zero_bv : Tryd.zeroCells27 = bv fun _ => false := by kernel_rfl
theorem info27 (b : Nat → Bool) : (Tryd.prog.info? 27).map (·.size) = some (bv b).size := by rw [bv_size]; kernel_rfl

/-- A block that holds these bits. -/
def Blk (w : World) (b : Nat) (f : Nat → Bool) : Prop := w.heap[b]? = some (.cells (bv f) 27 (0, 0))
theorem Blk.cell {w : World} {b : Nat} {f : Nat → Bool} (h : Blk w b f) (i : Nat) (hi : i < 256) : w.cell? ⟨b, i, none⟩ = some (.bool (f i)) := by
  rw [cell_of_row w b i _ _ _ h]; exact bv_get f i hi
theorem Blk.frozen {w : World} {b : Nat} {f : Nat → Bool} (h : Blk w b f) (i : Nat) : w.frozen? ⟨b, i, none⟩ = false := frozen_of_row w b i _ _ h
theorem Blk.lt {w : World} {b : Nat} {f : Nat → Bool} (h : Blk w b f) : b < w.heap.size := (Array.getElem?_eq_some_iff.1 h).1
theorem Blk.new (w : World) (f : Nat → Bool) : Blk (w.alloc (.cells (bv f) 27)) w.heap.size f := _root_.Go.heap_alloc_new w _
theorem Blk.old {w : World} {b : Nat} {f : Nat → Bool} (h : Blk w b f) (o : Obj) : Blk (w.alloc o) b f := (Below.heap_alloc w o b h.lt).trans h
theorem Blk.below {w w' : World} {b B : Nat} {f : Nat → Bool} (h : Blk w b f) (hb : Below B w w') (hB : b < B) : Blk w' b f := (hb.block b hB).trans h
theorem Blk.set {w : World} {b : Nat} {f : Nat → Bool} (h : Blk w b f) (i : Nat) (v : Bool) : Blk (w.setCell ⟨b, i, none⟩ (.bool v)) b (fun j => if j = i then v else f j) := by
  unfold Blk
  rw [setCell_eq_setRow w b i _ _ _ _ h, setRow_heap w b _ _ _ _ h, bv_set]
theorem Blk.other {w : World} {b : Nat} {f : Nat → Bool} (h : Blk w b f) (a : Addr) (v : Value) (hn : b ≠ a.block) : Blk (w.setCell a v) b f := (heap_setCell_other w a b v hn).trans h
theorem Blk.congr {w : World} {b : Nat} {f g : Nat → Bool} (h : Blk w b f) (e : ∀ i, i < 256 → f i = g i) : Blk w b g := by
  unfold Blk at *; rw [h, bv_congr e]
theorem Blk.row {w : World} {b : Nat} {f g : Nat → Bool} (h : Blk w b f) : Blk (w.setRow b (bv g)) b g := setRow_heap w b _ _ _ _ h
theorem Blk.drew {w : World} {b : Nat} {f : Nat → Bool} (h : Blk w b f) : Blk w.drew b f := h
theorem below_setRow {B : Nat} {a w : World} (h : Below B a w) {g : Nat} (hg : B ≤ g) (cs : Array Value) : Below B a (w.setRow g cs) :=
  ⟨h.os, h.tape, h.output, by rw [setRow_size]; exact h.size, fun k hk => by rw [setRow_other w g k cs (by omega)]; exact h.block k hk⟩
end Go.Proofs.YtlgadaojekcjeaaDoor

/-
  Plain mathematics of the dense view: its cells are the numbers. And the state of a walk with two blocks of its own. No condition.
-/
import Derived.Test.YtccknfhhmdoffaaVl0
namespace Go.Proofs.Ytccknfhhmdoffaa
set_option linter.unusedVariables false
open Go.RowKit

theorem sg_strs {ds : List Nat} {k : Nat} (hk : k < ds.length) : sg (strs ds) k = (strd ds k : Int) := sg_in (by unfold strs; rw [List.getElem?_map, List.getElem?_range hk]; rfl)
theorem cl_strs {ds : List Nat} (i : Nat → Nat) : ∀ k, k ≤ ds.length → cl 0 (strs ds) (fun j => (i j : Int)) k = (sm ds i k : Int)
  | 0, _ => rfl
  | k + 1, h => by
    simp only [cl, sm]
    rw [cl_strs i k (by omega), sg_strs (by omega)]
    rw [Int.natCast_add, Int.natCast_mul]
theorem ce_dense {ds : List Nat} (hS : Shp ds) {n : Nat} (hn : n < pr ds) : ce 0 (strs ds) ds n = (n : Int) := by
  unfold ce
  rw [cl_strs (ix ds n) _ (Nat.le_refl _), sm_hor hS (fun j hj => ix_lt hS n hj), hor_ix hS hn]
theorem strs_len (ds : List Nat) : (strs ds).length = ds.length := by simp [strs]
theorem ok_dense {ds : List Nat} (hS : Shp ds) : Ok 0 ds (strs ds) := by
  refine ⟨strs_len ds, hS, fun n hn => ?_, ?_⟩
  · rw [ce_dense hS hn]; have := hS.max; omega
  · rintro ⟨m, n, h1, h2, h3⟩
    rw [ce_dense hS h2, ce_dense hS (by omega)] at h3
    omega
theorem chk_dense {ds : List Nat} (hS : Shp ds) : Chk 0 (ints ds) (strs ds) (pr ds : Int) 0 :=
  .inr (.inr ⟨by rw [ints_len, strs_len], by omega, by have := hS.max; omega, ds, rfl, hS, .inr (.inr ⟨fun n hn => by rw [ce_dense hS hn]; omega, (ok_dense hS).once, rfl⟩)⟩)
theorem chk_dense1 {ds : List Nat} (hS : Shp ds) : Chk 0 (ints ds) (strs ds) ((pr ds : Int) - 1) 6 := by
  have hp := pr_pos hS.pos
  refine .inr (.inr ⟨by rw [ints_len, strs_len], by omega, by have := hS.max; omega, ds, rfl, hS, .inl ⟨fun h => ?_, rfl⟩⟩)
  have := h (pr ds - 1) (by omega)
  rw [ce_dense hS (by omega)] at this
  omega
theorem cls_dense {ds : List Nat} (hS : Shp ds) : cls 0 (strs ds) ds = (List.range (pr ds)).map fun (n : Nat) => (n : Int) := by
  unfold cls
  exact List.map_congr_left fun n hn => ce_dense hS (by simpa using hn)

/-- The state behind each call: what a world held is there, and a block of the function's own. -/
structure L1 (W w : World) (B : Nat) (t : TypeId) (vv : Array Value) (X : World) : Prop where
  hW : Below W.heap.size W X
  hB : Below w.heap.size w X
  blk : Blk X B t vv
theorem L1.next {W w : World} {B : Nat} {t : TypeId} {vv : Array Value} {X X' : World} (h : L1 W w B t vv X) (hb : Below X.heap.size X X') : L1 W w B t vv X' :=
  ⟨h.hW.trans (hb.mono h.hW.size), bthen h.hB (Nat.le_refl _) hb, h.blk.below hb⟩
theorem L1.use {W w : World} {B : Nat} {t : TypeId} {x y z : Value} {X : World} {f : FuncId} {args : Array Value} {v : Value} (h : AnsB W f args v) (S : L1 W w B t #[x, y, z] X) {R : Ending → World → Prop}
    (k : ∀ X', L1 W w B t #[x, y, z] X' → Below X.heap.size X X' → X'.cell? ⟨B, 0, none⟩ = some x → X'.cell? ⟨B, 1, none⟩ = some y → X'.cell? ⟨B, 2, none⟩ = some z → R (.returned v) X') : Calls Try.prog f args X R :=
  h.use S.hW fun X' hb => k X' (S.next hb) hb (S.next hb).blk.three.1 (S.next hb).blk.three.2.1 (S.next hb).blk.three.2.2.1
theorem L1.row {W w : World} {B : Nat} {t : TypeId} {x y z : Value} {X : World} {f : FuncId} {args : Array Value} {l : List Int} (h : NewRow W f args l) (S : L1 W w B t #[x, y, z] X) {R : Ending → World → Prop}
    (k : ∀ A1 C1 X', ZAt X' A1 C1 l → L1 W w B t #[x, y, z] X' → Below X.heap.size X X' → X'.cell? ⟨B, 0, none⟩ = some x → X'.cell? ⟨B, 1, none⟩ = some y → X'.cell? ⟨B, 2, none⟩ = some z → R (.returned (.slice A1 l.length C1)) X') : Calls Try.prog f args X R :=
  h.use S.hW fun A1 C1 X' hz hb => k A1 C1 X' hz (S.next hb) hb (S.next hb).blk.three.1 (S.next hb).blk.three.2.1 (S.next hb).blk.three.2.2.1
/-- .. two blocks. -/
structure L2 (W w : World) (B D : Nat) (t u : TypeId) (vv uu : Array Value) (X : World) : Prop where
  hW : Below W.heap.size W X
  hB : Below w.heap.size w X
  b1 : Blk X B t vv
  b2 : Blk X D u uu
theorem L2.next {W w : World} {B D : Nat} {t u : TypeId} {vv uu : Array Value} {X X' : World} (h : L2 W w B D t u vv uu X) (hb : Below X.heap.size X X') : L2 W w B D t u vv uu X' :=
  ⟨h.hW.trans (hb.mono h.hW.size), bthen h.hB (Nat.le_refl _) hb, h.b1.below hb, h.b2.below hb⟩
theorem L2.use {W w : World} {B D : Nat} {t u : TypeId} {x y z x' y' z' : Value} {X : World} {f : FuncId} {args : Array Value} {v : Value} (h : AnsB W f args v) (S : L2 W w B D t u #[x, y, z] #[x', y', z'] X) {R : Ending → World → Prop}
    (k : ∀ X', L2 W w B D t u #[x, y, z] #[x', y', z'] X' → Below X.heap.size X X' → X'.cell? ⟨B, 0, none⟩ = some x → X'.cell? ⟨B, 1, none⟩ = some y → X'.cell? ⟨B, 2, none⟩ = some z → X'.cell? ⟨D, 0, none⟩ = some x' → X'.cell? ⟨D, 1, none⟩ = some y' → X'.cell? ⟨D, 2, none⟩ = some z' → R (.returned v) X') : Calls Try.prog f args X R :=
  h.use S.hW fun X' hb => k X' (S.next hb) hb (S.next hb).b1.three.1 (S.next hb).b1.three.2.1 (S.next hb).b1.three.2.2.1 (S.next hb).b2.three.1 (S.next hb).b2.three.2.1 (S.next hb).b2.three.2.2.1
theorem L2.row {W w : World} {B D : Nat} {t u : TypeId} {x y z x' y' z' : Value} {X : World} {f : FuncId} {args : Array Value} {l : List Int} (h : NewRow W f args l) (S : L2 W w B D t u #[x, y, z] #[x', y', z'] X) {R : Ending → World → Prop}
    (k : ∀ A1 C1 X', ZAt X' A1 C1 l → L2 W w B D t u #[x, y, z] #[x', y', z'] X' → Below X.heap.size X X' → X'.cell? ⟨B, 0, none⟩ = some x → X'.cell? ⟨B, 1, none⟩ = some y → X'.cell? ⟨B, 2, none⟩ = some z → X'.cell? ⟨D, 0, none⟩ = some x' → X'.cell? ⟨D, 1, none⟩ = some y' → X'.cell? ⟨D, 2, none⟩ = some z' → R (.returned (.slice A1 l.length C1)) X') : Calls Try.prog f args X R :=
  h.use S.hW fun A1 C1 X' hz hb => k A1 C1 X' hz (S.next hb) hb (S.next hb).b1.three.1 (S.next hb).b1.three.2.1 (S.next hb).b1.three.2.2.1 (S.next hb).b2.three.1 (S.next hb).b2.three.2.1 (S.next hb).b2.three.2.2.1
end Go.Proofs.Ytccknfhhmdoffaa

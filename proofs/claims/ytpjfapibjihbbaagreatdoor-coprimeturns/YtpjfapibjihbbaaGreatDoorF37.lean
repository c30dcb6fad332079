/-
  What radix4.quarters answers: a list itself, in four. A call that lays into one row, and leaves all else. No condition.
-/
import Derived.Test.YtpjfapibjihbbaaGreatDoorF28
import Derived.Test.YtpjfapibjihbbaaGreatDoorF36
import Derived.Test.YtpjfapibjihbbaaGreatDoorF34
import Derived.Deep.OwnRows
import Derived.BigQuiet
import Derived.Deep.RegionWith
import Derived.Deep.DeepCutAuto
import Derived.Deep.RegionHeld3
namespace Go.Proofs.YtpjfapibjihbbaaGreatDoor
set_option linter.unusedVariables false
open Go.RowKit

/-! ### All but one row as it was -/
/-- All blocks but g are as they were. -/
def Kg (g : Nat) (w w' : World) : Prop := w.grownBy w' (some g)
theorem Kg.refl (g : Nat) (w : World) : Kg g w w := World.grownBy.refl _ _
theorem Kg.trans {g : Nat} {a b c : World} (h : Kg g a b) (k : Kg g b c) : Kg g a c :=
  ⟨k.os.trans h.os, k.tape.trans h.tape, k.output.trans h.output, Nat.le_trans h.size k.size, fun i hi hn => (k.block i (Nat.lt_of_lt_of_le hi h.size) hn).trans (h.block i hi hn)⟩
theorem Kg.of {g : Nat} {a b : World} (h : Below a.heap.size a b) : Kg g a b := ⟨h.os, h.tape, h.output, h.size, fun i hi _ => h.block i hi⟩
theorem Kg.set (g k : Nat) (w : World) (v : Value) : Kg g w (w.setCell ⟨g, k, none⟩ v) := grownBy_set _ _ _ _
theorem Kg.below {g B : Nat} {a b : World} (h : Kg g a b) (hg : B ≤ g) (hB : B ≤ a.heap.size) : Below B a b := (Below.refl _ _).grown h hB (fun k e => by cases e; exact hg)
/-- .. so below what was there ahead. -/
theorem Kg.bel {g : Nat} {W a b : World} (h : Kg g a b) (hW : Below W.heap.size W a) (hg : W.heap.size ≤ g) : Below W.heap.size W b := hW.trans (h.below hg hW.size)
theorem Kg.row {g b n : Nat} {t : TypeId} {f : Nat → Value} {X Y : World} (h : Kg g X Y) (r : X.rowIs b t n f) (hne : b ≠ g) : Y.rowIs b t n f := r.of_block (h.block b r.lt (fun e => hne (by cases e; rfl)))
/-- A call that lays into a list of one's own, and leaves all else. -/
def InQ (W : World) (f : FuncId) (args : Array Value) (g C : Nat) (l l' : List Nat) : Prop := ∀ w, Below W.heap.size W w → OwnU w W.heap.size (some ⟨g, 0, none⟩) C l →
  Calls Tryz.prog f args w fun e w' => e = .returned (.tuple #[]) ∧ OwnU w' W.heap.size (some ⟨g, 0, none⟩) C l' ∧ Kg g w w'
theorem InQ.use {W : World} {f : FuncId} {args : Array Value} {g C : Nat} {l l' : List Nat} (H : InQ W f args g C l l') {w : World} (hw : Below W.heap.size W w) (hO : OwnU w W.heap.size (some ⟨g, 0, none⟩) C l) {R : Ending → World → Prop}
    (k : ∀ w', OwnU w' W.heap.size (some ⟨g, 0, none⟩) C l' → Kg g w w' → R (.returned (.tuple #[])) w') : Calls Tryz.prog f args w R :=
  (H w hw hO).mono fun _ _ ⟨he, h1, h2⟩ => by subst he; exact k _ h1 h2
theorem OwnU.ge {w : World} {base g C : Nat} {xs : List Nat} (h : OwnU w base (some ⟨g, 0, none⟩) C xs) : base ≤ g ∧ g < w.heap.size := h.lt g rfl

/-! ### quarters -/
theorem mulI' {i P k : Nat} (h : i * P = k) (hk : k ≤ 16777216) : wrap64 ((i : Int) * (P : Int)) = (k : Int) ∧ IntKind.i64.wrap ((i : Int) * (P : Int)) = (k : Int) := by
  rw [← Int.natCast_mul, h]; exact ⟨wrN hk, wrI hk⟩
theorem nil4 : ∀ i, i < (#[Value.slice none 0 0, .slice none 0 0, .slice none 0 0, .slice none 0 0] : Array Value).size → (#[Value.slice none 0 0, .slice none 0 0, .slice none 0 0, .slice none 0 0] : Array Value)[i]? = some (.slice none 0 0) := by
  intro i hi
  match i, hi with
  | 0, _ => rfl
  | 1, _ => rfl
  | 2, _ => rfl
  | 3, _ => rfl
end Go.Proofs.YtpjfapibjihbbaaGreatDoor
/-
  What radix4's join does: four parts of a list put together, in their place. No condition but that the rows lie there.
-/
namespace Go.Proofs.YtpjfapibjihbbaaGreatDoor
set_option linter.unusedVariables false
open Go.RowKit

/-- Cells that lie there. -/
def CAt (X : World) (b : Nat) (vs : List Value) : Prop := b < X.heap.size ∧ ∀ i v, vs[i]? = some v → X.cell? ⟨b, i, none⟩ = some v
theorem CAt.kg {g : Nat} {X Y : World} {b : Nat} {vs : List Value} (h : CAt X b vs) (k : Kg g X Y) (hne : b ≠ g) : CAt Y b vs :=
  ⟨Nat.lt_of_lt_of_le h.1 k.size, fun i v hv => World.grownBy.cell k (h.2 i v hv) (fun e => hne (by cases e; rfl))⟩
theorem CAt.new (w : World) (vs : Array Value) (t : TypeId) : CAt (w.alloc (.cells vs t)) w.heap.size vs.toList :=
  ⟨by simp, fun i v hv => by rw [World.cell?_alloc_at _ _ _ _ rfl]; simpa using hv⟩
/-- .. the world behind it a letter. -/
theorem AnsW.useL {w : World} {f : FuncId} {args : Array Value} {v : Value} (h : AnsW w f args v) {R : Ending → World → Prop} (k : ∀ w', (∃ n, w' = w.drewN n) → R (.returned v) w') : Calls Tryz.prog f args w R := h.use0 fun n => k _ ⟨n, rfl⟩
theorem bu1 {X Y : World} (h : ∃ n, Y = X.drew.drewN n) : Below X.heap.size X Y := by obtain ⟨n, rfl⟩ := h; exact bb (below_drewN X 1) (below_drewN _ _)
theorem bu2 {X Y : World} (h : ∃ n, Y = X.drewN n) : Below X.heap.size X Y := by obtain ⟨n, rfl⟩ := h; exact below_drewN _ _
/-- All four quarters' places are in the list. -/
theorem qin {o M N i u : Nat} (ho : o + 4 * M ≤ N) (hi : i < M) (hu : u < 4) : o + u * M + i < N := by
  have : u * M + M ≤ 4 * M := by rw [← Nat.succ_mul]; exact Nat.mul_le_mul_right M hu
  omega
theorem qtab {M P N i : Nat} (hN : 4 * M * P = N) (hi : i < M) (hP : 1 ≤ P) : 3 * (i * P) < N ∧ 4 * (i * P) < N := by
  have h1 : (i + 1) * P ≤ M * P := Nat.mul_le_mul_right P hi
  rw [Nat.succ_mul] at h1
  rw [Nat.mul_assoc] at hN
  omega
theorem OwnU.cellL {X : World} {base g C : Nat} {xs : List Nat} (h : OwnU X base (some ⟨g, 0, none⟩) C xs) {j x : Nat} (hx : xs[j]? = some x) : X.cell? ⟨g, j, none⟩ = some (.int .u64 (x : Int)) ∧ X.frozen? ⟨g, j, none⟩ = false := by
  obtain ⟨_, eg, _, _, b, z⟩ := h.get hx
  cases eg
  exact ⟨b, z⟩
theorem OwnU.cellF {X : World} {base g C N : Nat} {F : Nat → Nat} (h : OwnU X base (some ⟨g, 0, none⟩) C (lf N F)) {j x : Nat} (hj : j < N) (e : F j = x) : X.cell? ⟨g, j, none⟩ = some (.int .u64 (x : Int)) ∧ X.frozen? ⟨g, j, none⟩ = false :=
  h.cellL (by rw [lf_get F hj, e])
end Go.Proofs.YtpjfapibjihbbaaGreatDoor

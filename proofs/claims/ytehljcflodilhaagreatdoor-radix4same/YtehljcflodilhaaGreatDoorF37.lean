/-
  What radix4.quarters answers: a list itself, in four. A call that lays into one row, and leaves all else. No condition.
-/
import Derived.Test.YtehljcflodilhaaGreatDoorF28
import Derived.Test.YtehljcflodilhaaGreatDoorF36
import Derived.Test.YtehljcflodilhaaGreatDoorF34
import Derived.Deep.OwnRows
import Derived.BigQuiet
import Derived.Deep.RegionWith
import Derived.Deep.DeepCutAuto
import Derived.Deep.RegionHeld3
namespace Go.Proofs.YtehljcflodilhaaGreatDoor
set_option linter.unusedVariables false
open Go.RowKit

/-! ### All but one row as it was -/
/-- All blocks but g are as they were. -/
def Kg (g : Nat) (w w' : World) : Prop := w.grownBy w' (some g)
theorem Kg.refl (g : Nat) (w : World) : Kg g w w := World.grownBy.refl _ _
theorem Kg.trans {g : Nat} {a b c : World} (h : Kg g a b) (k : Kg g b c) : Kg g a c :=
  ⟨k.os.trans h.os, k.tape.trans h.tape, k.output.trans h.output, Nat.le_trans h.size k.size, fun i hi hn => (k.block i (Nat.lt_of_lt_of_le hi h.size) hn).trans (h.block i hi hn)⟩
theorem Kg.of {g : Nat} {a b : World} (h : Below a.heap.size a b) : Kg g a b := ⟨h.os, h.tape, h.output, h.size, fun i hi _ => h.block i hi⟩
theorem Kg.set (g k : Nat) (w : World) (v : Value) : Kg g w (w.setCell ⟨g, k, none⟩ v) := grownBy_set _ _ _ _
theorem Kg.below {g B : Nat} {a b : World} (h : Kg g a b) (hg : B ≤ g) (hB : B ≤ a.heap.size) : Below B a b := (Below.refl _ _).grown h hB (fun k e => by cases e; exact hg)
/-- .. so below what was there ahead. -/
theorem Kg.bel {g : Nat} {W a b : World} (h : Kg g a b) (hW : Below W.heap.size W a) (hg : W.heap.size ≤ g) : Below W.heap.size W b := hW.trans (h.below hg hW.size)
theorem Kg.row {g b n : Nat} {t : TypeId} {f : Nat → Value} {X Y : World} (h : Kg g X Y) (r : X.rowIs b t n f) (hne : b ≠ g) : Y.rowIs b t n f := r.of_block (h.block b r.lt (fun e => hne (by cases e; rfl)))
/-- A call that lays into a list of one's own, and leaves all else. -/
def InQ (W : World) (f : FuncId) (args : Array Value) (g C : Nat) (l l' : List Nat) : Prop := ∀ w, Below W.heap.size W w → OwnU w W.heap.size (some ⟨g, 0, none⟩) C l →
  Calls Tryz.prog f args w fun e w' => e = .returned (.tuple #[]) ∧ OwnU w' W.heap.size (some ⟨g, 0, none⟩) C l' ∧ Kg g w w'
theorem InQ.use {W : World} {f : FuncId} {args : Array Value} {g C : Nat} {l l' : List Nat} (H : InQ W f args g C l l') {w : World} (hw : Below W.heap.size W w) (hO : OwnU w W.heap.size (some ⟨g, 0, none⟩) C l) {R : Ending → World → Prop}
    (k : ∀ w', OwnU w' W.heap.size (some ⟨g, 0, none⟩) C l' → Kg g w w' → R (.returned (.tuple #[])) w') : Calls Tryz.prog f args w R :=
  (H w hw hO).mono fun _ _ ⟨he, h1, h2⟩ => by subst he; exact k _ h1 h2
theorem OwnU.ge {w : World} {base g C : Nat} {xs : List Nat} (h : OwnU w base (some ⟨g, 0, none⟩) C xs) : base ≤ g ∧ g < w.heap.size := h.lt g rfl

/-! ### quarters -/
theorem mulI' {i P k : Nat} (h : i * P = k) (hk : k ≤ 16777216) : wrap64 ((i : Int) * (P : Int)) = (k : Int) ∧ IntKind.i64.wrap ((i : Int) * (P : Int)) = (k : Int) := by
  rw [← Int.natCast_mul, h]; exact ⟨wrN hk, wrI hk⟩
theorem nil4 : ∀ i, i < (#[Value.slice none 0 0, .slice none 0 0, .slice none 0 0, .slice none 0 0] : Array Value).size → (#[Value.slice none 0 0, .slice none 0 0, .slice none 0 0, .slice none 0 0] : Array Value)[i]? = some (.slice none 0 0) := by
  intro i hi
  match i, hi with
  | 0, _ => rfl
  | 1, _ => rfl
  | 2, _ => rfl
  | 3, _ => rfl
set_option maxRecDepth 100000 in
set_option maxHeartbeats 2000000 in
theorem quarters_walk (W : World) (g o n C m : Nat) (P : Nat → Value) (hm : m * 4 = n) (h1 : 1 ≤ m) (hn : n ≤ 4096) (hC : n ≤ C) (hP : ∀ k q, k < 4 → k * m = q → P k = .slice (some ⟨g, o + q, none⟩) m (C - q)) :
    AnsB W 42 #[.slice (some ⟨g, o, none⟩) n C] (.agg #[P 0, P 1, P 2, P 3]) := by
  intro w hw
  have e1 : IntKind.i64.wrap ((n : Int) / 4) = (m : Int) := divW (q := 4) (by omega) (by omega)
  have e1' : wrap64 ((n : Int) / 4) = (m : Int) := by rw [show (n : Int) / 4 = (m : Int) by omega]; exact wrN (by omega)
  have hlen : (n : Int) ≤ 9223372036854775807 := by omega
  have HN : Hid (m * 4 = n ∧ 1 ≤ m ∧ n ≤ 4096 ∧ n ≤ C) := ⟨hm, h1, hn, hC⟩
  have HP : Hid (∀ k q, k < 4 → k * m = q → P k = .slice (some ⟨g, o + q, none⟩) m (C - q)) := hP
  clear hm h1 hn hC hP
  have R0 : Hid ((w.alloc (.cells #[.slice none 0 0, .slice none 0 0, .slice none 0 0, .slice none 0 0] 88)).rowIs w.heap.size 88 4 (fun _ => .slice none 0 0)) := World.rowIs_alloc w _ _ _ nil4
  go_enter Tryz.func42, Tryz.ntmps42
  go_wp2
  clear e1 e1'
  obtain ⟨ba, hba⟩ : ∃ b, w.heap.size = b := ⟨_, rfl⟩
  obtain ⟨w1, hw1⟩ : ∃ X, w.alloc (.cells #[.slice none 0 0, .slice none 0 0, .slice none 0 0, .slice none 0 0] 88) = X := ⟨_, rfl⟩
  have hs1 : w1.heap.size = ba + 1 := by rw [← hw1, ← hba]; simp
  have hB1 : Below ba w w1 := by rw [← hw1, ← hba]; exact below_alloc _ _
  have R1 : w1.rowIs ba 88 4 (fun _ => .slice none 0 0) := by rw [← hw1, ← hba]; exact R0
  have RA := R1.alloc (.cells #[.slice none 0 0, .slice none 0 0, .slice none 0 0, .slice none 0 0] 88)
  have RB := World.rowIs_alloc w1 _ 88 _ nil4
  rw [hs1] at RB
  have hB2 : Below ba w (w1.alloc (.cells #[.slice none 0 0, .slice none 0 0, .slice none 0 0, .slice none 0 0] 88)) := hB1.trans ((below_alloc w1 _).mono (by omega))
  rw [hba, hw1]
  obtain ⟨w2, hw2⟩ : ∃ X, w1.alloc (.cells #[.slice none 0 0, .slice none 0 0, .slice none 0 0, .slice none 0 0] 88) = X := ⟨_, rfl⟩
  rw [hw2] at RA RB hB2 ⊢
  obtain ⟨bb2, hbb2⟩ : ∃ b, ba + 1 = b := ⟨_, rfl⟩
  rw [hbb2] at RB ⊢
  have HNE : Hid (ba ≠ bb2 ∧ ba ≤ bb2) := ⟨by omega, by omega⟩
  have HBA : Hid (w.heap.size = ba) := hba
  have HRA : Hid (w2.rowIs ba 88 4 (fun _ => .slice none 0 0)) := RA
  have HRB : Hid (w2.rowIs bb2 88 4 (fun j => if j < 0 then P j else .slice none 0 0)) := RB.congr fun i _ => by rw [if_neg (by omega)]
  have HB2 : Hid (Below ba w w2) := hB2
  clear R0 R1 RA RB hB1 hB2 hs1 hw1 hw2 hba hbb2
  go_loopw [9] (fun v wr => ∃ k : Nat, v = .int .i64 (k : Int) ∧ k ≤ 4 ∧ Hid (wr.rowIs ba 88 4 (fun _ => .slice none 0 0)) ∧ Hid (wr.rowIs bb2 88 4 (fun j => if j < k then P j else .slice none 0 0)) ∧ Hid (Below ba w wr)) (fun v _ => 4 - (intOf v).toNat)
  case atStart => exact ⟨0, rfl, by omega, HRA, HRB, HB2⟩
  case round =>
    clear HRA HRB HB2
    obtain ⟨k, rfl, hk, HRA, HRB, HB⟩ := hrel
    by_cases hlt : k < 4
    · obtain ⟨q, hq⟩ : ∃ q, k * m = q := ⟨_, rfl⟩
      have hqm : q + m ≤ n := by
        have := Nat.mul_le_mul_right m (show k + 1 ≤ 4 by omega)
        have h0 := HN.out.1
        rw [Nat.succ_mul, hq] at this
        omega
      have hp := HP.out k q hlt hq
      have hnC := HN.out.2.2.2
      have hn4 := HN.out.2.2.1
      have hm1 := HN.out.2.1
      have e2 : wrap64 ((k : Int) * (m : Int)) = (q : Int) := (mulI' hq (by omega)).1
      have e3 : IntKind.i64.wrap ((k : Int) * (m : Int)) = (q : Int) := (mulI' hq (by omega)).2
      have k1 : (q : Int) ≤ (n : Int) := by omega
      have k3 : q ≤ n := by omega
      have k5 : m ≤ C - q := by omega
      have k7 : q < C := by omega
      have k9 : ¬ q = C := by omega
      have k11 : ¬ C - q = 0 := by omega
      have kt : (k : Int) < 4 := by omega
      have c0 := HRB.out.cell hlt
      have f0 := HRB.out.frozen k
      rw [if_neg (by omega)] at c0
      have HR3 : Hid ((wr.setCell ⟨bb2, k, none⟩ (.slice (some ⟨g, o + q, none⟩) m (C - q))).rowIs bb2 88 4 (fun j => if j < k + 1 then P j else .slice none 0 0)) := (HRB.out.set k _).congr fun j _ => by
        by_cases e : j = k
        · subst e; rw [if_pos rfl, if_pos (by omega), hp]
        · rw [if_neg e]
          by_cases h : j < k
          · rw [if_pos h, if_pos (by omega)]
          · rw [if_neg h, if_neg (by omega)]
      have HR4 : Hid ((wr.setCell ⟨bb2, k, none⟩ (.slice (some ⟨g, o + q, none⟩) m (C - q))).rowIs ba 88 4 (fun _ => .slice none 0 0)) := HRA.out.setOther HNE.out.1 _
      have HB3 : Hid (Below ba w (wr.setCell ⟨bb2, k, none⟩ (.slice (some ⟨g, o + q, none⟩) m (C - q)))) := HB.out.setCell (p := ⟨bb2, k, none⟩) HNE.out.2 _
      clear hp hq hqm hnC hn4 hm1 HRA HRB HB
      go_wp2
      go_roundw
      case rel => exact ⟨k + 1, by go_num, by omega, HR4, HR3, HB3⟩
      case measure => simp [intOf]; omega
    · obtain rfl : k = 4 := by omega
      have c0 := HRB.out.cell (i := 0) (by omega)
      have c1 := HRB.out.cell (i := 1) (by omega)
      have c2 := HRB.out.cell (i := 2) (by omega)
      have c3 := HRB.out.cell (i := 3) (by omega)
      rw [if_pos (by omega)] at c0 c1 c2 c3
      obtain ⟨s0, t0, p0⟩ : ∃ A B, P 0 = .slice (some ⟨g, A, none⟩) m B := ⟨_, _, HP.out 0 _ (by omega) rfl⟩
      obtain ⟨s1, t1, p1⟩ : ∃ A B, P 1 = .slice (some ⟨g, A, none⟩) m B := ⟨_, _, HP.out 1 _ (by omega) rfl⟩
      obtain ⟨s2, t2, p2⟩ : ∃ A B, P 2 = .slice (some ⟨g, A, none⟩) m B := ⟨_, _, HP.out 2 _ (by omega) rfl⟩
      obtain ⟨s3, t3, p3⟩ : ∃ A B, P 3 = .slice (some ⟨g, A, none⟩) m B := ⟨_, _, HP.out 3 _ (by omega) rfl⟩
      rw [p0] at c0
      rw [p1] at c1
      rw [p2] at c2
      rw [p3] at c3
      have HPP : Hid (P 0 = .slice (some ⟨g, s0, none⟩) m t0 ∧ P 1 = .slice (some ⟨g, s1, none⟩) m t1 ∧ P 2 = .slice (some ⟨g, s2, none⟩) m t2 ∧ P 3 = .slice (some ⟨g, s3, none⟩) m t3) := ⟨p0, p1, p2, p3⟩
      clear p0 p1 p2 p3
      have f0 := HRA.out.frozen 0
      have f1 := HRA.out.frozen 1
      have f2 := HRA.out.frozen 2
      have f3 := HRA.out.frozen 3
      have d0 := HRA.out.cell (i := 0) (by omega)
      have d1 := HRA.out.cell (i := 1) (by omega)
      have d2 := HRA.out.cell (i := 2) (by omega)
      have d3 := HRA.out.cell (i := 3) (by omega)
      have HB4 : Hid (∀ v0 v1 v2 v3, Below w.heap.size w ((((wr.setCell ⟨ba, 0, none⟩ v0).setCell ⟨ba, 1, none⟩ v1).setCell ⟨ba, 2, none⟩ v2).setCell ⟨ba, 3, none⟩ v3)) := fun v0 v1 v2 v3 => by
        rw [HBA.out]
        exact (((HB.out.setCell (p := ⟨ba, 0, none⟩) (Nat.le_refl _) _).setCell (p := ⟨ba, 1, none⟩) (Nat.le_refl _) _).setCell (p := ⟨ba, 2, none⟩) (Nat.le_refl _) _).setCell (p := ⟨ba, 3, none⟩) (Nat.le_refl _) _
      have R4 := (((HRA.out.set 0 (.slice (some ⟨g, s0, none⟩) m t0)).set 1 (.slice (some ⟨g, s1, none⟩) m t1)).set 2 (.slice (some ⟨g, s2, none⟩) m t2)).set 3 (.slice (some ⟨g, s3, none⟩) m t3)
      have HR4 : Hid (World.rowIs _ ba 88 4 _) := R4
      clear HB HRA HRB R4
      go_wp2
      have HX := HB4.out (.slice (some ⟨g, s0, none⟩) m t0) (.slice (some ⟨g, s1, none⟩) m t1) (.slice (some ⟨g, s2, none⟩) m t2) (.slice (some ⟨g, s3, none⟩) m t3)
      have R4 := HR4.out
      obtain ⟨X, hX⟩ : ∃ X, ((((wr.setCell ⟨ba, 0, none⟩ (.slice (some ⟨g, s0, none⟩) m t0)).setCell ⟨ba, 1, none⟩ (.slice (some ⟨g, s1, none⟩) m t1)).setCell ⟨ba, 2, none⟩ (.slice (some ⟨g, s2, none⟩) m t2)).setCell ⟨ba, 3, none⟩ (.slice (some ⟨g, s3, none⟩) m t3)) = X := ⟨_, rfl⟩
      rw [hX] at HX R4 ⊢
      have y0 : X.cell? ⟨ba, 0, none⟩ = some (.slice (some ⟨g, s0, none⟩) m t0) := R4.cell (i := 0) (by omega)
      have y1 : X.cell? ⟨ba, 1, none⟩ = some (.slice (some ⟨g, s1, none⟩) m t1) := R4.cell (i := 1) (by omega)
      have y2 : X.cell? ⟨ba, 2, none⟩ = some (.slice (some ⟨g, s2, none⟩) m t2) := R4.cell (i := 2) (by omega)
      have y3 : X.cell? ⟨ba, 3, none⟩ = some (.slice (some ⟨g, s3, none⟩) m t3) := R4.cell (i := 3) (by omega)
      rw [HPP.out.1, HPP.out.2.1, HPP.out.2.2.1, HPP.out.2.2.2]
      clear R4 HR4 hX
      exact bodyPost_ret (v := .agg #[.slice (some ⟨g, s0, none⟩) m t0, .slice (some ⟨g, s1, none⟩) m t1, .slice (some ⟨g, s2, none⟩) m t2, .slice (some ⟨g, s3, none⟩) m t3]) (by simp [results, Tryz.results42, go_sem, y0, y1, y2, y3]) rfl ⟨rfl, HX⟩
end Go.Proofs.YtehljcflodilhaaGreatDoor
/-
  What radix4's join does: four parts of a list put together, in their place. No condition but that the rows lie there.
-/
namespace Go.Proofs.YtehljcflodilhaaGreatDoor
set_option linter.unusedVariables false
open Go.RowKit

/-- Cells that lie there. -/
def CAt (X : World) (b : Nat) (vs : List Value) : Prop := b < X.heap.size ∧ ∀ i v, vs[i]? = some v → X.cell? ⟨b, i, none⟩ = some v
theorem CAt.kg {g : Nat} {X Y : World} {b : Nat} {vs : List Value} (h : CAt X b vs) (k : Kg g X Y) (hne : b ≠ g) : CAt Y b vs :=
  ⟨Nat.lt_of_lt_of_le h.1 k.size, fun i v hv => World.grownBy.cell k (h.2 i v hv) (fun e => hne (by cases e; rfl))⟩
theorem CAt.new (w : World) (vs : Array Value) (t : TypeId) : CAt (w.alloc (.cells vs t)) w.heap.size vs.toList :=
  ⟨by simp, fun i v hv => by rw [World.cell?_alloc_at _ _ _ _ rfl]; simpa using hv⟩
/-- .. the world behind it a letter. -/
theorem AnsW.useL {w : World} {f : FuncId} {args : Array Value} {v : Value} (h : AnsW w f args v) {R : Ending → World → Prop} (k : ∀ w', (∃ n, w' = w.drewN n) → R (.returned v) w') : Calls Tryz.prog f args w R := h.use0 fun n => k _ ⟨n, rfl⟩
theorem bu1 {X Y : World} (h : ∃ n, Y = X.drew.drewN n) : Below X.heap.size X Y := by obtain ⟨n, rfl⟩ := h; exact bb (below_drewN X 1) (below_drewN _ _)
theorem bu2 {X Y : World} (h : ∃ n, Y = X.drewN n) : Below X.heap.size X Y := by obtain ⟨n, rfl⟩ := h; exact below_drewN _ _
/-- All four quarters' places are in the list. -/
theorem qin {o M N i u : Nat} (ho : o + 4 * M ≤ N) (hi : i < M) (hu : u < 4) : o + u * M + i < N := by
  have : u * M + M ≤ 4 * M := by rw [← Nat.succ_mul]; exact Nat.mul_le_mul_right M hu
  omega
theorem qtab {M P N i : Nat} (hN : 4 * M * P = N) (hi : i < M) (hP : 1 ≤ P) : 3 * (i * P) < N ∧ 4 * (i * P) < N := by
  have h1 : (i + 1) * P ≤ M * P := Nat.mul_le_mul_right P hi
  rw [Nat.succ_mul] at h1
  rw [Nat.mul_assoc] at hN
  omega
theorem OwnU.cellL {X : World} {base g C : Nat} {xs : List Nat} (h : OwnU X base (some ⟨g, 0, none⟩) C xs) {j x : Nat} (hx : xs[j]? = some x) : X.cell? ⟨g, j, none⟩ = some (.int .u64 (x : Int)) ∧ X.frozen? ⟨g, j, none⟩ = false := by
  obtain ⟨_, eg, _, _, b, z⟩ := h.get hx
  cases eg
  exact ⟨b, z⟩
theorem OwnU.cellF {X : World} {base g C N : Nat} {F : Nat → Nat} (h : OwnU X base (some ⟨g, 0, none⟩) C (lf N F)) {j x : Nat} (hj : j < N) (e : F j = x) : X.cell? ⟨g, j, none⟩ = some (.int .u64 (x : Int)) ∧ X.frozen? ⟨g, j, none⟩ = false :=
  h.cellL (by rw [lf_get F hj, e])
set_option maxRecDepth 100000 in
set_option maxHeartbeats 4000000 in
theorem joinq_walk (W : World) (a : Option Addr) (p v g C N o M P c c0 c1 c2 c3 : Nat) (B : Option Addr) (D : Nat) (ls : List Nat) (A : Nat → Nat) (hN : 4 * M * P = N) (hM : 1 ≤ M) (hP : 1 ≤ P) (hN2 : N ≤ 4096) (hc : P * M = c) (ho : o + 4 * M ≤ N)
    (hL : UAt W B D ls) (hll : ls.length = N) (hp : 0 < p) (hA : ∀ j, j < N → A j < p)
    (HT : ∀ w, Below W.heap.size W w → ∀ k l y : Nat, ls[k]? = some l → y < p → AnsW w 45 #[.pointer a, .int .u64 (l : Int), .int .u64 (y : Int)] (.int .u64 (qt p v k y : Int)))
    (HA : ∀ w, Below W.heap.size W w → ∀ y z : Nat, y < p → z < p → AnsW w 40 #[.pointer a, .int .u64 (y : Int), .int .u64 (z : Int)] (.int .u64 (((y + z) % p : Nat) : Int)))
    (HS : ∀ w, Below W.heap.size W w → ∀ y z : Nat, y < p → z < p → AnsW w 41 #[.pointer a, .int .u64 (y : Int), .int .u64 (z : Int)] (.int .u64 (((y + negN z p) % p : Nat) : Int))) :
    InQ W 43 #[.agg #[.pointer a, .slice B N D], .agg #[.slice (some ⟨g, o, none⟩) M c0, .slice (some ⟨g, o + M, none⟩) M c1, .slice (some ⟨g, o + 2 * M, none⟩) M c2, .slice (some ⟨g, o + 3 * M, none⟩) M c3], .int .i64 (P : Int)] g C (lf N A) (lf N (jqF p v c P M o A)) := by
  intro w hw hO
  have hC : N ≤ C := by have := hO.cap; rwa [lf_len] at this
  have h4 : c * 4 = N := by rw [← hN, ← hc, Nat.mul_comm P M, Nat.mul_comm, Nat.mul_assoc]
  have hMN : M ≤ N := by rw [← hN, Nat.mul_comm 4 M, Nat.mul_assoc]; exact Nat.le_mul_of_pos_right M (by omega)
  have hcN : c < N := by
    have : 1 ≤ P * M := Nat.mul_pos hP hM
    omega
  obtain ⟨lc, hlc⟩ : ∃ l, ls[c]? = some l := ⟨_, List.getElem?_eq_getElem (by rw [hll]; exact hcN)⟩
  obtain ⟨bl, ol, rfl, hbl, d0, _⟩ := hL.get c lc hlc
  have hge := hO.ge
  -- the two boxes
  obtain ⟨bo, hbo⟩ : ∃ b, w.heap.size = b := ⟨_, rfl⟩
  obtain ⟨w1, hw1⟩ : ∃ X, w.alloc (.cells #[.pointer a, .slice (some ⟨bl, ol, none⟩) N D] 51) = X := ⟨_, rfl⟩
  have hs1 : w1.heap.size = bo + 1 := by rw [← hw1, ← hbo]; simp
  have C1 := CAt.new w #[.pointer a, .slice (some ⟨bl, ol, none⟩) N D] 51
  have K1 : Kg g w w1 := by rw [← hw1]; exact Kg.of (below_alloc _ _)
  rw [hw1, hbo] at C1
  obtain ⟨o1, ho1⟩ : ∃ q, o + M = q := ⟨_, rfl⟩
  obtain ⟨o2, ho2⟩ : ∃ q, o + 2 * M = q := ⟨_, rfl⟩
  obtain ⟨o3, ho3⟩ : ∃ q, o + 3 * M = q := ⟨_, rfl⟩
  rw [ho1, ho2, ho3]
  have C2 := CAt.new w1 #[.slice (some ⟨g, o, none⟩) M c0, .slice (some ⟨g, o1, none⟩) M c1, .slice (some ⟨g, o2, none⟩) M c2, .slice (some ⟨g, o3, none⟩) M c3] 88
  have K2 := K1.trans (Kg.of (g := g) (below_alloc w1 (.cells #[.slice (some ⟨g, o, none⟩) M c0, .slice (some ⟨g, o1, none⟩) M c1, .slice (some ⟨g, o2, none⟩) M c2, .slice (some ⟨g, o3, none⟩) M c3] 88)))
  have C1' := C1.kg (Kg.of (g := g) (below_alloc w1 (.cells #[.slice (some ⟨g, o, none⟩) M c0, .slice (some ⟨g, o1, none⟩) M c1, .slice (some ⟨g, o2, none⟩) M c2, .slice (some ⟨g, o3, none⟩) M c3] 88))) (by omega)
  rw [hs1] at C2
  have hsz : (w1.alloc (.cells #[.slice (some ⟨g, o, none⟩) M c0, .slice (some ⟨g, o1, none⟩) M c1, .slice (some ⟨g, o2, none⟩) M c2, .slice (some ⟨g, o3, none⟩) M c3] 88)).heap.size = bo + 2 := by simp [hs1]
  obtain ⟨bp, hbp⟩ : ∃ b, bo + 1 = b := ⟨_, rfl⟩
  obtain ⟨w2, hw2⟩ : ∃ X, w1.alloc (.cells #[.slice (some ⟨g, o, none⟩) M c0, .slice (some ⟨g, o1, none⟩) M c1, .slice (some ⟨g, o2, none⟩) M c2, .slice (some ⟨g, o3, none⟩) M c3] 88) = X := ⟨_, rfl⟩
  rw [hw2] at C2 K2 C1' hsz
  rw [hbp] at C2
  rw [hbp] at hs1
  have hneo : bo ≠ g ∧ bp ≠ g := ⟨by omega, by omega⟩
  have HNE : Hid (bo ≠ g ∧ bp ≠ g) := hneo
  have HG : Hid (W.heap.size ≤ g) := hge.1
  have HK2 : Hid (Kg g w w2) := K2
  have HW2 : Hid (Below W.heap.size W w2) := K2.bel hw hge.1
  have HC1 : Hid (CAt w2 bo [.pointer a, .slice (some ⟨bl, ol, none⟩) N D]) := C1'
  have HC2 : Hid (CAt w2 bp [.slice (some ⟨g, o, none⟩) M c0, .slice (some ⟨g, o1, none⟩) M c1, .slice (some ⟨g, o2, none⟩) M c2, .slice (some ⟨g, o3, none⟩) M c3]) := C2
  have HO2 : Hid (OwnU w2 W.heap.size (some ⟨g, 0, none⟩) C (lf N (qS o M A (jqF p v c P M o A) 0))) := by
    unfold Hid
    rw [lf_ext (g := A) fun j _ => qS_zero o M A _ j]
    refine hO.below ?_
    rw [← hw2]
    exact bb (by rw [← hw1]; exact below_alloc _ _) (below_alloc _ _)
  have HT' := (show Hid _ from HT)
  have HA' := (show Hid _ from HA)
  have HS' := (show Hid _ from HS)
  have HLL : Hid (ls.length = N) := hll
  have HU : Hid (UAt W (some ⟨bl, ol, none⟩) D ls) := hL
  have HN : Hid (4 * M * P = N ∧ 1 ≤ M ∧ 1 ≤ P ∧ N ≤ 4096 ∧ N ≤ C ∧ P * M = c ∧ o + 4 * M ≤ N ∧ 0 < p) := ⟨hN, hM, hP, hN2, hC, hc, ho, hp⟩
  have HOO : Hid (o + M = o1 ∧ o + 2 * M = o2 ∧ o + 3 * M = o3) := ⟨ho1, ho2, ho3⟩
  have HAL : Hid (∀ j, j < N → A j < p) := hA
  have HLC : Hid (ls[c]? = some lc) := hlc
  have dl := ((bcell HW2.out).1 bl (ol + c) hbl).trans d0
  have e00 := HC1.out.2 0 _ rfl
  have e01 := HC1.out.2 1 _ rfl
  have f00 := HC2.out.2 0 _ rfl
  have hlen : (N : Int) ≤ 9223372036854775807 := by omega
  have hlenM : (M : Int) ≤ 9223372036854775807 := by omega
  have q1 : (N : Int) / 4 = (c : Int) := by omega
  have q2 : (c : Int) < (N : Int) := by omega
  have q3 : (c : Int) ≤ 4096 := by omega
  clear hw hO hC h4 hcN hlc hL hll hN hM hP hN2 hc ho ho1 ho2 ho3 hp hA HT HA HS hge hbp C1 K1 K2 C1' C2 hsz hneo hMN hbl d0
  go_enter Tryz.func43, Tryz.ntmps43
  go_wp2
  clear e00 e01 f00 dl q1 q2 hs1 hw1 hw2 hbo
  go_loopw [28] (fun iv wr => ∃ i : Nat, iv = .int .i64 (i : Int) ∧ i ≤ M ∧ Hid (OwnU wr W.heap.size (some ⟨g, 0, none⟩) C (lf N (qS o M A (jqF p v c P M o A) i))) ∧ Hid (Kg g w2 wr)) (fun iv _ => M - (intOf iv).toNat)
  case atStart => exact ⟨0, rfl, by omega, HO2, Kg.refl _ _⟩
  case round =>
    clear HO2
    obtain ⟨i, rfl, hi, HO, HK⟩ := hrel
    by_cases hil : i < M
    · obtain ⟨k, hk⟩ : ∃ k, i * P = k := ⟨_, rfl⟩
      have ht := qtab HN.out.1 hil HN.out.2.2.1
      rw [hk] at ht
      obtain ⟨k2, hk2⟩ : ∃ q, 2 * k = q := ⟨_, rfl⟩
      obtain ⟨k3, hk3⟩ : ∃ q, 3 * k = q := ⟨_, rfl⟩
      have hkN : k < N := by omega
      have hkN2 : k2 < N := by omega
      have hkN3 : k3 < N := by omega
      have hN4 := HN.out.2.2.2.1
      obtain ⟨l1, hl1⟩ : ∃ l, ls[k]? = some l := ⟨_, List.getElem?_eq_getElem (by rw [HLL.out]; exact hkN)⟩
      obtain ⟨l2, hl2⟩ : ∃ l, ls[k2]? = some l := ⟨_, List.getElem?_eq_getElem (by rw [HLL.out]; exact hkN2)⟩
      obtain ⟨l3, hl3⟩ : ∃ l, ls[k3]? = some l := ⟨_, List.getElem?_eq_getElem (by rw [HLL.out]; exact hkN3)⟩
      have HWr : Hid (Below W.heap.size W wr) := HK.out.bel HW2.out HG.out
      have hb0 := (HU.out.at hl1).2.2
      have d1 := ((bcell HWr.out).1 bl (ol + k) hb0).trans (HU.out.at hl1).1
      have d2 := ((bcell HWr.out).1 bl (ol + k2) hb0).trans (HU.out.at hl2).1
      have d3 := ((bcell HWr.out).1 bl (ol + k3) hb0).trans (HU.out.at hl3).1
      have C1 := HC1.out.kg HK.out HNE.out.1
      have C2 := HC2.out.kg HK.out HNE.out.2
      have e00 := C1.2 0 _ rfl
      have e01 := C1.2 1 _ rfl
      have f00 := C2.2 0 _ rfl
      have f01 := C2.2 1 _ rfl
      have f02 := C2.2 2 _ rfl
      have f03 := C2.2 3 _ rfl
      -- the four numbers
      have j0 : o + i < N := by have := qin HN.out.2.2.2.2.2.2.1 hil (u := 0) (by omega); omega
      have j1 : o1 + i < N := by have := qin HN.out.2.2.2.2.2.2.1 hil (u := 1) (by omega); have := HOO.out.1; omega
      have j2 : o2 + i < N := by have := qin HN.out.2.2.2.2.2.2.1 hil (u := 2) (by omega); have := HOO.out.2.1; omega
      have j3 : o3 + i < N := by have := qin HN.out.2.2.2.2.2.2.1 hil (u := 3) (by omega); have := HOO.out.2.2; omega
      have a0 := qS_at hil A (jqF p v c P M o A) (o + i) (u := 0) (o := o) (by omega)
      have a1 := qS_at hil A (jqF p v c P M o A) (o1 + i) (u := 1) (o := o) (by have := HOO.out.1; omega)
      have a2 := qS_at hil A (jqF p v c P M o A) (o2 + i) (u := 2) (o := o) (by have := HOO.out.2.1; omega)
      have a3 := qS_at hil A (jqF p v c P M o A) (o3 + i) (u := 3) (o := o) (by have := HOO.out.2.2; omega)
      obtain ⟨x0, hx0⟩ : ∃ x, A (o + i) = x := ⟨_, rfl⟩
      obtain ⟨x1, hx1⟩ : ∃ x, A (o1 + i) = x := ⟨_, rfl⟩
      obtain ⟨x2, hx2⟩ : ∃ x, A (o2 + i) = x := ⟨_, rfl⟩
      obtain ⟨x3, hx3⟩ : ∃ x, A (o3 + i) = x := ⟨_, rfl⟩
      obtain ⟨b0, _⟩ := HO.out.cellF j0 (a0.trans hx0)
      obtain ⟨b1, _⟩ := HO.out.cellF j1 (a1.trans hx1)
      obtain ⟨b2, _⟩ := HO.out.cellF j2 (a2.trans hx2)
      obtain ⟨b3, _⟩ := HO.out.cellF j3 (a3.trans hx3)
      have HOF : Hid (∀ X, OwnU X W.heap.size (some ⟨g, 0, none⟩) C (lf N (qS o M A (jqF p v c P M o A) i)) → (X.cell? ⟨g, o + i, none⟩ = some (.int .u64 (x0 : Int)) ∧ X.frozen? ⟨g, o + i, none⟩ = false) ∧ (X.cell? ⟨g, o1 + i, none⟩ = some (.int .u64 (x1 : Int)) ∧ X.frozen? ⟨g, o1 + i, none⟩ = false)) := fun X hX => ⟨hX.cellF j0 (a0.trans hx0), hX.cellF j1 (a1.trans hx1)⟩
      have HOG : Hid (∀ X y0 y1, OwnU X W.heap.size (some ⟨g, 0, none⟩) C (((lf N (qS o M A (jqF p v c P M o A) i)).set (o + i) y0).set (o1 + i) y1) → (X.cell? ⟨g, o2 + i, none⟩ = some (.int .u64 (x2 : Int)) ∧ X.frozen? ⟨g, o2 + i, none⟩ = false) ∧ (X.cell? ⟨g, o3 + i, none⟩ = some (.int .u64 (x3 : Int)) ∧ X.frozen? ⟨g, o3 + i, none⟩ = false)) := fun X y0 y1 hX => by
        have hm := HN.out.2.1
        have ho := HOO.out
        exact ⟨hX.cellL (by rw [List.getElem?_set_ne (by omega), List.getElem?_set_ne (by omega), lf_get _ j2, a2, hx2]), hX.cellL (by rw [List.getElem?_set_ne (by omega), List.getElem?_set_ne (by omega), lf_get _ j3, a3, hx3])⟩
      have hp := HN.out.2.2.2.2.2.2.2
      have y0 : x0 < p := by rw [← hx0]; exact HAL.out _ j0
      have y1 : x1 < p := by rw [← hx1]; exact HAL.out _ j1
      have y2 : x2 < p := by rw [← hx2]; exact HAL.out _ j2
      have y3 : x3 < p := by rw [← hx3]; exact HAL.out _ j3
      -- what is reckoned
      obtain ⟨t1, ht1⟩ : ∃ x, qt p v k x1 = x := ⟨_, rfl⟩
      obtain ⟨t2, ht2⟩ : ∃ x, qt p v k2 x2 = x := ⟨_, rfl⟩
      obtain ⟨t3, ht3⟩ : ∃ x, qt p v k3 x3 = x := ⟨_, rfl⟩
      have s1 : t1 < p := by rw [← ht1]; exact Nat.mod_lt _ hp
      have s2 : t2 < p := by rw [← ht2]; exact Nat.mod_lt _ hp
      have s3 : t3 < p := by rw [← ht3]; exact Nat.mod_lt _ hp
      obtain ⟨ev, hev⟩ : ∃ x, (x0 + t2) % p = x := ⟨_, rfl⟩
      obtain ⟨od, hod⟩ : ∃ x, (t1 + t3) % p = x := ⟨_, rfl⟩
      obtain ⟨ap, hap⟩ : ∃ x, (x0 + negN t2 p) % p = x := ⟨_, rfl⟩
      obtain ⟨df, hdf⟩ : ∃ x, (t1 + negN t3 p) % p = x := ⟨_, rfl⟩
      have s4 : ev < p := by rw [← hev]; exact Nat.mod_lt _ hp
      have s5 : od < p := by rw [← hod]; exact Nat.mod_lt _ hp
      have s6 : ap < p := by rw [← hap]; exact Nat.mod_lt _ hp
      have s7 : df < p := by rw [← hdf]; exact Nat.mod_lt _ hp
      obtain ⟨ac, hac⟩ : ∃ x, qt p v c df = x := ⟨_, rfl⟩
      have s8 : ac < p := by rw [← hac]; exact Nat.mod_lt _ hp
      obtain ⟨n0, hn0⟩ : ∃ x, (ev + od) % p = x := ⟨_, rfl⟩
      obtain ⟨n1, hn1⟩ : ∃ x, (ap + ac) % p = x := ⟨_, rfl⟩
      obtain ⟨n2, hn2⟩ : ∃ x, (ev + negN od p) % p = x := ⟨_, rfl⟩
      obtain ⟨n3, hn3⟩ : ∃ x, (ap + negN ac p) % p = x := ⟨_, rfl⟩
      have T1 := HT'.out wr HWr.out k l1 x1 hl1 y1
      have T2 := HT'.out wr HWr.out k2 l2 x2 hl2 y2
      have T3 := HT'.out wr HWr.out k3 l3 x3 hl3 y3
      have T4 := HT'.out wr HWr.out c lc df HLC.out s7
      have A1 := HA'.out wr HWr.out x0 t2 y0 s2
      have A2 := HA'.out wr HWr.out t1 t3 s1 s3
      have S1 := HS'.out wr HWr.out x0 t2 y0 s2
      have S2 := HS'.out wr HWr.out t1 t3 s1 s3
      rw [ht1] at T1
      rw [ht2] at T2
      rw [ht3] at T3
      rw [hac] at T4
      rw [hev] at A1
      rw [hod] at A2
      rw [hap] at S1
      rw [hdf] at S2
      have HA34 : Hid (∀ X, Below W.heap.size W X → AnsW X 40 #[.pointer a, .int .u64 (ev : Int), .int .u64 (od : Int)] (.int .u64 (n0 : Int)) ∧ AnsW X 40 #[.pointer a, .int .u64 (ap : Int), .int .u64 (ac : Int)] (.int .u64 (n1 : Int))) := fun X hX => by
        have S3 := HA'.out X hX ev od s4 s5
        have S4 := HA'.out X hX ap ac s6 s8
        rw [hn0] at S3
        rw [hn1] at S4
        exact ⟨S3, S4⟩
      have HS34 : Hid (∀ X, Below W.heap.size W X → AnsW X 41 #[.pointer a, .int .u64 (ev : Int), .int .u64 (od : Int)] (.int .u64 (n2 : Int)) ∧ AnsW X 41 #[.pointer a, .int .u64 (ap : Int), .int .u64 (ac : Int)] (.int .u64 (n3 : Int))) := fun X hX => by
        have S3 := HS'.out X hX ev od s4 s5
        have S4 := HS'.out X hX ap ac s6 s8
        rw [hn2] at S3
        rw [hn3] at S4
        exact ⟨S3, S4⟩
      -- what is laid
      have r0 : jqF p v c P M o A (o + i) = n0 := by
        have := jqF_at (p := p) (w := v) (c := c) (P := P) (o := o) (A := A) (u := 0) (by omega) hil
        rw [Nat.zero_mul, Nat.add_zero, hk, HOO.out.1, HOO.out.2.1, HOO.out.2.2, hx0, hx1, hx2, hx3] at this
        rw [this, qd_0, hk2, hk3, ht1, ht2, ht3, hev, hod, hn0]
      have r1 : jqF p v c P M o A (o1 + i) = n1 := by
        have := jqF_at (p := p) (w := v) (c := c) (P := P) (o := o) (A := A) (u := 1) (by omega) hil
        rw [Nat.one_mul, hk, HOO.out.1, HOO.out.2.1, HOO.out.2.2, hx0, hx1, hx2, hx3] at this
        rw [this, qd_1, hk2, hk3, ht1, ht2, ht3, hap, hdf, hac, hn1]
      have r2 : jqF p v c P M o A (o2 + i) = n2 := by
        have := jqF_at (p := p) (w := v) (c := c) (P := P) (o := o) (A := A) (u := 2) (by omega) hil
        rw [hk, HOO.out.1, HOO.out.2.1, HOO.out.2.2, hx0, hx1, hx2, hx3] at this
        rw [this, qd_2, hk2, hk3, ht1, ht2, ht3, hev, hod, hn2]
      have r3 : jqF p v c P M o A (o3 + i) = n3 := by
        have := jqF_at (p := p) (w := v) (c := c) (P := P) (o := o) (A := A) (u := 3) (by omega) hil
        rw [hk, HOO.out.1, HOO.out.2.1, HOO.out.2.2, hx0, hx1, hx2, hx3] at this
        rw [this, qd_3, hk2, hk3, ht1, ht2, ht3, hap, hdf, hac, hn3]
      have hst := qS_step (n := N) (o := o) A (jqF p v c P M o A) hil
      rw [HOO.out.1, HOO.out.2.1, HOO.out.2.2, r0, r1, r2, r3] at hst
      have HST : Hid (((((lf N (qS o M A (jqF p v c P M o A) i)).set (o + i) n0).set (o1 + i) n1).set (o2 + i) n2).set (o3 + i) n3 = lf N (qS o M A (jqF p v c P M o A) (i + 1))) := hst
      have hM1 := HN.out.2.1
      have ne01 : ¬ o = o1 := by have := HOO.out.1; omega
      have ne10 : ¬ o1 = o := fun e => ne01 e.symm
      have ne23 : ¬ o2 = o3 := by have := HOO.out; omega
      have ne32 : ¬ o3 = o2 := fun e => ne23 e.symm
      have HNN : Hid (¬ o = o1 ∧ ¬ o1 = o ∧ ¬ o2 = o3 ∧ ¬ o3 = o2 ∧ o + i ≠ o2 + i ∧ o1 + i ≠ o2 + i ∧ o + i ≠ o3 + i ∧ o1 + i ≠ o3 + i) := by
        have := HOO.out
        exact ⟨ne01, ne10, ne23, ne32, by omega, by omega, by omega, by omega⟩
      have w1 : (i : Int) * (P : Int) = (k : Int) := by rw [← Int.natCast_mul, hk]
      have w2' : 2 * (k : Int) = (k2 : Int) := by omega
      have w3 : 3 * (k : Int) = (k3 : Int) := by omega
      have l4 : (k : Int) < (N : Int) := by omega
      have l5 : (k2 : Int) < (N : Int) := by omega
      have l6 : (k3 : Int) < (N : Int) := by omega
      have l7 : (i : Int) < (M : Int) := by omega
      have l8 : (N : Int) ≤ 4096 := by omega
      clear hst hl1 hl2 hl3 hk hk2 hk3 hx0 hx1 hx2 hx3 a0 a1 a2 a3 ht ht1 ht2 ht3 hev hod hap hdf hac hn0 hn1 hn2 hn3 r0 r1 r2 r3 s1 s2 s3 s4 s5 s6 s7 s8 y0 y1 y2 y3 ne01 ne10 ne23 ne32 hM1 hp j0 j1 j2 j3 C1 C2 hb0 hN4
      go_wp2
      go_quiet ((go_at_call 45; with_reducible first | exact AnsW.quiet0 T1 | exact AnsW.quiet T1))
      go_wp2
      obtain ⟨m1, rfl⟩ : ∃ x, x = nq := ⟨_, rfl⟩
      go_quiet ((go_at_call 45; with_reducible first | exact AnsW.quiet0 T2 | exact AnsW.quiet T2 | exact AnsW.quiet0 T3 | exact AnsW.quiet T3))
      clear d1 d2 d3 b0 b1 b2 b3 l4 l5 l6 T1 T2 T3
      go_wp2
      obtain ⟨m2, rfl⟩ : ∃ x, x = nq := ⟨_, rfl⟩
      go_quiet ((go_at_call 40; with_reducible first | exact AnsW.quiet0 A1 | exact AnsW.quiet A1 | exact AnsW.quiet0 A2 | exact AnsW.quiet A2))
      go_wp2
      obtain ⟨m3, rfl⟩ : ∃ x, x = nq := ⟨_, rfl⟩
      go_quiet ((first | (go_at_call 41; with_reducible first | exact AnsW.quiet0 S1 | exact AnsW.quiet S1 | exact AnsW.quiet0 S2 | exact AnsW.quiet S2) | (go_at_call 45; with_reducible first | exact AnsW.quiet0 T4 | exact AnsW.quiet T4)))
      clear S1 S2 A1 A2 T4 e00 e01 f00 f01 f02 f03
      obtain ⟨X, hX⟩ : ∃ X, ((((wr.drewN m1).drewN m2).drewN m3).drewN nq) = X := ⟨_, rfl⟩
      have hXB : Below wr.heap.size wr X := by rw [← hX]; exact bb (bb (bb (below_drewN _ _) (below_drewN _ _)) (below_drewN _ _)) (below_drewN _ _)
      have HOX : Hid (OwnU X W.heap.size (some ⟨g, 0, none⟩) C (lf N (qS o M A (jqF p v c P M o A) i))) := HO.out.below hXB
      have HKX : Hid (Kg g w2 X) := HK.out.trans (Kg.of hXB)
      rw [hX]
      clear hX hXB HO HK HWr
      have HAT : Hid (∀ Y, Kg g w2 Y → Y.cell? ⟨bo, 0, none⟩ = some (.pointer a) ∧ Y.cell? ⟨bp, 0, none⟩ = some (.slice (some ⟨g, o, none⟩) M c0) ∧ Y.cell? ⟨bp, 1, none⟩ = some (.slice (some ⟨g, o1, none⟩) M c1) ∧ Y.cell? ⟨bp, 2, none⟩ = some (.slice (some ⟨g, o2, none⟩) M c2) ∧ Y.cell? ⟨bp, 3, none⟩ = some (.slice (some ⟨g, o3, none⟩) M c3)) := fun Y hY => by
        have C1 := HC1.out.kg hY HNE.out.1
        have C2 := HC2.out.kg hY HNE.out.2
        exact ⟨C1.2 0 _ rfl, C2.2 0 _ rfl, C2.2 1 _ rfl, C2.2 2 _ rfl, C2.2 3 _ rfl⟩
      have HO3 : Hid (∀ Y, Below X.heap.size X Y → OwnU ((Y.setCell ⟨g, o + i, none⟩ (.int .u64 (n0 : Int))).setCell ⟨g, o1 + i, none⟩ (.int .u64 (n1 : Int))) W.heap.size (some ⟨g, 0, none⟩) C (((lf N (qS o M A (jqF p v c P M o A) i)).set (o + i) n0).set (o1 + i) n1) ∧ Kg g w2 ((Y.setCell ⟨g, o + i, none⟩ (.int .u64 (n0 : Int))).setCell ⟨g, o1 + i, none⟩ (.int .u64 (n1 : Int)))) := fun Y hY =>
        ⟨((HOX.out.below hY).set _ _).set _ _, (HKX.out.trans (Kg.of hY)).trans ((Kg.set _ _ _ _).trans (Kg.set _ _ _ _))⟩
      go_wp2
      go_cut [28] from 28 to 140 (fun cv wx => cv = .int .i64 (i : Int) ∧ OwnU wx W.heap.size (some ⟨g, 0, none⟩) C (((lf N (qS o M A (jqF p v c P M o A) i)).set (o + i) n0).set (o1 + i) n1) ∧ Kg g w2 wx)
      case first =>
        obtain ⟨e00, f00, f01, _⟩ := HAT.out X HKX.out
        obtain ⟨ne01, ne10, _⟩ := HNN.out
        have nb1 : ¬ bp = g := HNE.out.2
        have nb3 : ¬ bo = g := HNE.out.1
        have HKS : Hid (∀ (Y : World) (j : Nat) (u : Value), (fun Y => Y.cell? ⟨bo, 0, none⟩ = some (.pointer a) ∧ Y.cell? ⟨bp, 0, none⟩ = some (.slice (some ⟨g, o, none⟩) M c0) ∧ Y.cell? ⟨bp, 1, none⟩ = some (.slice (some ⟨g, o1, none⟩) M c1)) Y → (fun Y => Y.cell? ⟨bo, 0, none⟩ = some (.pointer a) ∧ Y.cell? ⟨bp, 0, none⟩ = some (.slice (some ⟨g, o, none⟩) M c0) ∧ Y.cell? ⟨bp, 1, none⟩ = some (.slice (some ⟨g, o1, none⟩) M c1)) (Y.setCell ⟨g, j, none⟩ u)) := fun Y j u h => ⟨World.grownBy.cell (Kg.set g j Y u) h.1 (fun e => nb3 (by cases e; rfl)), World.grownBy.cell (Kg.set g j Y u) h.2.1 (fun e => nb1 (by cases e; rfl)), World.grownBy.cell (Kg.set g j Y u) h.2.2 (fun e => nb1 (by cases e; rfl))⟩
        have HXY : Hid (∀ Y, Below X.heap.size X Y → (fun Y => Y.cell? ⟨bo, 0, none⟩ = some (.pointer a) ∧ Y.cell? ⟨bp, 0, none⟩ = some (.slice (some ⟨g, o, none⟩) M c0) ∧ Y.cell? ⟨bp, 1, none⟩ = some (.slice (some ⟨g, o1, none⟩) M c1)) Y) := fun Y hY => by
          obtain ⟨a0, a1, a2, _⟩ := HAT.out Y (HKX.out.trans (Kg.of hY))
          exact ⟨a0, a1, a2⟩
        have HXC : Hid (∀ Y, Below X.heap.size X Y → AnsW Y 40 #[.pointer a, .int .u64 (ap : Int), .int .u64 (ac : Int)] (.int .u64 (n1 : Int))) := fun Y hY => (HA34.out Y ((HKX.out.trans (Kg.of hY)).bel HW2.out HG.out)).2
        have HXF : Hid (∀ Y, Below X.heap.size X Y → (Y.cell? ⟨g, o + i, none⟩ = some (.int .u64 (x0 : Int)) ∧ Y.frozen? ⟨g, o + i, none⟩ = false) ∧ (Y.cell? ⟨g, o1 + i, none⟩ = some (.int .u64 (x1 : Int)) ∧ Y.frozen? ⟨g, o1 + i, none⟩ = false)) := fun Y hY => HOF.out Y (HOX.out.below hY)
        obtain ⟨A3d, _⟩ := HA34.out X.drew (bb (HKX.out.bel HW2.out HG.out) (below_drewN X 1))
        clear HAT HOF HOX HKX HA34 HNN HS34 HOG HST nb1 nb3 e00 f00 f01
        go_region_held3 (fun Y => Y.cell? ⟨bo, 0, none⟩ = some (.pointer a) ∧ Y.cell? ⟨bp, 0, none⟩ = some (.slice (some ⟨g, o, none⟩) M c0) ∧ Y.cell? ⟨bp, 1, none⟩ = some (.slice (some ⟨g, o1, none⟩) M c1)) (first | exact HXY.out _ (below_drewN X 1) | exact S1 | exact S2 | exact HKS.out _ _ _ S2 | exact HKS.out _ _ _ (HKS.out _ _ _ S2))
          ((first
            | (go_at_call 40; (with_reducible refine AnsW.useL A3d fun X1 hX1 => ?_); have hb1 := bu1 hX1; have S1 := HXY.out X1 hb1; have A4d := HXC.out X1 hb1)
            | (go_at_call 40; (with_reducible refine AnsW.useL A4d fun X2 hX2 => ?_); have hb2 := bb hb1 (bu2 hX2); have S2 := HXY.out X2 hb2; obtain ⟨⟨b0, z0⟩, b1, z1⟩ := HXF.out X2 hb2)))
        clear HXC HXF S1 A3d A4d hX1 hX2 ne01 ne10 b0 z0 b1 z1
        go_wp2
        go_meet
        case rel => exact ⟨rfl, HO3.out X2 hb2⟩
      case rest =>
        obtain ⟨rfl, hO4, hK4⟩ := hcut
        have HO4 : Hid (OwnU wc W.heap.size (some ⟨g, 0, none⟩) C (((lf N (qS o M A (jqF p v c P M o A) i)).set (o + i) n0).set (o1 + i) n1)) := hO4
        have HK4 : Hid (Kg g w2 wc) := hK4
        obtain ⟨_, _, ne01, ne10, _⟩ := HNN.out
        have nb1 : ¬ bp = g := HNE.out.2
        have nb3 : ¬ bo = g := HNE.out.1
        have HKS : Hid (∀ (Y : World) (j : Nat) (u : Value), (fun Y => Y.cell? ⟨bo, 0, none⟩ = some (.pointer a) ∧ Y.cell? ⟨bp, 2, none⟩ = some (.slice (some ⟨g, o2, none⟩) M c2) ∧ Y.cell? ⟨bp, 3, none⟩ = some (.slice (some ⟨g, o3, none⟩) M c3)) Y → (fun Y => Y.cell? ⟨bo, 0, none⟩ = some (.pointer a) ∧ Y.cell? ⟨bp, 2, none⟩ = some (.slice (some ⟨g, o2, none⟩) M c2) ∧ Y.cell? ⟨bp, 3, none⟩ = some (.slice (some ⟨g, o3, none⟩) M c3)) (Y.setCell ⟨g, j, none⟩ u)) := fun Y j u h => ⟨World.grownBy.cell (Kg.set g j Y u) h.1 (fun e => nb3 (by cases e; rfl)), World.grownBy.cell (Kg.set g j Y u) h.2.1 (fun e => nb1 (by cases e; rfl)), World.grownBy.cell (Kg.set g j Y u) h.2.2 (fun e => nb1 (by cases e; rfl))⟩
        have HXY : Hid (∀ Y, Below wc.heap.size wc Y → (fun Y => Y.cell? ⟨bo, 0, none⟩ = some (.pointer a) ∧ Y.cell? ⟨bp, 2, none⟩ = some (.slice (some ⟨g, o2, none⟩) M c2) ∧ Y.cell? ⟨bp, 3, none⟩ = some (.slice (some ⟨g, o3, none⟩) M c3)) Y) := fun Y hY => by
          obtain ⟨a0, _, _, a1, a2⟩ := HAT.out Y (HK4.out.trans (Kg.of hY))
          exact ⟨a0, a1, a2⟩
        have HXC : Hid (∀ Y, Below wc.heap.size wc Y → AnsW Y 41 #[.pointer a, .int .u64 (ap : Int), .int .u64 (ac : Int)] (.int .u64 (n3 : Int))) := fun Y hY => (HS34.out Y ((HK4.out.trans (Kg.of hY)).bel HW2.out HG.out)).2
        have HXF : Hid (∀ Y, Below wc.heap.size wc Y → (Y.cell? ⟨g, o2 + i, none⟩ = some (.int .u64 (x2 : Int)) ∧ Y.frozen? ⟨g, o2 + i, none⟩ = false) ∧ (Y.cell? ⟨g, o3 + i, none⟩ = some (.int .u64 (x3 : Int)) ∧ Y.frozen? ⟨g, o3 + i, none⟩ = false)) := fun Y hY => HOG.out Y n0 n1 (HO4.out.below hY)
        have HO5 : Hid (∀ Y, Below wc.heap.size wc Y → OwnU ((Y.setCell ⟨g, o2 + i, none⟩ (.int .u64 (n2 : Int))).setCell ⟨g, o3 + i, none⟩ (.int .u64 (n3 : Int))) W.heap.size (some ⟨g, 0, none⟩) C (lf N (qS o M A (jqF p v c P M o A) (i + 1))) ∧ Kg g w2 ((Y.setCell ⟨g, o2 + i, none⟩ (.int .u64 (n2 : Int))).setCell ⟨g, o3 + i, none⟩ (.int .u64 (n3 : Int)))) := fun Y hY => by
          rw [← HST.out]
          exact ⟨((HO4.out.below hY).set _ _).set _ _, (HK4.out.trans (Kg.of hY)).trans ((Kg.set _ _ _ _).trans (Kg.set _ _ _ _))⟩
        obtain ⟨A3d, _⟩ := HS34.out wc.drew (bb (HK4.out.bel HW2.out HG.out) (below_drewN wc 1))
        clear HAT HOF HOX HKX HA34 HNN HS34 HOG HST nb1 nb3 HO3 hO4 hK4 HO4 HK4
        go_wp2
        go_region_held3 (fun Y => Y.cell? ⟨bo, 0, none⟩ = some (.pointer a) ∧ Y.cell? ⟨bp, 2, none⟩ = some (.slice (some ⟨g, o2, none⟩) M c2) ∧ Y.cell? ⟨bp, 3, none⟩ = some (.slice (some ⟨g, o3, none⟩) M c3)) (first | exact HXY.out _ (below_drewN wc 1) | exact S1 | exact S2 | exact HKS.out _ _ _ S2 | exact HKS.out _ _ _ (HKS.out _ _ _ S2))
          ((first
            | (go_at_call 41; (with_reducible refine AnsW.useL A3d fun X1 hX1 => ?_); have hb1 := bu1 hX1; have S1 := HXY.out X1 hb1; have A4d := HXC.out X1 hb1)
            | (go_at_call 41; (with_reducible refine AnsW.useL A4d fun X2 hX2 => ?_); have hb2 := bb hb1 (bu2 hX2); have S2 := HXY.out X2 hb2; obtain ⟨⟨b0, z0⟩, b1, z1⟩ := HXF.out X2 hb2)))
        clear HXC HXF S1 A3d A4d hX1 hX2 ne01 ne10 b0 z0 b1 z1 w1 w2' w3
        have HO6 := HO5.out X2 hb2
        clear HO5 HKS HXY
        go_wp2
        go_roundw
        case rel => exact ⟨i + 1, by go_num, by omega, HO6.1, HO6.2⟩
        case measure => simp [intOf]; omega
    · obtain rfl : i = M := by omega
      have HO7 : Hid (OwnU wr W.heap.size (some ⟨g, 0, none⟩) C (lf N (jqF p v c P i o A))) := by
        unfold Hid
        rw [← lf_ext (f := qS o i A (jqF p v c P i o A) i) fun j _ => qS_all HN.out.2.1 (fun j h => by unfold jqF; rw [if_neg h]) j]
        exact HO.out
      have HK7 : Hid (Kg g w wr) := HK2.out.trans HK.out
      clear HO HK
      go_wp2
      first
        | go_end0
        | refine bodyPost_ret (results_none rfl _ _ _) rfl ?_
      exact ⟨rfl, HO7.out, HK7.out⟩
end Go.Proofs.YtehljcflodilhaaGreatDoor

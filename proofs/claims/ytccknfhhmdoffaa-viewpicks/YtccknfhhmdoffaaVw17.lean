/-
  What Dense answers: the error, or the view of all cells of a shape. No condition but that the row lies there, of at most 100 ints.
-/
import Derived.Test.YtccknfhhmdoffaaVw15
namespace Go.Proofs.Ytccknfhhmdoffaa
set_option linter.unusedVariables false
open Go.RowKit

set_option maxHeartbeats 1000000 in
theorem dense_err (W : World) (A : Option Addr) (C : Nat) (zs : List Int) (hD : ZAt W A C zs) (he : errV zs ≠ 0) :
    AnsB W 18 #[.slice A zs.length C] (.tuple #[vw0, .int .i64 (errV zs)]) := by
  intro w hw
  have HS := size_any W A C zs hD
  generalize sizeV zs = sv at *
  generalize errV zs = ev at *
  generalize zs.length = L at *
  unfold vw0
  have hB0 := below_alloc w (.cells #[.int .i64 0, .slice none 0 0, .slice none 0 0] 28)
  have b0 := Blk.new w 28 #[.int .i64 0, .slice none 0 0, .slice none 0 0]
  have hw0 := hw.trans (hB0.mono hw.size)
  obtain ⟨x0, x1, x2, z0, z1, z2⟩ := b0.three
  obtain ⟨V, hV⟩ : ∃ V, w.alloc (.cells #[.int .i64 0, .slice none 0 0, .slice none 0 0] 28) = V := ⟨_, rfl⟩
  rw [hV] at b0 hB0 hw0 x0 x1 x2 z0 z1 z2
  obtain ⟨Y, hY, ⟨y0, y1, y2⟩, kY⟩ := put_err b0 (Nat.le_refl _) hB0
  clear hD b0
  go_enter Try.func18, Try.ntmps18
  go_wp2_with (go_at_call 29; with_reducible refine AnsQ.use HS hw0 ?_)
  exact bodyPost_ret (v := .tuple #[.agg #[.int .i64 0, .slice none 0 0, .slice none 0 0], .int .i64 ev]) (by simp [results, Try.results18, go_sem, y0, y1, y2]) rfl ⟨rfl, kY⟩

theorem ZAt.other {w : World} {A : Option Addr} {C : Nat} {zs : List Int} (h : ZAt w A C zs) {B : Nat} (hne : ∀ g o, 0 < zs.length → A = some ⟨g, o, none⟩ → g ≠ B) (k : Nat) (v : Value) : ZAt (w.setCell ⟨B, k, none⟩ v) A C zs := by
  refine ⟨h.cap, h.max, fun i z hz => ?_⟩
  obtain ⟨b, o, hA, hl, c0, hk⟩ := h.get i z hz
  refine ⟨b, o, hA, by rw [World.size_setCell]; exact hl, ?_, hk⟩
  rw [← c0]
  exact World.cell?_of_block (Below.heap_setCell _ _ _ b (hne b o (by have := (List.getElem?_eq_some_iff.1 hz).1; omega) hA))

theorem dense_fin {w V w2 w3 : World} {t : TypeId} (hBV : Below w.heap.size w V) (b0 : Blk V w.heap.size t #[.int .i64 0, .slice none 0 0, .slice none 0 0]) (hb2 : Below V.heap.size V w2) (hb3 : Below w2.heap.size w2 w3) {A1 : Option Addr} {C1 b L : Nat} {pz ps : List Int} (o1 : OwnZ w2 V.heap.size A1 C1 pz) (hI : ∀ z ∈ pz, I64 z)
    (z3 : ZAt w3 (some ⟨b, 0, none⟩) L ps) (hl : ps.length = L) (hP : 0 < L → ∃ s : Nat, ps[0]? = some (s : Int) ∧ 1 ≤ s) :
    ∃ Y, ((w3.setCell ⟨w.heap.size, 0, none⟩ (.int .i64 0)).setCell ⟨w.heap.size, 1, none⟩ (.slice A1 L C1)).setCell ⟨w.heap.size, 2, none⟩ (.slice (some ⟨b, 0, none⟩) L L) = Y ∧
      Blk Y w.heap.size t #[.int .i64 0, .slice A1 L C1, .slice (some ⟨b, 0, none⟩) L L] ∧ ZAt Y A1 C1 pz ∧ ZAt Y (some ⟨b, 0, none⟩) L ps ∧ Below w.heap.size w Y := by
  have hlt := b0.lt
  have b3 := b0.below (bb hb2 hb3)
  have n1 : ∀ g o, 0 < pz.length → A1 = some ⟨g, o, none⟩ → g ≠ w.heap.size := fun g o _ e => by subst e; have := o1.base.1; omega
  have n2 : ∀ g o, 0 < ps.length → (some ⟨b, 0, none⟩ : Option Addr) = some ⟨g, o, none⟩ → g ≠ w.heap.size := fun g o h e => by
    cases e
    rw [hl] at h
    obtain ⟨s, hs, hs1⟩ := hP h
    obtain ⟨b', o', e, _, c0, _⟩ := z3.get 0 s hs
    cases e
    intro e
    subst e
    rw [b3.cell] at c0
    simp at c0
    omega
  have z1 := (o1.ints hI).below hb3
  refine ⟨_, rfl, ((b3.set 0 _).set 1 _).set 2 _, ((z1.other n1 0 _).other n1 1 _).other n1 2 _, ((z3.other n2 0 _).other n2 1 _).other n2 2 _, ?_⟩
  exact (((bthen hBV (Nat.le_refl _) (bb hb2 hb3)).setCell (p := ⟨w.heap.size, 0, none⟩) (Nat.le_refl _) _).setCell (p := ⟨w.heap.size, 1, none⟩) (Nat.le_refl _) _).setCell (p := ⟨w.heap.size, 2, none⟩) (Nat.le_refl _) _

set_option maxHeartbeats 1000000 in
theorem dense_ok (W : World) (A : Option Addr) (C : Nat) (ds : List Nat) (hS : Shp ds) (hD : ZAt W A C (ints ds)) :
    NewE W 18 #[.slice A ds.length C] 0 (ints ds) (strs ds) := by
  intro w hw
  have h4 := hS.few
  have HS := size_any W A C (ints ds) hD
  have HT := strides_any W A C ds hS hD
  have HC := clone_anyO W A C (ints ds) hD (by rw [ints_len]; omega)
  rw [ints_len, errV_shape hS] at HS
  generalize sizeV (ints ds) = sv at HS
  have hls : (strs ds).length = ds.length := by simp [strs]
  rw [ints_len, hls]
  rw [ints_len] at HC
  have HCu : ∀ {w : World}, Below W.heap.size W w → ∀ {R : Ending → World → Prop}, (∀ A' C' w', OwnZ w' w.heap.size A' C' (ints ds) → Below w.heap.size w w' → R (.returned (.slice A' ds.length C')) w') → Calls Try.prog 34 #[.slice A ds.length C] w R := fun {w} hw {R} K => by
    refine HC.use hw fun A' C' w' h1 h2 => ?_
    rw [ints_len]
    exact K A' C' w' h1 h2
  have HTu : ∀ {w : World}, Below W.heap.size W w → ∀ {R : Ending → World → Prop}, (∀ b w', ZAt w' (some ⟨b, 0, none⟩) ds.length (strs ds) → Below w.heap.size w w' → R (.returned (.slice (some ⟨b, 0, none⟩) ds.length ds.length)) w') → Calls Try.prog 35 #[.slice A ds.length C] w R := fun {w} hw {R} k => by
    refine (HT w hw).mono ?_
    rintro e w' ⟨b, rfl, hz, hb⟩
    exact k b w' hz hb
  have HI1 : Hid (∀ z ∈ ints ds, I64 z) := zat_i64 hD
  have HP : Hid (0 < ds.length → ∃ s : Nat, (strs ds)[0]? = some (s : Int) ∧ 1 ≤ s) := fun h => ⟨strd ds 0, by unfold strs; rw [List.getElem?_map, List.getElem?_range h]; rfl, strd_pos hS 0⟩
  obtain ⟨ps, hps⟩ : ∃ ps, strs ds = ps := ⟨_, rfl⟩
  rw [hps] at HTu HP hls ⊢
  obtain ⟨pz, hpz⟩ : ∃ pz, ints ds = pz := ⟨_, rfl⟩
  rw [hpz] at HI1 ⊢
  simp only [hpz] at HCu
  generalize ds.length = L at *
  have Hls : Hid (ps.length = L) := hls
  have hB0 := below_alloc w (.cells #[.int .i64 0, .slice none 0 0, .slice none 0 0] 28)
  have b0 := Blk.new w 28 #[.int .i64 0, .slice none 0 0, .slice none 0 0]
  have hw0 := hw.trans (hB0.mono hw.size)
  obtain ⟨V, hV⟩ : ∃ V, w.alloc (.cells #[.int .i64 0, .slice none 0 0, .slice none 0 0] 28) = V := ⟨_, rfl⟩
  rw [hV] at b0 hB0 hw0
  have B0 : Hid (Blk V w.heap.size 28 #[.int .i64 0, .slice none 0 0, .slice none 0 0]) := b0
  clear hD hS HC HT hps hpz hls b0 h4
  go_enter Try.func18, Try.ntmps18
  go_wp2_with (first
    | (go_at_call 29; with_reducible refine AnsQ.use HS hw0 ?_)
    | (go_at_call 34; refine HCu hw0 fun A1 C1 w2 o1 hb2 => ?_; have hw2 := hw0.trans (hb2.mono hw0.size))
    | (go_at_call 35; refine HTu hw2 fun b w3 z3 hb3 => ?_; have b3 := B0.out.below (bb hb2 hb3); obtain ⟨x0, x1, x2, f0, f1, f2⟩ := b3.three; obtain ⟨Y, hY, bY, K1, K2, K3⟩ := dense_fin hB0 B0.out hb2 hb3 o1 HI1.out z3 Hls.out HP.out; obtain ⟨y0, y1, y2, _⟩ := bY.three; clear b3 bY))
  exact bodyPost_ret (v := .tuple #[.agg #[.int .i64 0, .slice A1 L C1, .slice (some ⟨b, 0, none⟩) L L], .int .i64 0]) (by simp [results, Try.results18, go_sem, y0, y1, y2]) rfl ⟨_, _, _, _, rfl, K1, K2, K3⟩
end Go.Proofs.Ytccknfhhmdoffaa

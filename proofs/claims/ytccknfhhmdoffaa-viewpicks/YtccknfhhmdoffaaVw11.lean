/-
  What Permute of a view answers: an error, or the view with its axes in that order. No condition but that the rows lie there.
-/
import Derived.Test.YtccknfhhmdoffaaVw9
import Derived.Test.YtccknfhhmdoffaaVw10
namespace Go.Proofs.Ytccknfhhmdoffaa
set_option linter.unusedVariables false
open Go.RowKit

/-- A call that answers a new view, and no error. -/
def NewE (W : World) (f : FuncId) (args : Array Value) (o : Int) (zs ss : List Int) : Prop := ∀ w, Below W.heap.size W w → Calls Try.prog f args w fun e w' => ∃ A1 C1 A2 C2, e = .returned (.tuple #[vw o A1 zs.length C1 A2 ss.length C2, .int .i64 0]) ∧ ZAt w' A1 C1 zs ∧ ZAt w' A2 C2 ss ∧ Below w.heap.size w w'
theorem NewE.use {W : World} {f : FuncId} {args : Array Value} {o : Int} {zs ss : List Int} (h : NewE W f args o zs ss) {w : World} (hw : Below W.heap.size W w) {R : Ending → World → Prop} (k : ∀ A1 C1 A2 C2 w', ZAt w' A1 C1 zs → ZAt w' A2 C2 ss → Below w.heap.size w w' → R (.returned (.tuple #[.agg #[.int .i64 o, .slice A1 zs.length C1, .slice A2 ss.length C2], .int .i64 0])) w') : Calls Try.prog f args w R :=
  (h w hw).mono fun _ _ ⟨A1, C1, A2, C2, he, h1, h2, h3⟩ => by subst he; exact k _ _ _ _ _ h1 h2 h3
theorem NewE.on {W W' : World} {f : FuncId} {args : Array Value} {o : Int} {zs ss : List Int} (h : NewE W f args o zs ss) (hb : Below W.heap.size W W') : NewE W' f args o zs ss :=
  fun w hw => h w (hb.trans (hw.mono hb.size))

theorem Blk.three {W : World} {B : Nat} {t : TypeId} {x y z : Value} (h : Blk W B t #[x, y, z]) : W.cell? ⟨B, 0, none⟩ = some x ∧ W.cell? ⟨B, 1, none⟩ = some y ∧ W.cell? ⟨B, 2, none⟩ = some z ∧ W.frozen? ⟨B, 0, none⟩ = false ∧ W.frozen? ⟨B, 1, none⟩ = false ∧ W.frozen? ⟨B, 2, none⟩ = false :=
  ⟨h.cell 0, h.cell 1, h.cell 2, h.frozen 0, h.frozen 1, h.frozen 2⟩
/-- A result put down, and read. -/
theorem put_err {X w : World} {B : Nat} {t : TypeId} {x y z : Value} (bX : Blk X B t #[x, y, z]) (hB : w.heap.size ≤ B) (hX : Below w.heap.size w X) :
    ∃ Y, ((X.setCell ⟨B, 0, none⟩ (.int .i64 0)).setCell ⟨B, 1, none⟩ (.slice none 0 0)).setCell ⟨B, 2, none⟩ (.slice none 0 0) = Y ∧ (Y.cell? ⟨B, 0, none⟩ = some (.int .i64 0) ∧ Y.cell? ⟨B, 1, none⟩ = some (.slice none 0 0) ∧ Y.cell? ⟨B, 2, none⟩ = some (.slice none 0 0)) ∧ Below w.heap.size w Y := by
  have b : Blk _ B t #[.int .i64 0, .slice none 0 0, .slice none 0 0] := ((bX.set 0 _).set 1 _).set 2 _
  exact ⟨_, rfl, ⟨b.cell 0, b.cell 1, b.cell 2⟩, ((hX.setCell (p := ⟨B, 0, none⟩) hB _).setCell (p := ⟨B, 1, none⟩) hB _).setCell (p := ⟨B, 2, none⟩) hB _⟩
set_option maxHeartbeats 1000000 in
theorem permute_err (W : World) (o : Int) (A : Option Addr) (C : Nat) (A' : Option Addr) (C' : Nat) (zs ss : List Int) (hD : ZAt W A C zs) (hZ : ZAt W A' C' ss) (X : Option Addr) (N CX : Nat) (e : Int) (h : Chk o zs ss 4096 e) (he : e ≠ 0) :
    AnsB W 21 #[vw o A zs.length C A' ss.length C', .slice X N CX] (.tuple #[vw0, .int .i64 e]) := by
  intro w hw
  have HC := check_any W o A C A' C' zs ss hD hZ 4096 e h
  unfold vw vw0 at *
  generalize zs.length = L at *
  generalize ss.length = L' at *
  have hB0 : Below w.heap.size w ((w.alloc (.cells #[.int .i64 o, .slice A L C, .slice A' L' C'] 28)).alloc (.cells #[.int .i64 0, .slice none 0 0, .slice none 0 0] 28)) := bb (below_alloc _ _) (below_alloc _ _)
  have b1 := Blk.new (w.alloc (.cells #[.int .i64 o, .slice A L C, .slice A' L' C'] 28)) 28 #[.int .i64 0, .slice none 0 0, .slice none 0 0]
  rw [World.size_alloc] at b1
  have hw0 := hw.trans (hB0.mono hw.size)
  clear h hD hZ
  go_enter Try.func21, Try.ntmps21
  go_wp2_with (go_at_call 13; (with_reducible refine AnsB.use HC hw0 fun w2 hb2 => ?_); have b1' := b1.below hb2; obtain ⟨x0, x1, x2, z0, z1, z2⟩ := b1'.three; obtain ⟨Y, hY, ⟨y0, y1, y2⟩, kY⟩ := put_err b1' (Nat.le_succ _) (bb hB0 hb2); clear b1')
  exact bodyPost_ret (v := .tuple #[.agg #[.int .i64 0, .slice none 0 0, .slice none 0 0], .int .i64 e]) (by simp [results, Try.results21, go_sem, y0, y1, y2]) rfl ⟨rfl, kY⟩

set_option maxHeartbeats 1000000 in
theorem permute_axis (W : World) (o : Int) (A : Option Addr) (C : Nat) (A' : Option Addr) (C' : Nat) (zs ss : List Int) (hD : ZAt W A C zs) (hZ : ZAt W A' C' ss) (h : Chk o zs ss 4096 0) (X : Option Addr) (CX : Nat) (xs : List Int) (hX : ZAt W X CX xs) (hn : eoB zs.length xs = false) :
    AnsB W 21 #[vw o A zs.length C A' ss.length C', .slice X xs.length CX] (.tuple #[vw0, .int .i64 10]) := by
  intro w hw
  have HC := check_any W o A C A' C' zs ss hD hZ 4096 0 h
  have HE := eachOnce_any W o A zs.length C A' ss.length C' X CX xs hX
  rw [hn] at HE
  unfold vw vw0 at *
  generalize zs.length = L at *
  generalize ss.length = L' at *
  generalize xs.length = N at *
  have hB0 : Below w.heap.size w ((w.alloc (.cells #[.int .i64 o, .slice A L C, .slice A' L' C'] 28)).alloc (.cells #[.int .i64 0, .slice none 0 0, .slice none 0 0] 28)) := bb (below_alloc _ _) (below_alloc _ _)
  have b0 := (Blk.new w 28 #[.int .i64 o, .slice A L C, .slice A' L' C']).alloc (.cells #[.int .i64 0, .slice none 0 0, .slice none 0 0] 28)
  have b1 := Blk.new (w.alloc (.cells #[.int .i64 o, .slice A L C, .slice A' L' C'] 28)) 28 #[.int .i64 0, .slice none 0 0, .slice none 0 0]
  rw [World.size_alloc] at b1
  have hw0 := hw.trans (hB0.mono hw.size)
  clear h hD hZ hX hn
  go_enter Try.func21, Try.ntmps21
  go_wp2_with (first
    | (go_at_call 13; (with_reducible refine AnsB.use HC hw0 fun w2 hb2 => ?_); have hw2 := hw0.trans (hb2.mono hw0.size); obtain ⟨v0, v1, v2, _⟩ := (b0.below hb2).three)
    | (go_at_call 36; (with_reducible refine AnsB.use HE hw2 fun w3 hb3 => ?_); have b1' := (b1.below hb2).below hb3; obtain ⟨x0, x1, x2, z0, z1, z2⟩ := b1'.three; obtain ⟨Y, hY, ⟨y0, y1, y2⟩, kY⟩ := put_err b1' (Nat.le_succ _) (bb (bb hB0 hb2) hb3); clear b1'))
  exact bodyPost_ret (v := .tuple #[.agg #[.int .i64 0, .slice none 0 0, .slice none 0 0], .int .i64 10]) (by simp [results, Try.results21, go_sem, y0, y1, y2]) rfl ⟨rfl, kY⟩

/-! ### .. in another order -/
def pmZ (ds : List Nat) (xs : List Int) : List Nat := xs.map fun x => ln ds x.toNat
def pmS (ss : List Int) (xs : List Int) : List Int := xs.map fun x => sg ss x.toNat
/-- The first so many of the one, behind them those of the other. -/
def mx (a b : List Int) (k : Nat) : List Int := a.take k ++ b.drop k
theorem mx_zero (a b : List Int) : mx a b 0 = b := by simp [mx]
theorem mx_all {a b : List Int} (h : b.length ≤ a.length) : mx a b a.length = a := by simp [mx, List.drop_eq_nil_of_le h]
theorem mx_len {a b : List Int} {k : Nat} (h : a.length = b.length) (hk : k ≤ a.length) : (mx a b k).length = a.length := by simp [mx]; omega
theorem mx_at {a b : List Int} {k : Nat} (h : a.length = b.length) (hk : k < a.length) : ∃ x, (mx a b k)[k]? = some x := ⟨_, List.getElem?_eq_getElem (by rw [mx_len h (by omega)]; exact hk)⟩
theorem mx_next {a b : List Int} {k : Nat} {x : Int} (h : a.length = b.length) (hx : a[k]? = some x) : (mx a b k).set k x = mx a b (k + 1) := by
  have hk : k < a.length := (List.getElem?_eq_some_iff.1 hx).1
  apply List.ext_getElem?
  intro i
  rw [List.getElem?_set]
  have hm := mx_len h (k := k) (by omega)
  by_cases hi : k = i
  · subst hi
    rw [if_pos rfl, if_pos (by omega)]
    unfold mx
    rw [List.getElem?_append_left (by simp; omega), List.getElem?_take, if_pos (by omega), hx]
  · rw [if_neg hi]
    unfold mx
    by_cases hlt : i < k
    · rw [List.getElem?_append_left (by simp; omega), List.getElem?_append_left (by simp; omega), List.getElem?_take, List.getElem?_take, if_pos hlt, if_pos (by omega)]
    · rw [List.getElem?_append_right (by simp; omega), List.getElem?_append_right (by simp; omega), List.getElem?_drop, List.getElem?_drop]
      simp only [List.length_take]
      congr 1
      omega
theorem eo_get {L : Nat} {xs : List Int} (h : eoB L xs = true) {k : Nat} {x : Int} (hx : xs[k]? = some x) : ∃ j : Nat, x = j ∧ j < L := by
  simp only [eoB, decide_eq_true_eq] at h
  have := h.2.1 x (List.mem_of_getElem? hx)
  simp [axB] at this
  exact ⟨x.toNat, by omega, by omega⟩
theorem pm_get {α : Type} {f : Int → α} {xs : List Int} {k j : Nat} (hx : xs[k]? = some (j : Int)) : (xs.map f)[k]? = some (f j) := by rw [List.getElem?_map, hx]; rfl
end Go.Proofs.Ytccknfhhmdoffaa

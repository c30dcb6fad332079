/-
  What digits.Order answers. No condition but that the rows lie there.
-/
import Derived.Test.YtgmjbagomfegeaaDg6
namespace Go.Proofs.Ytgmjbagomfegeaa
set_option linter.unusedVariables false
open Go.RowKit

theorem ret_slice {A : Option Addr} {n C : Nat} {a c : Int} (h : a = c) : Ending.returned (.tuple #[.slice A n C, .int .i64 a]) = .returned (.tuple #[.slice A n C, .int .i64 c]) := by rw [h]
/-- The list so far: places whose numbers, turned back, are below k, are filled. -/
def og (rs : List Nat) (n k : Nat) (g : Nat → Nat) : List Nat := (List.range n).map fun p => if tn rs.reverse p < k then g (tn rs.reverse p) else 0
theorem og_len (rs : List Nat) (n k : Nat) (g : Nat → Nat) : (og rs n k g).length = n := by simp [og]
theorem og_get (rs : List Nat) {n k p : Nat} (g : Nat → Nat) (h : p < n) : (og rs n k g)[p]? = some (if tn rs.reverse p < k then g (tn rs.reverse p) else 0) := by
  unfold og; rw [List.getElem?_map, List.getElem?_range h]; rfl
theorem og_zero (rs : List Nat) (n : Nat) (g : Nat → Nat) : og rs n 0 g = List.replicate n 0 := by
  apply List.ext_getElem?
  intro j
  by_cases h : j < n
  · rw [og_get rs g h, List.getElem?_replicate, if_pos h, if_neg (by omega)]
  · rw [List.getElem?_eq_none (by rw [og_len]; omega), List.getElem?_eq_none (by simp; omega)]
theorem Rad.forth {rs : List Nat} (h : Rad rs) {p : Nat} (hp : p < pr rs) : Proofs.Ytgmjbagomfegeaa.tn rs (Proofs.Ytgmjbagomfegeaa.tn rs.reverse p) = p := by
  have := h.rev.back (i := p) (by rw [pr_reverse]; exact hp)
  rw [List.reverse_reverse] at this
  exact this
theorem og_set {rs : List Nat} (hR : Rad rs) {k : Nat} (hk : k < pr rs) (g : Nat → Nat) : (og rs (pr rs) k g).set (tn rs k) (g k) = og rs (pr rs) (k + 1) g := by
  apply List.ext_getElem?
  intro p
  rw [List.getElem?_set, og_len]
  have ht := hR.tn k
  by_cases h : p < pr rs
  · rw [og_get rs g h, og_get rs g h]
    by_cases e : tn rs k = p
    · subst e
      rw [if_pos rfl, if_pos h, hR.back hk, if_pos (by omega)]
    · rw [if_neg e]
      have hne : tn rs.reverse p ≠ k := fun e' => e (by rw [← e']; exact hR.forth h)
      by_cases h2 : tn rs.reverse p < k
      · rw [if_pos h2, if_pos (by omega)]
      · rw [if_neg h2, if_neg (by omega)]
  · rw [if_neg (by omega), List.getElem?_eq_none (by rw [og_len]; omega), List.getElem?_eq_none (by rw [og_len]; omega)]
/-- The list in order. -/
def ord (rs xs : List Nat) : List Nat := (List.range (pr rs)).map fun p => xs.getD (tn rs.reverse p) 0
theorem ord_len (rs xs : List Nat) : (ord rs xs).length = pr rs := by simp [ord]
theorem og_all {rs : List Nat} (hR : Rad rs) (xs : List Nat) : og rs (pr rs) (pr rs) (fun j => xs.getD j 0) = ord rs xs := by
  unfold og ord
  apply List.map_congr_left
  intro p hp
  have := hR.rev.tn p
  rw [pr_reverse] at this
  rw [if_pos this]
theorem ord_get {rs xs : List Nat} {p : Nat} (h : p < pr rs) : (ord rs xs)[p]? = some (xs.getD (tn rs.reverse p) 0) := by
  unfold ord; rw [List.getElem?_map, List.getElem?_range h]; rfl
theorem ord_at {rs xs : List Nat} (hR : Rad rs) (hl : xs.length = pr rs) {i x : Nat} (hx : xs[i]? = some x) : (ord rs xs)[tn rs i]? = some x := by
  have hi : i < pr rs := by rw [← hl]; exact (List.getElem?_eq_some_iff.1 hx).1
  rw [ord_get (hR.tn i), hR.back hi, List.getD_eq_getElem?_getD, hx]; rfl
theorem ord_back {rs xs : List Nat} (hR : Rad rs) (hl : xs.length = pr rs) : ord rs.reverse (ord rs xs) = xs := by
  apply List.ext_getElem?
  intro p
  by_cases hp : p < pr rs
  · obtain ⟨x, hx⟩ : ∃ x, xs[p]? = some x := ⟨_, List.getElem?_eq_getElem (by omega)⟩
    rw [ord_get (by rw [pr_reverse]; exact hp), List.reverse_reverse, List.getD_eq_getElem?_getD, ord_at hR hl hx, hx]; rfl
  · rw [List.getElem?_eq_none (by rw [ord_len, pr_reverse]; omega), List.getElem?_eq_none (by omega)]
theorem ord_small {rs xs : List Nat} (h : ∀ x ∈ xs, x < 18446744073709551616) : ∀ x ∈ ord rs xs, x < 18446744073709551616 := fun x hx => by
  obtain ⟨p, _, rfl⟩ := List.mem_map.1 hx
  rw [List.getD_eq_getElem?_getD]
  cases e : xs[tn rs.reverse p]? with
  | none => simp
  | some y => exact h y (List.mem_of_getElem? e)

theorem order_err (W : World) (A : Option Addr) (C : Nat) (xs : List Nat) (B : Option Addr) (D : Nat) (zs : List Int) (hZ : ZAt W B D zs) (he : rE zs ≠ 0) : AnsQ W 15 #[.slice A xs.length C, .slice B zs.length D] (.tuple #[.slice none 0 0, .int .i64 (rE zs)]) := by
  intro w hw
  have HS := size_any W B D zs hZ
  generalize rS zs = s at HS
  generalize rE zs = e at HS he ⊢
  generalize zs.length = L at HS ⊢
  generalize xs.length = M at HS ⊢
  clear hZ
  have h1 : ¬ e = 0 := he
  go_enter Try.func15, Try.ntmps15
  go_wp2_with (go_at_call 9; with_reducible refine AnsQ.use HS hw ?_)
  go_ret2
  exact ⟨rfl, rfl⟩
theorem order_len (W : World) (A : Option Addr) (C : Nat) (xs : List Nat) (B : Option Addr) (D : Nat) (zs : List Int) (hZ : ZAt W B D zs) (he : rE zs = 0) (hn : (xs.length : Int) ≠ rS zs) : AnsQ W 15 #[.slice A xs.length C, .slice B zs.length D] (.tuple #[.slice none 0 0, .int .i64 1]) := by
  intro w hw
  have HS := size_any W B D zs hZ
  rw [he] at HS
  generalize rS zs = s at HS hn
  generalize zs.length = L at HS ⊢
  generalize xs.length = M at HS hn ⊢
  clear hZ he
  have h1 : ¬ (M : Int) = s := hn
  go_enter Try.func15, Try.ntmps15
  go_wp2_with (go_at_call 9; with_reducible refine AnsQ.use HS hw ?_)
  go_ret2
  exact ⟨rfl, rfl⟩
/-- A call that answers a new row of words, and no error. -/
def NewU (W : World) (f : FuncId) (args : Array Value) (l : List Nat) : Prop := ∀ w, Below W.heap.size W w → Calls Try.prog f args w fun e w' => ∃ A1 C1, e = .returned (.tuple #[.slice A1 l.length C1, .int .i64 0]) ∧ UAt w' A1 C1 l ∧ Below w.heap.size w w'
theorem NewU.use {W : World} {f : FuncId} {args : Array Value} {l : List Nat} (h : NewU W f args l) {w : World} (hw : Below W.heap.size W w) {R : Ending → World → Prop} (k : ∀ A1 C1 w', UAt w' A1 C1 l → Below w.heap.size w w' → R (.returned (.tuple #[.slice A1 l.length C1, .int .i64 0])) w') : Calls Try.prog f args w R :=
  (h w hw).mono fun _ _ ⟨A', C', he, h1, h2⟩ => by subst he; exact k _ _ _ h1 h2
set_option maxHeartbeats 1000000 in
theorem order_yes (W : World) (A : Option Addr) (C : Nat) (xs : List Nat) (B : Option Addr) (D : Nat) (rs : List Nat) (hX : UAt W A C xs) (hZ : ZAt W B D (ints rs)) (hR : Rad rs) (hl : xs.length = pr rs) : NewU W 15 #[.slice A xs.length C, .slice B rs.length D] (ord rs xs) := by
  intro w hw
  obtain ⟨ii, hii, hzi, hsi, hbi⟩ := info_parts infoU
  have HS := size_any W B D (ints rs) hZ
  have HT := fun (j : Nat) (hj : j < pr rs) => turned_any W B D rs hZ hR j (by have := hR.max; omega)
  rw [(r_rad hR).1, (r_rad hR).2, ints_len] at HS
  have hmax := hR.max
  have HTl := ord_len rs xs
  have HF : Hid (ord rs xs = og rs (pr rs) (pr rs) fun j => xs.getD j 0) := (og_all hR xs).symm
  have HI : Hid (∀ x ∈ ord rs xs, x < 18446744073709551616) := ord_small hX.small
  have HSet := fun k (hk : k < pr rs) => og_set hR hk fun j => xs.getD j 0
  have HTn := fun k (hk : k < pr rs) => hR.tn k
  have HX : Hid (∀ (i x : Nat), xs[i]? = some x → xs.getD i 0 = x) := fun i x hx => by rw [List.getD_eq_getElem?_getD, hx]; rfl
  obtain ⟨g, hg⟩ : ∃ g : Nat → Nat, (fun j => xs.getD j 0) = g := ⟨_, rfl⟩
  have hgg : ∀ j, xs.getD j 0 = g j := fun j => congrFun hg j
  simp only [hgg] at HX HSet HF
  have HS0 := og_zero rs (pr rs) g
  have HGe := fun k p (h : p < pr rs) => og_get rs (k := k) g h
  obtain ⟨og', hog⟩ : ∃ og' : Nat → List Nat, (fun k => og rs (pr rs) k g) = og' := ⟨_, rfl⟩
  have hoo : ∀ k, og rs (pr rs) k g = og' k := fun k => congrFun hog k
  have HOl : Hid (∀ k, (og' k).length = pr rs) := fun k => by rw [← hoo, og_len]
  simp only [hoo] at HSet HF HS0 HGe
  obtain ⟨n, hn⟩ : ∃ n, pr rs = n := ⟨_, rfl⟩
  simp only [hn] at HS hmax HTl HF HT HSet HTn HS0 HGe HOl hl
  obtain ⟨L, hL⟩ : ∃ L, rs.length = L := ⟨_, rfl⟩
  rw [hL] at HS ⊢
  simp only [hL] at HT
  rw [HTl]
  obtain ⟨f, hf⟩ : ∃ f : Nat → Nat, (fun j => tn rs j) = f := ⟨_, rfl⟩
  have hft : ∀ j, tn rs j = f j := fun j => congrFun hf j
  simp only [hft] at HT HSet HTn
  have HXl : Hid (xs.length = n) := hl
  rw [hl]
  have HM : Hid (n ≤ 4096) := hmax
  have hlen : (n : Int) ≤ 9223372036854775807 := by omega
  have HSet' : Hid (∀ k, k < n → (og' k).set (f k) (g k) = og' (k + 1)) := HSet
  have HGe' : Hid (∀ k p, p < n → ∃ x : Nat, (og' k)[p]? = some x) := fun k p h => ⟨_, HGe k p h⟩
  have HS0' : Hid (og' 0 = List.replicate n 0) := HS0
  clear hZ hR hn hL HTl hf hft hmax hg hgg hog hoo HSet HGe HS0 hl
  go_enter Try.func15, Try.ntmps15
  go_wp2_with (first
    | (go_at_call 9; with_reducible refine AnsQ.use HS hw ?_)
    | (at_make; refine Hid.out ?_))
  unfold Hid
  refine wpList_make_full _ rfl _ _ 34 rfl w.heap.size 38 ii _ 1 Try.underlying34 hii hzi hsi .i64 .i64 (n : Int) (n : Int) n rfl rfl rfl rfl (by have := HM.out; rw [hbi]; omega) (by have := HM.out; unfold maxLen; omega) (Nat.le_refl _) ?_
  intro w1 hR hG1
  have hR1 : w1.ownsRow w.heap.size 38 1 (.slice (some ⟨w.heap.size, 0, none⟩) n n) n (ucells (og' 0)) := by
    have e : (madeCells (Value.int .u64 0).cells (n * 1)).toList = ucells (og' 0) := by
      rw [made_list rfl, HS0'.out]; simp [ucells]
    rw [← e]; exact hR
  have hB1 : Below w.heap.size w w1 := (Below.refl _ _).grown hG1 (Nat.le_refl _) (fun k ek => by cases ek)
  obtain ⟨gc, hgc⟩ : ∃ gc, w.heap.size = gc := ⟨_, rfl⟩
  have HGC : Hid (w.heap.size = gc) := hgc
  rw [show (Value.slice (some ⟨w.heap.size, 0, none⟩) n n) = .slice (some ⟨gc, 0, none⟩) n n by rw [hgc]] at hR1
  have HR2 : Hid (w1.ownsRow w.heap.size 38 1 (.slice (some ⟨gc, 0, none⟩) n n) n (ucells (og' 0))) := hR1
  rw [hgc]
  clear hR hR1 hG1 hgc HS HS0'
  go_wp2
  go_loopw [27] (fun v wr => ∃ k : Nat, v = .int .i64 (k : Int) ∧ k ≤ n ∧ Hid (wr.ownsRow w.heap.size 38 1 (.slice (some ⟨gc, 0, none⟩) n n) n (ucells (og' k))) ∧ Below w.heap.size w wr) (fun v _ => n - (intOf v).toNat)
  case atStart => exact ⟨0, rfl, by omega, HR2, hB1⟩
  case round =>
    clear HR2 hB1
    obtain ⟨k, rfl, hk, HO, hB⟩ := hrel
    by_cases hlt : k < n
    · obtain ⟨x, hx⟩ : ∃ x, xs[k]? = some x := ⟨_, List.getElem?_eq_getElem (by rw [HXl.out]; exact hlt)⟩
      obtain ⟨b, o, rfl, hb, c0, _⟩ := hX.get k x hx
      have hwB := hw.trans (hB.mono hw.size)
      have c0' := ((bcell hwB).1 b (o + k) hb).trans c0
      have hgx := HX.out k x hx
      have hfk := HTn k hlt
      obtain ⟨y, hy⟩ := HGe'.out k (f k) hfk
      have HC := HT k hlt
      have hsk := HSet'.out k hlt
      obtain ⟨p, hp⟩ : ∃ p, f k = p := ⟨_, rfl⟩
      rw [hp] at hfk hy HC hsk
      rw [hgx] at hsk
      have hck : wr.cell? ⟨gc, p, none⟩ = some (.int .u64 (y : Int)) := (World.ownsRow.cellAt HO.out p (by omega)).trans (ucells_get hy)
      have hfz : wr.frozen? ⟨gc, p, none⟩ = false := World.ownsRow.frozenAt HO.out p
      obtain ⟨hO3, hG3⟩ := World.ownsRow.stored HO.out p (.int .u64 (x : Int))
      have HO3 : Hid ((wr.setCell ⟨gc, p, none⟩ (.int .u64 (x : Int))).ownsRow w.heap.size 38 1 (.slice (some ⟨gc, 0, none⟩) n n) n (ucells (og' (k + 1)))) := by
        unfold Hid
        rw [← hsk, ucells_set]; exact hO3
      have HB3 : Hid (Below w.heap.size w (wr.setCell ⟨gc, p, none⟩ (.int .u64 (x : Int)))) := hB.setCell (p := ⟨gc, p, none⟩) (by rw [HGC.out]; exact Nat.le_refl _) _
      clear hO3 hG3 HO hy hx c0 hgx hsk hp HT HTn
      go_wp2_with (go_at_call 23; with_reducible refine AnsQ.use HC hwB ?_)
      go_roundw
      case rel => exact ⟨k + 1, by go_num, by omega, HO3, HB3.out⟩
      case measure => simp [intOf]; omega
    · obtain rfl : k = n := by omega
      have HO4 : Hid (OwnU wr w.heap.size (some ⟨gc, 0, none⟩) k (ord rs xs)) := by
        unfold Hid OwnU; rw [HF.out, HOl.out]; exact HO.out
      have hz := HO4.out.words HI.out
      clear HO HO4 HTn HT
      go_wp2
      go_ret2
      exact ⟨_, _, rfl, hz, hB⟩
end Go.Proofs.Ytgmjbagomfegeaa

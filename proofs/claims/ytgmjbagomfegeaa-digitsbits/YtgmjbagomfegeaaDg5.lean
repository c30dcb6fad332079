/-
  What digits.Table answers: a new row. No condition but that the row lies there.
-/
import Derived.Test.YtgmjbagomfegeaaDg4
namespace Go.Proofs.Ytgmjbagomfegeaa
set_option linter.unusedVariables false
open Go.RowKit

/-- The first k of n, the others as they are made. -/
def fl {α : Type} (d : α) (n k : Nat) (f : Nat → α) : List α := (List.range n).map fun j => if j < k then f j else d
theorem fl_len {α : Type} (d : α) (n k : Nat) (f : Nat → α) : (fl d n k f).length = n := by simp [fl]
theorem fl_get {α : Type} (d : α) {n k j : Nat} (f : Nat → α) (h : j < n) : (fl d n k f)[j]? = some (if j < k then f j else d) := by
  unfold fl; rw [List.getElem?_map, List.getElem?_range h]; rfl
theorem fl_zero {α : Type} (d : α) (n : Nat) (f : Nat → α) : fl d n 0 f = List.replicate n d := by
  apply List.ext_getElem?
  intro j
  by_cases h : j < n
  · rw [fl_get d f h, List.getElem?_replicate, if_pos h, if_neg (by omega)]
  · rw [List.getElem?_eq_none (by rw [fl_len]; omega), List.getElem?_eq_none (by simp; omega)]
theorem fl_set {α : Type} (d : α) (n k : Nat) (f : Nat → α) : (fl d n k f).set k (f k) = fl d n (k + 1) f := by
  apply List.ext_getElem?
  intro j
  rw [List.getElem?_set]
  by_cases h : j < n
  · rw [fl_get d f h, fl_get d f h, fl_len]
    by_cases e : k = j
    · subst e; rw [if_pos rfl, if_pos h, if_pos (by omega)]
    · rw [if_neg e]
      by_cases h2 : j < k
      · rw [if_pos h2, if_pos (by omega)]
      · rw [if_neg h2, if_neg (by omega)]
  · rw [List.getElem?_eq_none (by rw [fl_len]; omega), List.getElem?_eq_none (by rw [fl_len]; omega), fl_len]
    by_cases e : k = j
    · rw [if_pos e, if_neg (by omega)]
    · rw [if_neg e]
theorem fl_all {α : Type} (d : α) (n : Nat) (f : Nat → α) : fl d n n f = (List.range n).map f := by
  unfold fl
  apply List.map_congr_left
  intro j hj
  rw [if_pos (List.mem_range.1 hj)]
def tbl (rs : List Nat) : List Int := (List.range (pr rs)).map fun j => (tn rs j : Int)
theorem tbl_get {rs : List Nat} {j : Nat} (h : j < pr rs) : (tbl rs)[j]? = some (tn rs j : Int) := by
  unfold tbl; rw [List.getElem?_map, List.getElem?_range h]; rfl
theorem tbl_len (rs : List Nat) : (tbl rs).length = pr rs := by simp [tbl]
theorem made_list {d : Value} (h : d.cells = #[d]) (n : Nat) : (madeCells d.cells (n * 1)).toList = List.replicate n d := by
  rw [Nat.mul_one, h, toList_madeCells_one]

theorem table_no (W : World) (A : Option Addr) (C : Nat) (zs : List Int) (hZ : ZAt W A C zs) (he : rE zs ≠ 0) : NewRow W 12 #[.slice A zs.length C] [] := by
  intro w hw
  obtain ⟨ii, hii, hzi, hsi, hbi⟩ := info_parts infoZ
  have HS := size_any W A C zs hZ
  rw [r_not he] at HS
  generalize rE zs = e at HS he
  generalize zs.length = L at HS ⊢
  clear hZ he
  go_enter Try.func12, Try.ntmps12
  go_wp2_with (first
    | (go_at_call 9; with_reducible refine AnsQ.use HS hw ?_)
    | (at_make; refine Hid.out ?_))
  unfold Hid
  refine wpList_make_full _ rfl _ _ 22 rfl w.heap.size 3 ii _ 1 Try.underlying22 hii hzi hsi .i64 .i64 0 0 0 rfl rfl rfl rfl (by omega) (by unfold maxLen; omega) (Nat.le_refl _) ?_
  intro w1 hR hG1
  have hB1 : Below w.heap.size w w1 := (Below.refl _ _).grown hG1 (Nat.le_refl _) (fun k ek => by cases ek)
  have HR : Hid (ZAt w1 (some ⟨w.heap.size, 0, none⟩) 0 []) := ⟨by simp, by unfold maxLen; omega, fun i z h => by simp at h⟩
  clear hR hG1
  go_wp2
  go_loopw [16] (fun v wr => v = .int .i64 0 ∧ wr = w1) (fun v _ => 0)
  case atStart => exact ⟨rfl, rfl⟩
  case round =>
    obtain ⟨rfl, rfl⟩ := hrel
    go_wp2
    go_ret
    exact ⟨_, _, rfl, HR.out, hB1⟩
set_option maxHeartbeats 1000000 in
theorem table_yes (W : World) (A : Option Addr) (C : Nat) (rs : List Nat) (hZ : ZAt W A C (ints rs)) (hR : Rad rs) : NewRow W 12 #[.slice A rs.length C] (tbl rs) := by
  intro w hw
  obtain ⟨ii, hii, hzi, hsi, hbi⟩ := info_parts infoZ
  have HS := size_any W A C (ints rs) hZ
  have HT := fun (j : Nat) (hj : j < pr rs) => turned_any W A C rs hZ hR j (by have := hR.max; omega)
  rw [(r_rad hR).1, (r_rad hR).2, ints_len] at HS
  have hmax := hR.max
  have HTl := tbl_len rs
  have HF : Hid (tbl rs = fl 0 (pr rs) (pr rs) fun j => (tn rs j : Int)) := by unfold Hid tbl; rw [fl_all]
  have HI : Hid (∀ z ∈ tbl rs, I64 z) := fun z hz => by
    obtain ⟨j, hj, rfl⟩ := List.mem_map.1 hz
    have := hR.tn j
    exact i64_small (by omega)
  obtain ⟨n, hn⟩ : ∃ n, pr rs = n := ⟨_, rfl⟩
  rw [hn] at HS hmax HTl HF
  simp only [hn] at HT
  obtain ⟨L, hL⟩ : ∃ L, rs.length = L := ⟨_, rfl⟩
  rw [hL] at HS ⊢
  simp only [hL] at HT
  rw [HTl]
  obtain ⟨f, hf⟩ : ∃ f : Nat → Int, (fun j => (tn rs j : Int)) = f := ⟨_, rfl⟩
  have hft : ∀ j, (tn rs j : Int) = f j := fun j => congrFun hf j
  simp only [hft] at HT
  rw [hf] at HF
  have HM : Hid (n ≤ 4096) := hmax
  have hlen : (n : Int) ≤ 9223372036854775807 := by omega
  clear hZ hR hn hL HTl hf hft hmax
  go_enter Try.func12, Try.ntmps12
  go_wp2_with (first
    | (go_at_call 9; with_reducible refine AnsQ.use HS hw ?_)
    | (at_make; refine Hid.out ?_))
  unfold Hid
  refine wpList_make_full _ rfl _ _ 22 rfl w.heap.size 3 ii _ 1 Try.underlying22 hii hzi hsi .i64 .i64 (n : Int) (n : Int) n rfl rfl rfl rfl (by have := HM.out; rw [hbi]; omega) (by have := HM.out; unfold maxLen; omega) (Nat.le_refl _) ?_
  intro w1 hR hG1
  have hR1 : w1.ownsRow w.heap.size 3 1 (.slice (some ⟨w.heap.size, 0, none⟩) n n) n (zcells (fl 0 n 0 f)) := by
    have e : (madeCells (Value.int .i64 0).cells (n * 1)).toList = zcells (fl 0 n 0 f) := by
      rw [made_list rfl, fl_zero]; simp [zcells]
    rw [← e]; exact hR
  have hB1 : Below w.heap.size w w1 := (Below.refl _ _).grown hG1 (Nat.le_refl _) (fun k ek => by cases ek)
  obtain ⟨gc, hgc⟩ : ∃ gc, w.heap.size = gc := ⟨_, rfl⟩
  have HGC : Hid (w.heap.size = gc) := hgc
  rw [show (Value.slice (some ⟨w.heap.size, 0, none⟩) n n) = .slice (some ⟨gc, 0, none⟩) n n by rw [hgc]] at hR1
  have HR2 : Hid (w1.ownsRow w.heap.size 3 1 (.slice (some ⟨gc, 0, none⟩) n n) n (zcells (fl 0 n 0 f))) := hR1
  rw [hgc]
  clear hR hR1 hG1 hgc HS
  go_wp2
  go_loopw [16] (fun v wr => ∃ k : Nat, v = .int .i64 (k : Int) ∧ k ≤ n ∧ Hid (wr.ownsRow w.heap.size 3 1 (.slice (some ⟨gc, 0, none⟩) n n) n (zcells (fl 0 n k f))) ∧ Below w.heap.size w wr) (fun v _ => n - (intOf v).toNat)
  case atStart => exact ⟨0, rfl, by omega, HR2, hB1⟩
  case round =>
    clear HR2 hB1
    obtain ⟨k, rfl, hk, HO, hB⟩ := hrel
    by_cases hlt : k < n
    · have hck : wr.cell? ⟨gc, k, none⟩ = some (.int .i64 0) := (World.ownsRow.cellAt HO.out k (by omega)).trans (by unfold zcells; rw [List.getElem?_map, fl_get 0 f hlt, if_neg (by omega)]; rfl)
      have hfk : wr.frozen? ⟨gc, k, none⟩ = false := World.ownsRow.frozenAt HO.out k
      have HC := HT k hlt
      obtain ⟨hO3, hG3⟩ := World.ownsRow.stored HO.out k (.int .i64 (f k))
      have HO3 : Hid ((wr.setCell ⟨gc, k, none⟩ (.int .i64 (f k))).ownsRow w.heap.size 3 1 (.slice (some ⟨gc, 0, none⟩) n n) n (zcells (fl 0 n (k + 1) f))) := by
        unfold Hid
        rw [← fl_set]
        have e : zcells ((fl 0 n k f).set k (f k)) = (zcells (fl 0 n k f)).set k (.int .i64 (f k)) := by simp [zcells, List.map_set]
        rw [e]; exact hO3
      have hB3 : Below w.heap.size w (wr.setCell ⟨gc, k, none⟩ (.int .i64 (f k))) := hB.setCell (p := ⟨gc, k, none⟩) (by rw [HGC.out]; exact Nat.le_refl _) _
      have hwB := hw.trans (hB.mono hw.size)
      obtain ⟨y, hy⟩ : ∃ y, f k = y := ⟨_, rfl⟩
      rw [hy] at HC HO3 hB3
      have HB3 : Hid (Below w.heap.size w (wr.setCell ⟨gc, k, none⟩ (.int .i64 y))) := hB3
      clear hO3 hG3 HO hy hB3
      go_wp2_with (go_at_call 23; with_reducible refine AnsQ.use HC hwB ?_)
      go_roundw
      case rel => exact ⟨k + 1, by go_num, by omega, HO3, HB3.out⟩
      case measure => simp [intOf]; omega
    · obtain rfl : k = n := by omega
      have HO4 : Hid (wr.ownsRow w.heap.size 3 1 (.slice (some ⟨gc, 0, none⟩) k k) (tbl rs).length (zcells (tbl rs))) := by
        unfold Hid; rw [HF.out, fl_len]; exact HO.out
      obtain ⟨A1, C1, hv, hz⟩ := own_ints HO4.out HI.out
      have HV : Hid (Value.slice (some ⟨gc, 0, none⟩) k k = Value.slice A1 k C1) := by unfold Hid; rw [hv, HF.out, fl_len]
      clear HO HO4 hv
      go_wp2
      go_ret
      exact ⟨A1, C1, congrArg Ending.returned HV.out, hz, hB⟩
end Go.Proofs.Ytgmjbagomfegeaa

/-
  What shape.Number and the document's Is answer. No condition but that a shape lies there.
-/
import Derived.Test.YtfiblemandpfeaaSh1
import Derived.Test.YtfiblemandpfeaaSh3
namespace Go.Proofs.Ytfiblemandpfeaa
set_option linter.unusedVariables false
open Go.RowKit

/-- An index: four ints. -/
def ixV (p : Nat → Int) : Value := .agg #[.int .i64 (p 0), .int .i64 (p 1), .int .i64 (p 2), .int .i64 (p 3)]
def In (ds : List Nat) (p : Nat → Int) (j : Nat) : Prop := 0 ≤ p j ∧ p j < (ln ds j : Int)
theorem ret_ib {a b : Int} {c d : Bool} (h : a = b) (k : c = d) : Ending.returned (.tuple #[.int .i64 a, .bool c]) = .returned (.tuple #[.int .i64 b, .bool d]) := by rw [h, k]
theorem hor_congr {ds : List Nat} {i j : Nat → Nat} : ∀ k, (∀ m, m < k → i m = j m) → hor ds i k = hor ds j k
  | 0, _ => rfl
  | k + 1, h => by simp only [hor]; rw [hor_congr k fun m hm => h m (by omega), h k (by omega)]

theorem index_four (a b c d : Int) : (∀ w, (Instr.index 33 (.agg #[.int .i64 a, .int .i64 b, .int .i64 c, .int .i64 d]) (.int .i64 0)).run Try.prog w = .ok (.int .i64 a) w) ∧ (∀ w, (Instr.index 33 (.agg #[.int .i64 a, .int .i64 b, .int .i64 c, .int .i64 d]) (.int .i64 1)).run Try.prog w = .ok (.int .i64 b) w) ∧ (∀ w, (Instr.index 33 (.agg #[.int .i64 a, .int .i64 b, .int .i64 c, .int .i64 d]) (.int .i64 2)).run Try.prog w = .ok (.int .i64 c) w) ∧ (∀ w, (Instr.index 33 (.agg #[.int .i64 a, .int .i64 b, .int .i64 c, .int .i64 d]) (.int .i64 3)).run Try.prog w = .ok (.int .i64 d) w) :=
  ⟨fun _ => by kernel_rfl, fun _ => by kernel_rfl, fun _ => by kernel_rfl, fun _ => by kernel_rfl⟩
theorem index_at (p : Nat → Int) {k : Nat} (hk : k < 4) (w : World) : (Instr.index 33 (.agg #[.int .i64 (p 0), .int .i64 (p 1), .int .i64 (p 2), .int .i64 (p 3)]) (.int .i64 (k : Int))).run Try.prog w = .ok (.int .i64 (p k)) w := by
  obtain ⟨i0, i1, i2, i3⟩ := index_four (p 0) (p 1) (p 2) (p 3)
  match k, hk with
  | 0, _ => exact i0 w
  | 1, _ => exact i1 w
  | 2, _ => exact i2 w
  | 3, _ => exact i3 w
theorem szGo_ints : ∀ (ds : List Nat) (s : Nat), (∀ d ∈ ds, 1 ≤ d) → s * pr ds ≤ 4096 → szGo s (ints ds) = some (s * pr ds)
  | [], s, _, _ => by simp [ints, szGo, pr]
  | d :: ds, s, h, hm => by
    have h1 := h d (List.mem_cons_self ..)
    have hp := pr_pos (ds := ds) fun x hx => h x (List.mem_cons_of_mem _ hx)
    rw [pr, ← Nat.mul_assoc] at hm
    have h2 : s * d ≤ 4096 := Nat.le_trans (Nat.le_mul_of_pos_right _ hp) hm
    have : ¬ ((d : Int) < 1 ∨ 4096 < (d : Int) * (s : Int)) := by
      rw [Int.mul_comm, ← Int.natCast_mul]
      omega
    show szGo s ((d : Int) :: ints ds) = _
    rw [szGo_ok this, Int.toNat_natCast, szGo_ints ds (s * d) (fun x hx => h x (List.mem_cons_of_mem _ hx)) hm, pr, Nat.mul_assoc]
theorem sz_shape {ds : List Nat} (h : Shp ds) : sz (ints ds) = some (pr ds) := by
  have h4 := h.few
  unfold sz
  rw [if_neg (by rw [ints_len]; omega), szGo_ints ds 1 h.pos (by rw [Nat.one_mul]; exact h.max), Nat.one_mul]
theorem errV_shape {ds : List Nat} (h : Shp ds) : errV (ints ds) = 0 := by
  have h4 := h.few
  unfold errV
  rw [if_neg (by rw [ints_len]; omega), sz_shape h]; rfl
theorem sizeV_shape {ds : List Nat} (h : Shp ds) : sizeV (ints ds) = (pr ds : Int) := by
  unfold sizeV
  rw [sz_shape h]; rfl

set_option maxHeartbeats 4000000 in
/-- shape.Number of a shape. -/
theorem number_shape (W : World) (A : Option Addr) (C : Nat) (ds : List Nat) (hS : Shp ds) (hZ : ZAt W A C (ints ds)) (p : Nat → Int)
    (r : Int) (c : Bool) (hyes : (∀ j, j < 4 → In ds p j) → r = (hor ds (fun j => (p j).toNat) 4 : Int) ∧ c = true) (hno : ∀ j, j < 4 → ¬ In ds p j → r = 0 ∧ c = false) :
    AnsB W 12 #[.slice A ds.length C, ixV p] (.tuple #[.int .i64 r, .bool c]) := by
  intro w hw
  have HS := size_any W A C (ints ds) hZ
  have hl4 := hS.few
  have hsz : errV (ints ds) = 0 := errV_shape hS
  rw [ints_len, hsz] at HS
  generalize sizeV (ints ds) = sv at HS
  have HLn := fun k hk => lengthOf_any W A C ds hZ k hk
  have HY : Hid ((∀ j, j < 4 → In ds p j) → r = (hor ds (fun j => (p j).toNat) 4 : Int) ∧ c = true) := hyes
  have HN : Hid (∀ j, j < 4 → ¬ In ds p j → r = 0 ∧ c = false) := hno
  have HSh : Hid (Shp ds) := hS
  generalize ds.length = L at HS HLn ⊢
  clear hyes hno hZ hS hsz hl4
  unfold ixV
  go_enter Try.func12, Try.ntmps12
  go_wp2_with (go_at_call 8; with_reducible refine AnsQ.use HS (hw.trans ((below_alloc _ _).mono hw.size)) ?_)
  go_loopw [8, 20] (fun x v wr => ∃ k : Nat, x = .int .i64 (hor ds (fun j => (p j).toNat) k : Int) ∧ v = .int .i64 k ∧ k ≤ 4 ∧ Hid (∀ j, j < k → In ds p j) ∧ Below w.heap.size w wr) (fun _ v _ => 4 - (intOf v).toNat)
  case atStart => exact ⟨0, rfl, rfl, by omega, fun j hj => absurd hj (by omega), below_alloc _ _⟩
  case round =>
    obtain ⟨k, rfl, rfl, hk, HI, hB⟩ := hrel
    have hBW : Below W.heap.size W wr := hw.trans (hB.mono hw.size)
    by_cases hlt : k < 4
    · have HK := HLn k (by omega)
      have hix := index_at p hlt
      have hlt' : (k : Int) < 4 := by omega
      have hb1 : hor ds (fun j => (p j).toNat) k < 4096 := hor_le HSh.out (by omega) fun j hj => by
        have := HI.out j hj; unfold In at this; omega
      by_cases hneg : p k < 0
      · have HE : Hid (r = 0 ∧ c = false) := HN.out k hlt fun h => by unfold In at h; omega
        clear HI hb1
        generalize hor ds (fun j => (p j).toNat) k = m
        generalize ln ds k = d at HK
        go_wp2_with (go_at_call 19; with_reducible refine AnsQ.use HK hBW ?_)
        go_ret2
        exact ⟨ret_ib HE.out.1.symm HE.out.2.symm, hB⟩
      · by_cases hbig : (ln ds k : Int) ≤ p k
        · have HE : Hid (r = 0 ∧ c = false) := HN.out k hlt fun h => by unfold In at h; omega
          clear HI hb1
          generalize hor ds (fun j => (p j).toNat) k = m
          generalize ln ds k = d at HK hbig
          go_wp2_with (go_at_call 19; with_reducible refine AnsQ.use HK hBW ?_)
          go_ret2
          exact ⟨ret_ib HE.out.1.symm HE.out.2.symm, hB⟩
        · have HI' : Hid (∀ j, j < k + 1 → In ds p j) := fun j hj => by
            by_cases h : j < k
            · exact HI.out j h
            · obtain rfl : j = k := by omega
              exact ⟨by omega, by omega⟩
          have hb2 : hor ds (fun j => (p j).toNat) (k + 1) < 4096 := hor_le HSh.out (by omega) fun j hj => by
            have := HI'.out j hj; unfold In at this; omega
          obtain ⟨e, he⟩ : ∃ e, hor ds (fun j => (p j).toNat) k * ln ds k = e := ⟨_, rfl⟩
          obtain ⟨q, hq⟩ := Int.eq_ofNat_of_zero_le (show 0 ≤ p k by omega)
          have hstep : hor ds (fun j => (p j).toNat) (k + 1) = e + q := by simp only [hor]; rw [he, hq, Int.toNat_natCast]
          rw [hstep] at hb2
          have HX : Hid ((hor ds (fun j => (p j).toNat) (k + 1) : Int) = (e : Int) + p k) := by unfold Hid; rw [hstep, hq]; simp
          have hmi : (hor ds (fun j => (p j).toNat) k : Int) * (ln ds k : Int) = (e : Int) := by rw [← Int.natCast_mul, he]
          have hmw : wrap64 (e : Int) = (e : Int) := by unfold wrap64; omega
          have haw : wrap64 ((e : Int) + p k) = (e : Int) + p k := by unfold wrap64; omega
          have HQ : Hid (p k = (q : Int)) := hq
          have hbig' : ¬ (ln ds k : Int) ≤ p k := hbig
          clear HI hb1 hb2 he hq hstep
          generalize hor ds (fun j => (p j).toNat) k = m at hmi
          generalize ln ds k = d at HK hmi hbig hbig'
          go_wp2_with (go_at_call 19; with_reducible refine AnsQ.use HK hBW ?_)
          go_roundw
          case rel => exact ⟨_, by rw [HX.out]; first | rfl | (rw [haw]; try rw [haw]), by go_num, by omega, HI'.out, hB⟩
          case measure => simp [intOf]; omega
    · obtain rfl : k = 4 := by omega
      have HE : Hid (r = (hor ds (fun j => (p j).toNat) 4 : Int) ∧ c = true) := HY.out HI.out
      clear HI
      generalize hor ds (fun j => (p j).toNat) 4 = m at HE ⊢
      go_wp2
      go_ret2
      exact ⟨ret_ib HE.out.1.symm HE.out.2.symm, hB⟩

/-- What is no shape. -/
theorem number_none (W : World) (A : Option Addr) (C : Nat) (zs : List Int) (hZ : ZAt W A C zs) (he : errV zs ≠ 0) (p : Nat → Int) :
    AnsB W 12 #[.slice A zs.length C, ixV p] (.tuple #[.int .i64 0, .bool false]) := by
  intro w hw
  have HS := size_any W A C zs hZ
  generalize sizeV zs = sv at HS
  generalize errV zs = ev at HS he
  generalize zs.length = L at HS ⊢
  clear hZ
  unfold ixV
  go_enter Try.func12, Try.ntmps12
  go_wp2_with (go_at_call 8; with_reducible refine AnsQ.use HS (hw.trans ((below_alloc _ _).mono hw.size)) ?_)
  go_ret2
  exact ⟨rfl, below_alloc _ _⟩
end Go.Proofs.Ytfiblemandpfeaa

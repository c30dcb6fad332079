/-
  What the document's At answers, of a number below the size. No condition but that a shape lies there.
-/
import Derived.Test.YtccknfhhmdoffaaSh5V
namespace Go.Proofs.Ytccknfhhmdoffaa
set_option linter.unusedVariables false
open Go.RowKit

theorem below_dN {B : Nat} {w w' : World} (h : Below B w w') (n : Nat) : Below B w (w'.drewN n) := h.trans ⟨rfl, rfl, rfl, Nat.le_refl _, fun _ _ => rfl⟩
def cv (ds : List Nat) (n k j : Nat) : Nat := if j < k then ix ds n j else 0
theorem wrapN {x : Nat} (h : x < 4096) : wrap64 (x : Int) = x := by unfold wrap64; omega
theorem four_free (w : World) (t : TypeId) (p : Nat → Int) {k : Nat} (hk : k < 4) : (w.alloc (.cells #[.int .i64 (p 0), .int .i64 (p 1), .int .i64 (p 2), .int .i64 (p 3)] t)).frozen? ⟨w.heap.size, k, none⟩ = false := by
  simp
theorem keep_cellZ {w w' : World} (hb : Below w.heap.size w w') {b o : Nat} {v : Value} (hl : b < w.heap.size) (h : w.cell? ⟨b, o, none⟩ = some v) : w'.cell? ⟨b, o, none⟩ = some v := by
  rw [(bcell hb).1 b o hl]; exact h
theorem set_cv (w : World) (t : TypeId) {B : Nat} (hB : B = w.heap.size) (ds : List Nat) (n : Nat) {k : Nat} (hk : k < 4) (m : Nat) :
    ((w.alloc (.cells #[.int .i64 (cv ds n k 0 : Int), .int .i64 (cv ds n k 1 : Int), .int .i64 (cv ds n k 2 : Int), .int .i64 (cv ds n k 3 : Int)] t)).drewN m).setCell ⟨B, k, none⟩ (.int .i64 (ix ds n k : Int))
      = (w.alloc (.cells #[.int .i64 (cv ds n (k + 1) 0 : Int), .int .i64 (cv ds n (k + 1) 1 : Int), .int .i64 (cv ds n (k + 1) 2 : Int), .int .i64 (cv ds n (k + 1) 3 : Int)] t)).drewN m := by
  subst hB
  rw [show ∀ (a : Addr) (v : Value) (V : World), (V.drewN m).setCell a v = (V.setCell a v).drewN m from fun _ _ _ => rfl, World.setCell_alloc_new]
  match k, hk with
  | 0, _ => simp [cv]
  | 1, _ => simp [cv]
  | 2, _ => simp [cv]
  | 3, _ => simp [cv]
set_option maxHeartbeats 4000000 in
theorem rat_any (W : World) (A : Option Addr) (C : Nat) (ds : List Nat) (hS : Shp ds) (hZ : ZAt W A C (ints ds)) (n : Nat) (hn : n < pr ds) :
    AnsB W 23 #[.slice A ds.length C, .int .i64 (n : Int)] (ixV fun j => (ix ds n j : Int)) := by
  intro w hw
  have hlen := hZ.len
  rw [ints_len] at hlen
  have HSt := fun k hk => stride_any W A C ds hS hZ k hk
  have h4 := hS.few
  have HSh : Hid (Shp ds) := hS
  have HN : Hid (n < pr ds) := hn
  obtain ⟨L, hL⟩ : ∃ L, ds.length = L := ⟨_, rfl⟩
  have HL : Hid (ds.length = L) := hL
  rw [hL] at hlen HSt h4 ⊢
  clear hL hS hn
  unfold ixV
  go_enter Try.func23, Try.ntmps23
  go_wp2
  go_loopw [9] (fun v wr => ∃ k m : Nat, v = .int .i64 k ∧ k ≤ L ∧ wr = ((w.alloc (.cells #[.int .i64 0, .int .i64 0, .int .i64 0, .int .i64 0] 46)).alloc (.cells #[.int .i64 (cv ds n k 0 : Int), .int .i64 (cv ds n k 1 : Int), .int .i64 (cv ds n k 2 : Int), .int .i64 (cv ds n k 3 : Int)] 46)).drewN m) (fun v _ => L - (intOf v).toNat)
  case atStart => exact ⟨0, 0, rfl, by omega, rfl⟩
  case round =>
    obtain ⟨k, m, rfl, hk, rfl⟩ := hrel
    by_cases hlt : k < L
    · have hlt' : (k : Int) < (L : Int) := by omega
      obtain ⟨d, hd⟩ : ∃ d, ds[k]? = some d := ⟨_, List.getElem?_eq_getElem (by rw [HL.out]; exact hlt)⟩
      obtain ⟨b, o, rfl, hb, c0⟩ := hZ.nat hd
      have c0' := ((bcell hw).1 b (o + k) hb).trans c0
      have hbw : b < w.heap.size := Nat.lt_of_lt_of_le hb hw.size
      have hb1 : ¬ w.heap.size = b := by omega
      have hb2 : ¬ w.heap.size + 1 = b := by omega
      have HK := HSt k hlt
      have hr : n / strd ds k % d = ix ds n k := by rw [← ln_in hd]; exact ix_strd HSh.out n (by rw [HL.out]; exact hlt)
      have hs0 := strd_pos HSh.out k
      have hd0 : 1 ≤ d := HSh.out.pos d (List.mem_of_getElem? hd)
      have hn0 : n < 4096 := Nat.lt_of_lt_of_le HN.out HSh.out.max
      have hqn : n / strd ds k ≤ n := Nat.div_le_self _ _
      have hrn : n / strd ds k % d ≤ n / strd ds k := Nat.mod_le _ _
      rw [hr] at hrn
      clear c0 hd
      generalize strd ds k = s at *
      have hs1 : ¬ (s : Int) = 0 := by omega
      have hd1 : ¬ (d : Int) = 0 := by omega
      have hq1 : Int.tdiv (n : Int) (s : Int) = ((n / s : Nat) : Int) := (Int.ofNat_tdiv n s).symm
      have hq2 : Int.tmod ((n / s : Nat) : Int) (d : Int) = ((n / s % d : Nat) : Int) := (Int.ofNat_tmod (n / s) d).symm
      rw [hr] at hq2
      obtain ⟨q, hq⟩ : ∃ q, n / s = q := ⟨_, rfl⟩
      rw [hq] at hq1 hq2 hqn hrn
      have hq4 : q < 4096 := Nat.lt_of_le_of_lt hqn hn0
      have hw1 : wrap64 (q : Int) = (q : Int) := wrapN hq4
      have hw2 : wrap64 (ix ds n k : Int) = (ix ds n k : Int) := wrapN (Nat.lt_of_le_of_lt hrn hq4)
      clear hr hs0 hd0 hn0 hqn hrn hq hq4
      have hk4 : k < 4 := by omega
      have hY1 := four_cells (w.alloc (.cells #[.int .i64 0, .int .i64 0, .int .i64 0, .int .i64 0] 46)) 46 (fun j => (cv ds n k j : Int)) hk4
      have hY2 := four_free (w.alloc (.cells #[.int .i64 0, .int .i64 0, .int .i64 0, .int .i64 0] 46)) 46 (fun j => (cv ds n k j : Int)) hk4
      rw [World.size_alloc] at hY1 hY2
      have hBY : Below w.heap.size w ((w.alloc (.cells #[.int .i64 0, .int .i64 0, .int .i64 0, .int .i64 0] 46)).alloc (.cells #[.int .i64 (cv ds n k 0 : Int), .int .i64 (cv ds n k 1 : Int), .int .i64 (cv ds n k 2 : Int), .int .i64 (cv ds n k 3 : Int)] 46)) := bb (below_alloc _ _) (below_alloc _ _)
      have HR : Hid (∀ m', (((w.alloc (.cells #[.int .i64 0, .int .i64 0, .int .i64 0, .int .i64 0] 46)).alloc (.cells #[.int .i64 (cv ds n k 0 : Int), .int .i64 (cv ds n k 1 : Int), .int .i64 (cv ds n k 2 : Int), .int .i64 (cv ds n k 3 : Int)] 46)).drewN m').setCell ⟨w.heap.size + 1, k, none⟩ (.int .i64 (ix ds n k : Int)) = ((w.alloc (.cells #[.int .i64 0, .int .i64 0, .int .i64 0, .int .i64 0] 46)).alloc (.cells #[.int .i64 (cv ds n (k + 1) 0 : Int), .int .i64 (cv ds n (k + 1) 1 : Int), .int .i64 (cv ds n (k + 1) 2 : Int), .int .i64 (cv ds n (k + 1) 3 : Int)] 46)).drewN m') := fun m' => set_cv (w.alloc (.cells #[.int .i64 0, .int .i64 0, .int .i64 0, .int .i64 0] 46)) 46 (by simp) ds n hk4 m'
      obtain ⟨Y, hY⟩ : ∃ Y, (w.alloc (.cells #[.int .i64 0, .int .i64 0, .int .i64 0, .int .i64 0] 46)).alloc (.cells #[.int .i64 (cv ds n k 0 : Int), .int .i64 (cv ds n k 1 : Int), .int .i64 (cv ds n k 2 : Int), .int .i64 (cv ds n k 3 : Int)] 46) = Y := ⟨_, rfl⟩
      simp only [hY] at hY1 hY2 hBY HR ⊢
      have cY := keep_cellZ hBY hbw c0'
      have HK2 := HK.on (hw.trans (hBY.mono hw.size))
      have hk4' : (k : Int) < 4 := by omega
      clear HK HSt hY c0'
      go_wp2
      go_region_with (go_at_call 41; refine AnsQ.use HK2 (below_dN (Below.refl _ _) _) ?_)
      all_goals
        go_wp2
        go_roundw
        case rel => exact ⟨k + 1, _, by go_num, by omega, HR.out _⟩
        case measure => simp [intOf]; omega
    · obtain rfl : k = L := by omega
      have he : ∀ j, j < 4 → cv ds n k j = ix ds n j := fun j hj => by
        unfold cv
        split
        · rfl
        · exact (ix_out n (by rw [HL.out]; omega) hj).symm
      rw [he 0 (by omega), he 1 (by omega), he 2 (by omega), he 3 (by omega)]
      clear he HN
      go_wp2
      exact bodyPost_ret (v := .agg #[.int .i64 (ix ds n 0 : Int), .int .i64 (ix ds n 1 : Int), .int .i64 (ix ds n 2 : Int), .int .i64 (ix ds n 3 : Int)]) (by simp [results, Try.results23, go_sem]) rfl ⟨rfl, (by repeat' (first | with_reducible exact Below.refl _ _ | with_reducible refine below_dN ?_ _ | with_reducible refine Below.drew ?_ | with_reducible refine Below.setCell ?_ ?_ _ | with_reducible refine Below.alloc ?_ ?_ _ | omega | (simp; done) | (simp; omega)))⟩
end Go.Proofs.Ytccknfhhmdoffaa

/-
  What cell and isAmong of a view answer, and the document's Cell. No condition but that the rows lie there.
-/
import Derived.Test.YtccknfhhmdoffaaVw1
namespace Go.Proofs.Ytccknfhhmdoffaa
set_option linter.unusedVariables false
open Go.RowKit

theorem lo_down (o : Int) (ss : List Int) (ds : List Nat) (k : Nat) : ∀ m, lo o ss ds (k + m) ≤ lo o ss ds k
  | 0 => Int.le_refl _
  | m + 1 => by have := lo_down o ss ds k m; show lo o ss ds (k + m) + min _ 0 ≤ _; omega
theorem hi_up (o : Int) (ss : List Int) (ds : List Nat) (k : Nat) : ∀ m, hi o ss ds k ≤ hi o ss ds (k + m)
  | 0 => Int.le_refl _
  | m + 1 => by have := hi_up o ss ds k m; show _ ≤ hi o ss ds (k + m) + max _ 0; omega
/-- What a cell's reckoning needs: nothing goes round. -/
def Calm (o : Int) (ss : List Int) (p : Nat → Int) (L : Nat) : Prop := ∀ k, k < L → wrap64 (p k * sg ss k) = p k * sg ss k ∧ wrap64 (cl o ss p k + p k * sg ss k) = cl o ss p (k + 1)
theorem wrap_mid {z : Int} (h0 : -1152921504606846976 ≤ z) (h1 : z ≤ 1152921504606846976) : wrap64 z = z := by unfold wrap64; omega
theorem calm_of {o : Int} {ss : List Int} {ds : List Nat} (hS : Shp ds) (h : Among o ss ds 4096) {i : Nat → Nat} (hi4 : ∀ j, j < 4 → i j < ln ds j) : Calm o ss (fun j => (i j : Int)) ds.length := by
  have w := way_of hS h
  have h4 := hS.few
  intro k hk
  have hb : ∀ k, k ≤ ds.length → 0 ≤ cl o ss (fun j => (i j : Int)) k ∧ cl o ss (fun j => (i j : Int)) k < 4096 := fun k hk => by
    have a := cl_mid (o := o) (ss := ss) (ds := ds) (i := i) k fun j hj => hi4 j (by omega)
    have b := lo_down o ss ds k (ds.length - k)
    have c := hi_up o ss ds k (ds.length - k)
    rw [show k + (ds.length - k) = ds.length by omega] at b c
    have := w.low; have := w.top
    omega
  have b0 := hb k (by omega)
  have b1 := hb (k + 1) hk
  have e : cl o ss (fun j => (i j : Int)) (k + 1) = cl o ss (fun j => (i j : Int)) k + (i k : Int) * sg ss k := rfl
  show wrap64 ((i k : Int) * sg ss k) = _ ∧ wrap64 (cl o ss (fun j => (i j : Int)) k + (i k : Int) * sg ss k) = _
  rw [← e]
  have hp : (i k : Int) * sg ss k = cl o ss (fun j => (i j : Int)) (k + 1) - cl o ss (fun j => (i j : Int)) k := by omega
  exact ⟨by rw [hp]; exact wrap_mid (by omega) (by omega), wrap_mid (by omega) (by omega)⟩
theorem calm_cut {o : Int} {ss : List Int} {p : Nat → Int} {L : Nat} (h4 : L ≤ 4) (hp : ∀ j, j < 4 → 0 ≤ p j ∧ p j < 4096) : Calm (ct o) (ss.map ct) p L := by
  have hm : ∀ k, k < 4 → -4503599627370496 ≤ p k * sg (ss.map ct) k ∧ p k * sg (ss.map ct) k ≤ 4503599627370496 := fun k hk => by
    have a := mul_mid (p := p k) (m := 4096) (s := sg (ss.map ct) k) (hp k hk).1 (by have := (hp k hk).2; omega)
    have b := ct_abs (sg ss k)
    rw [sg_ct] at a ⊢
    omega
  have hc : ∀ k : Nat, k ≤ 4 → -(1099511627776 + 4503599627370496 * (k : Int)) ≤ cl (ct o) (ss.map ct) p k ∧ cl (ct o) (ss.map ct) p k ≤ 1099511627776 + 4503599627370496 * (k : Int) := fun k => by
    induction k with
    | zero => intro _; have := ct_abs o; show _ ≤ ct o ∧ ct o ≤ _; omega
    | succ k ih =>
      intro hk
      have a := ih (by omega)
      have b := hm k (by omega)
      show _ ≤ cl (ct o) (ss.map ct) p k + p k * sg (ss.map ct) k ∧ cl (ct o) (ss.map ct) p k + p k * sg (ss.map ct) k ≤ _
      omega
  intro k hk
  have a := hm k (by omega)
  have b := hc (k + 1) (by omega)
  exact ⟨wrap_mid (by omega) (by omega), wrap_mid (z := cl (ct o) (ss.map ct) p (k + 1)) (by omega) (by omega)⟩

set_option maxHeartbeats 1000000 in
/-- A view's cell. -/
theorem cell_any (W : World) (o : Int) (A : Option Addr) (L C : Nat) (A' : Option Addr) (C' : Nat) (ss : List Int) (hZ : ZAt W A' C' ss) (h4 : ss.length ≤ 4) (p : Nat → Int) (hC : Calm o ss p ss.length) :
    AnsB W 33 #[vw o A L C A' ss.length C', ixV p] (.int .i64 (cl o ss p ss.length)) := by
  intro w hw
  unfold vw ixV
  obtain ⟨M, hM⟩ : ∃ M, ss.length = M := ⟨_, rfl⟩
  have HM : Hid (ss.length = M) := hM
  have HC : Hid (Calm o ss p M) := by rw [← hM]; exact hC
  rw [hM] at h4 ⊢
  clear hM hC
  obtain ⟨V, hV⟩ : ∃ V, (w.alloc (.cells #[.int .i64 o, .slice A L C, .slice A' M C'] 28)).alloc (.cells #[.int .i64 (p 0), .int .i64 (p 1), .int .i64 (p 2), .int .i64 (p 3)] 62) = V := ⟨_, rfl⟩
  have hBV : Below w.heap.size w V := by rw [← hV]; exact bb (below_alloc _ _) (below_alloc _ _)
  have b0 : Blk V w.heap.size 28 #[.int .i64 o, .slice A L C, .slice A' M C'] := by rw [← hV]; exact (Blk.new _ _ _).alloc _
  have b1 : Blk V (w.heap.size + 1) 62 #[.int .i64 (p 0), .int .i64 (p 1), .int .i64 (p 2), .int .i64 (p 3)] := by
    rw [← hV]; have := Blk.new (w.alloc (.cells #[.int .i64 o, .slice A L C, .slice A' M C'] 28)) 62 #[.int .i64 (p 0), .int .i64 (p 1), .int .i64 (p 2), .int .i64 (p 3)]; rw [World.size_alloc] at this; exact this
  have e0 : V.cell? ⟨w.heap.size, 0, none⟩ = some (.int .i64 o) := b0.cell 0
  have e2 : V.cell? ⟨w.heap.size, 2, none⟩ = some (.slice A' M C') := b0.cell 2
  have HX : Hid (∀ k, k < 4 → V.cell? ⟨w.heap.size + 1, k, none⟩ = some (.int .i64 (p k))) := fun k hk => by
    rw [b1.cell]
    match k, hk with
    | 0, _ => rfl
    | 1, _ => rfl
    | 2, _ => rfl
    | 3, _ => rfl
  have hwV := hw.trans (hBV.mono hw.size)
  clear b0 b1
  go_enter Try.func33, Try.ntmps33
  go_wp2
  go_loopw [5, 13] (fun x v wr => ∃ k : Nat, x = .int .i64 (cl o ss p k) ∧ v = .int .i64 k ∧ k ≤ M ∧ wr = V) (fun _ v _ => M - (intOf v).toNat)
  case atStart => exact ⟨0, rfl, rfl, by omega, by first | exact hV | rfl⟩
  case round =>
    obtain ⟨k, rfl, rfl, hk, rfl⟩ := hrel
    by_cases hlt : k < M
    · obtain ⟨z, hz⟩ : ∃ z, ss[k]? = some z := ⟨_, List.getElem?_eq_getElem (by rw [HM.out]; exact hlt)⟩
      obtain ⟨b, q, rfl, hb, c0, _⟩ := hZ.get k z hz
      have c0' := ((bcell hwV).1 b (q + k) hb).trans c0
      have x0 := HX.out k (by omega)
      obtain ⟨w1, w2⟩ := HC.out k hlt
      rw [sg_in hz] at w1 w2
      have hk4 : (k : Int) < 4 := by omega
      have hkM : (k : Int) < (M : Int) := by omega
      obtain ⟨y, hy⟩ : ∃ y, p k * z = y := ⟨_, rfl⟩
      rw [hy] at w1 w2
      have w0 : wrap64 (p k * z) = y := by rw [hy]; exact w1
      obtain ⟨u, hu⟩ : ∃ u, cl o ss p (k + 1) = u := ⟨_, rfl⟩
      have HU : Hid (cl o ss p (k + 1) = u) := hu
      rw [hu] at w2
      clear c0 hz w1 hy hu
      go_wp2
      go_roundw
      case rel => exact ⟨k + 1, by rw [HU.out, w2], by go_num, by omega, by first | rfl | trivial⟩
      case measure => simp [intOf]; omega
    · obtain rfl : k = M := by omega
      go_wp2
      go_ret
      exact ⟨rfl, hBV⟩

set_option maxHeartbeats 1000000 in
/-- The document's Cell. -/
theorem rcell_any (W : World) (o : Int) (A : Option Addr) (C : Nat) (A' : Option Addr) (C' : Nat) (ss : List Int) (hZ : ZAt W A' C' ss) (h4 : ss.length ≤ 4) (p : Nat → Int) (hp : ∀ j, j < 4 → 0 ≤ p j ∧ p j < 4096) :
    AnsB W 24 #[vw o A ss.length C A' ss.length C', ixV p] (.int .i64 (cl (ct o) (ss.map ct) p ss.length)) := by
  intro w hw
  unfold vw ixV
  obtain ⟨M, hM⟩ : ∃ M, ss.length = M := ⟨_, rfl⟩
  have HM : Hid (ss.length = M) := hM
  have HC : Hid (Calm (ct o) (ss.map ct) p M) := by rw [← hM]; exact calm_cut h4 hp
  have HO := cut_any o
  rw [hM] at h4 ⊢
  clear hM hp
  obtain ⟨V, hV⟩ : ∃ V, (w.alloc (.cells #[.int .i64 o, .slice A M C, .slice A' M C'] 24)).alloc (.cells #[.int .i64 (p 0), .int .i64 (p 1), .int .i64 (p 2), .int .i64 (p 3)] 46) = V := ⟨_, rfl⟩
  have hBV : Below w.heap.size w V := by rw [← hV]; exact bb (below_alloc _ _) (below_alloc _ _)
  have b0 : Blk V w.heap.size 24 #[.int .i64 o, .slice A M C, .slice A' M C'] := by rw [← hV]; exact (Blk.new _ _ _).alloc _
  have b1 : Blk V (w.heap.size + 1) 46 #[.int .i64 (p 0), .int .i64 (p 1), .int .i64 (p 2), .int .i64 (p 3)] := by
    rw [← hV]; have := Blk.new (w.alloc (.cells #[.int .i64 o, .slice A M C, .slice A' M C'] 24)) 46 #[.int .i64 (p 0), .int .i64 (p 1), .int .i64 (p 2), .int .i64 (p 3)]; rw [World.size_alloc] at this; exact this
  have e0 : V.cell? ⟨w.heap.size, 0, none⟩ = some (.int .i64 o) := b0.cell 0
  have e1 : V.cell? ⟨w.heap.size, 1, none⟩ = some (.slice A M C) := b0.cell 1
  have e2 : V.cell? ⟨w.heap.size, 2, none⟩ = some (.slice A' M C') := b0.cell 2
  have HX : Hid (∀ k, k < 4 → V.cell? ⟨w.heap.size + 1, k, none⟩ = some (.int .i64 (p k))) := fun k hk => by
    rw [b1.cell]
    match k, hk with
    | 0, _ => rfl
    | 1, _ => rfl
    | 2, _ => rfl
    | 3, _ => rfl
  have hwV := hw.trans (hBV.mono hw.size)
  clear b0 b1
  go_enter Try.func24, Try.ntmps24
  go_wp2_with (go_at_call 42; with_reducible refine Ans.use HO _ fun n0 => ?_)
  go_loopw [5, 13] (fun x v wr => ∃ k m : Nat, x = .int .i64 (cl (ct o) (ss.map ct) p k) ∧ v = .int .i64 k ∧ k ≤ M ∧ wr = V.drewN m) (fun _ v _ => M - (intOf v).toNat)
  case atStart => exact ⟨0, n0, rfl, rfl, by omega, by first | rfl | (rw [← hV])⟩
  case round =>
    obtain ⟨k, m, rfl, rfl, hk, rfl⟩ := hrel
    by_cases hlt : k < M
    · obtain ⟨z, hz⟩ : ∃ z, ss[k]? = some z := ⟨_, List.getElem?_eq_getElem (by rw [HM.out]; exact hlt)⟩
      obtain ⟨b, q, rfl, hb, c0, _⟩ := hZ.get k z hz
      have c0' := ((bcell hwV).1 b (q + k) hb).trans c0
      have x0 := HX.out k (by omega)
      obtain ⟨w1, w2⟩ := HC.out k hlt
      rw [sg_ct, sg_in hz] at w1 w2
      have HK := cut_any z
      have hk4 : (k : Int) < 4 := by omega
      have hkM : (k : Int) < (M : Int) := by omega
      obtain ⟨zc, hzc⟩ : ∃ y, ct z = y := ⟨_, rfl⟩
      rw [hzc] at w1 w2 HK
      obtain ⟨y, hy⟩ : ∃ y, p k * zc = y := ⟨_, rfl⟩
      rw [hy] at w1 w2
      have w0 : wrap64 (p k * zc) = y := by rw [hy]; exact w1
      obtain ⟨u, hu⟩ : ∃ u, cl (ct o) (ss.map ct) p (k + 1) = u := ⟨_, rfl⟩
      obtain ⟨t, ht⟩ : ∃ t, cl (ct o) (ss.map ct) p k = t := ⟨_, rfl⟩
      have HU : Hid (cl (ct o) (ss.map ct) p (k + 1) = u) := hu
      rw [hu, ht] at w2
      rw [ht]
      clear c0 hz w1 hy hu hzc ht
      go_wp2
      go_quiet ((go_at_call 42; with_reducible exact Ans.quiet HK))
      go_wp2
      go_roundw
      case rel => exact ⟨k + 1, _, by rw [HU.out]; first | rfl | rw [w2], by go_num, by omega, rfl⟩
      case measure => simp [intOf]; omega
    · obtain rfl : k = M := by omega
      go_wp2
      go_ret
      exact ⟨rfl, below_dN hBV _⟩

/-- Whether all cells are among so many. -/
theorem span_le {l c s : Int} (hc : c ≤ 4096) (h0 : 0 ≤ l - 1) (h1 : l ≤ 4096) (h : -c < s ∧ s < c) : -16777216 ≤ (l - 1) * s ∧ (l - 1) * s ≤ 16777216 := mul_small (n := 4096) (by omega) (by omega) (by omega)
theorem ln_le {ds : List Nat} (hS : Shp ds) {k d : Nat} (h : ds[k]? = some d) : d ≤ 4096 := by
  have h1 := (ppr_le hS (k := k + 1) (by have := (List.getElem?_eq_some_iff.1 h).1; have := hS.few; omega))
  have h2 := ppr_pos hS k
  have : ppr ds (k + 1) = ppr ds k * d := by show ppr ds k * ln ds k = _; rw [ln_in h]
  rw [this] at h1
  exact Nat.le_trans (Nat.le_mul_of_pos_left _ h2) h1
set_option maxHeartbeats 2000000 in
theorem isAmong_any (W : World) (o : Int) (A : Option Addr) (C : Nat) (A' : Option Addr) (C' : Nat) (ds : List Nat) (hS : Shp ds) (hD : ZAt W A C (ints ds)) (ss : List Int) (hl : ss.length = ds.length) (hZ : ZAt W A' C' ss) (c : Int) (h0 : 0 ≤ c) (hc : c ≤ 4096) (r : Bool) (hr : r = true ↔ Way o ss ds c) :
    AnsB W 30 #[vw o A ds.length C A' ss.length C', .int .i64 c] (.bool r) := by
  intro w hw
  unfold vw
  rw [hl]
  have h4 := hS.few
  obtain ⟨M, hM⟩ : ∃ M, ds.length = M := ⟨_, rfl⟩
  have HM : Hid (ds.length = M) := hM
  have HM' : Hid (ss.length = M) := by unfold Hid; rw [hl, hM]
  rw [hM] at h4 ⊢
  have HF : Hid (¬ Way o ss ds c → false = r) := fun h => by cases r; rfl; exact absurd (hr.1 rfl) h
  have HT : Hid (Way o ss ds c → true = r) := fun h => (hr.2 h).symm
  have HC : Hid (c ≤ 4096) := hc
  have HS : Hid (Shp ds) := hS
  have hn : wrap64 (-c) = -c := wrap_mid (by omega) (by omega)
  clear hM hl hr hS
  obtain ⟨V, hV⟩ : ∃ V, w.alloc (.cells #[.int .i64 o, .slice A M C, .slice A' M C'] 28) = V := ⟨_, rfl⟩
  have hBV : Below w.heap.size w V := by rw [← hV]; exact below_alloc _ _
  have b0 : Blk V w.heap.size 28 #[.int .i64 o, .slice A M C, .slice A' M C'] := by rw [← hV]; exact Blk.new _ _ _
  have e0 : V.cell? ⟨w.heap.size, 0, none⟩ = some (.int .i64 o) := b0.cell 0
  have e1 : V.cell? ⟨w.heap.size, 1, none⟩ = some (.slice A M C) := b0.cell 1
  have e2 : V.cell? ⟨w.heap.size, 2, none⟩ = some (.slice A' M C') := b0.cell 2
  have hwV := hw.trans (hBV.mono hw.size)
  clear b0
  by_cases o0 : o < 0
  · have HR : Hid (false = r) := HF.out fun h => by have := h.off; omega
    clear hc h0
    go_enter Try.func30, Try.ntmps30
    go_wp2
    go_ret
    exact ⟨ret_b HR.out, hBV⟩
  by_cases o1 : c ≤ o
  · have HR : Hid (false = r) := HF.out fun h => by have := h.off; omega
    clear hc h0
    go_enter Try.func30, Try.ntmps30
    go_wp2
    go_ret
    exact ⟨ret_b HR.out, hBV⟩
  have HO : Hid (0 ≤ o ∧ o < c) := by unfold Hid; omega
  clear hc
  go_enter Try.func30, Try.ntmps30
  go_wp2
  go_quiet ((fail))
  go_wp2
  go_loopw [5, 6, 27] (fun x y v wr => ∃ k m : Nat, x = .int .i64 (lo o ss ds k) ∧ y = .int .i64 (hi o ss ds k) ∧ v = .int .i64 k ∧ k ≤ M ∧ Hid (-16777216 * (k : Int) ≤ lo o ss ds k ∧ hi o ss ds k ≤ 4096 + 16777216 * (k : Int)) ∧ Hid (∀ j, j < k → ln ds j ≠ 1 → -c < sg ss j ∧ sg ss j < c) ∧ wr = V.drewN m) (fun _ _ v _ => M - (intOf v).toNat)
  case atStart => exact ⟨0, nq, rfl, rfl, rfl, by omega, (by have := HO.out; have := HC.out; show _ ≤ o ∧ o ≤ _; omega), fun j hj => absurd hj (by omega), by first | rfl | (rw [← hV])⟩
  case round =>
    obtain ⟨k, m, rfl, rfl, rfl, hk, HBd, HI, rfl⟩ := hrel
    by_cases hlt : k < M
    · obtain ⟨z, hz⟩ : ∃ z, ss[k]? = some z := ⟨_, List.getElem?_eq_getElem (by rw [HM'.out]; exact hlt)⟩
      obtain ⟨d, hd⟩ : ∃ d, ds[k]? = some d := ⟨_, List.getElem?_eq_getElem (by rw [HM.out]; exact hlt)⟩
      obtain ⟨b, q, rfl, hb, c0, _⟩ := hZ.get k z hz
      obtain ⟨b', q', rfl, hb', c1⟩ := hD.nat hd
      have c0' := ((bcell hwV).1 b (q + k) hb).trans c0
      have c1' := ((bcell hwV).1 b' (q' + k) hb').trans c1
      have hkM : (k : Int) < (M : Int) := by omega
      have el : lo o ss ds (k + 1) = lo o ss ds k + min (((d : Int) - 1) * z) 0 := by simp only [lo]; rw [ln_in hd, sg_in hz]
      have eh : hi o ss ds (k + 1) = hi o ss ds k + max (((d : Int) - 1) * z) 0 := by simp only [hi]; rw [ln_in hd, sg_in hz]
      by_cases hd1 : d = 1
      · subst hd1
        have EL : Hid (lo o ss ds (k + 1) = lo o ss ds k) := by unfold Hid; rw [el]; simp
        have EH : Hid (hi o ss ds (k + 1) = hi o ss ds k) := by unfold Hid; rw [eh]; simp
        have HI' : Hid (∀ j, j < k + 1 → ln ds j ≠ 1 → -c < sg ss j ∧ sg ss j < c) := fun j hj hl => by
          by_cases hjk : j = k
          · subst hjk; exact absurd (ln_in hd) hl
          · exact HI.out j (by omega) hl
        clear c0 c1 hz hd el eh HI
        go_wp2
        go_roundw
        case rel => exact ⟨k + 1, m, by rw [EL.out], by rw [EH.out], by go_num, by omega, (by unfold Hid; rw [EL.out, EH.out]; have := HBd.out; omega), HI', rfl⟩
        case measure => simp [intOf]; omega
      · have hd1' : ¬ (d : Int) = 1 := by omega
        have hdp : 1 ≤ d := HS.out.pos d (List.mem_of_getElem? hd)
        have hdl := ln_le HS.out hd
        by_cases s0 : z ≤ -c
        · have HR : Hid (false = r) := HF.out fun h => by have := h.str k (by rw [HM.out]; exact hlt) (by rw [ln_in hd]; exact hd1); rw [sg_in hz] at this; omega
          clear c0 c1 hz hd el eh HI hdl
          go_wp2
          go_ret
          exact ⟨ret_b HR.out, below_dN hBV _⟩
        by_cases s1 : c ≤ z
        · have HR : Hid (false = r) := HF.out fun h => by have := h.str k (by rw [HM.out]; exact hlt) (by rw [ln_in hd]; exact hd1); rw [sg_in hz] at this; omega
          clear c0 c1 hz hd el eh HI hdl
          go_wp2
          go_ret
          exact ⟨ret_b HR.out, below_dN hBV _⟩
        have hsp := span_le (l := (d : Int)) (s := z) HC.out (by omega) (by omega) (by omega)
        have HI' : Hid (∀ j, j < k + 1 → ln ds j ≠ 1 → -c < sg ss j ∧ sg ss j < c) := fun j hj hl => by
          by_cases hjk : j = k
          · subst hjk; rw [sg_in hz]; omega
          · exact HI.out j (by omega) hl
        have hw1 : wrap64 ((d : Int) - 1) = (d : Int) - 1 := wrap_mid (by omega) (by omega)
        obtain ⟨p, hp⟩ : ∃ p, ((d : Int) - 1) * z = p := ⟨_, rfl⟩
        rw [hp] at hsp el eh
        have hw2 : wrap64 (((d : Int) - 1) * z) = p := by rw [hp]; exact wrap_mid (by omega) (by omega)
        have bd := HBd.out
        have bl : lo o ss ds (k + 1) ≤ lo o ss ds k := by rw [el]; omega
        have bl0 : lo o ss ds k ≤ o := by have := lo_down o ss ds 0 k; rw [Nat.zero_add] at this; exact this
        have bh0 : o ≤ hi o ss ds k := by have := hi_up o ss ds 0 k; rw [Nat.zero_add] at this; exact this
        have oo := HO.out
        have cc := HC.out
        have BD' : Hid (-16777216 * ((k + 1 : Nat) : Int) ≤ lo o ss ds (k + 1) ∧ hi o ss ds (k + 1) ≤ 4096 + 16777216 * ((k + 1 : Nat) : Int)) := by unfold Hid; rw [el, eh]; omega
        have hw3 : wrap64 (lo o ss ds k + if 0 < p then 0 else p) = lo o ss ds (k + 1) := by rw [show (if 0 < p then 0 else p) = min p 0 by split <;> omega, el]; exact wrap_mid (by omega) (by omega)
        have hw4 : wrap64 (hi o ss ds k + if p < 0 then 0 else p) = hi o ss ds (k + 1) := by rw [show (if p < 0 then 0 else p) = max p 0 by split <;> omega, eh]; exact wrap_mid (by omega) (by omega)
        clear c0 c1 hz hd el eh HI hdl hsp hp bd bl bl0 bh0 oo cc HBd
        go_wp2
        go_roundw
        case rel => exact ⟨k + 1, m, by first | rfl | rw [hw3], by first | rfl | rw [hw4], by go_num, by omega, BD', HI', rfl⟩
        case measure => simp [intOf]; omega
    · obtain rfl : k = M := by omega
      by_cases hlow : 0 ≤ lo o ss ds k
      · by_cases htop : hi o ss ds k < c
        · have HR : Hid (true = r) := HT.out ⟨HO.out, fun j hj => HI.out j (by rw [← HM.out]; exact hj), by rw [HM.out]; exact hlow, by rw [HM.out]; exact htop⟩
          clear HI HBd
          go_wp2
          go_ret
          exact ⟨ret_b (by first | exact HR.out | (rw [← HR.out]; simp [htop])), below_dN hBV _⟩
        · have HR : Hid (false = r) := HF.out fun h => by have := h.top; rw [HM.out] at this; omega
          clear HI HBd
          go_wp2
          go_ret
          exact ⟨ret_b (by first | exact HR.out | (rw [← HR.out]; simp [htop])), below_dN hBV _⟩
      · have HR : Hid (false = r) := HF.out fun h => by have := h.low; rw [HM.out] at this; omega
        clear HI HBd
        go_wp2
        go_ret
        exact ⟨ret_b HR.out, below_dN hBV _⟩
end Go.Proofs.Ytccknfhhmdoffaa

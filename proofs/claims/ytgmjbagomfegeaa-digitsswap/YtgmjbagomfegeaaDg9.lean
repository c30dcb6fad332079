/-
  What the document's Once (layer 9) and digits.Swap answer. No condition but that the rows lie there.
-/
import Derived.Test.YtgmjbagomfegeaaDg8
namespace Go.Proofs.Ytgmjbagomfegeaa
set_option linter.unusedVariables false
open Go.RowKit

/-! ### Once -/
def onB (zs : List Int) (k : Nat) : Bool := decide (∀ m, m < k → zs.count (m : Int) = 1)
theorem count_take {zs : List Int} {j : Nat} {z : Int} (hz : zs[j]? = some z) (n : Int) : (zs.take (j + 1)).count n = (zs.take j).count n + if z = n then 1 else 0 := by
  rw [List.take_add_one, hz, List.count_append]
  simp [List.count_cons]
theorem once_ev_iff (zs : List Int) : evB zs.length zs = decide (∀ m, m < zs.length → zs.count (m : Int) = 1) := by
  rw [Bool.eq_iff_iff, ev_iff, decide_eq_true_iff]
  exact ⟨fun h m hm => ev_once h m hm, fun h => once_ev h⟩
set_option maxHeartbeats 1000000 in
theorem once_any (W : World) (A : Option Addr) (C : Nat) (zs : List Int) (hZ : ZAt W A C zs) : AnsQ W 18 #[.slice A zs.length C] (.bool (evB zs.length zs)) := by
  rw [once_ev_iff]
  intro w hw
  have hlen := hZ.len
  obtain ⟨L, hL⟩ : ∃ L, zs.length = L := ⟨_, rfl⟩
  have HL : Hid (zs.length = L) := hL
  rw [hL] at hlen ⊢
  clear hL
  obtain ⟨R, hR⟩ : ∃ R, decide (∀ m, m < L → zs.count (m : Int) = 1) = R := ⟨_, rfl⟩
  have HR : Hid (decide (∀ m, m < L → zs.count (m : Int) = 1) = R) := hR
  rw [hR]
  clear hR
  go_enter Try.func18, Try.ntmps18
  go_wp2
  go_loopw [9] (fun v wr => ∃ k : Nat, v = .int .i64 k ∧ k ≤ L ∧ Hid (∀ m, m < k → zs.count (m : Int) = 1) ∧ wr = w) (fun v _ => L - (intOf v).toNat)
  case atStart => exact ⟨0, rfl, by omega, fun j hj => absurd hj (by omega), rfl⟩
  case round =>
    obtain ⟨n, rfl, hn, HI, rfl⟩ := hrel
    by_cases hlt : n < L
    · go_wp2
      go_loopw [4, 14] (fun x v wx => ∃ c j : Nat, x = .int .i64 (c : Int) ∧ v = .int .i64 (j : Int) ∧ j ≤ L ∧ c ≤ j ∧ Hid (c = (zs.take j).count (n : Int)) ∧ wx = wr) (fun _ v _ => L - (intOf v).toNat)
      case atStart => exact ⟨0, 0, rfl, rfl, by omega, by omega, by unfold Hid; simp, rfl⟩
      case round =>
        obtain ⟨c, j, rfl, rfl, hj, hcj, HC, rfl⟩ := hrel
        by_cases hjl : j < L
        · obtain ⟨z, hz⟩ : ∃ z, zs[j]? = some z := ⟨_, List.getElem?_eq_getElem (by rw [HL.out]; exact hjl)⟩
          obtain ⟨b, o, rfl, hb, c0, _⟩ := hZ.get j z hz
          have c0' := ((bcell hw).1 b (o + j) hb).trans c0
          have hct := count_take hz (n : Int)
          by_cases he : z = (n : Int)
          · have HC' : Hid (c + 1 = (zs.take (j + 1)).count (n : Int)) := by unfold Hid; rw [hct, ← HC.out, if_pos he]
            clear c0 hz HC hct
            go_wp2
            go_roundw
            case rel => exact ⟨c + 1, j + 1, by go_num, by go_num, by omega, by omega, HC', by first | rfl | trivial⟩
            case measure => simp [intOf]; omega
          · have HC' : Hid (c = (zs.take (j + 1)).count (n : Int)) := by unfold Hid; rw [hct, ← HC.out, if_neg he, Nat.add_zero]
            clear c0 hz HC hct
            go_wp2
            go_roundw
            case rel => exact ⟨c, j + 1, by first | rfl | go_num, by go_num, by omega, by omega, HC', by first | rfl | trivial⟩
            case measure => simp [intOf]; omega
        · obtain rfl : j = L := by omega
          have hall : Hid (c = zs.count (n : Int)) := by unfold Hid; rw [HC.out, ← HL.out, List.take_length]
          by_cases h1 : c = 1
          · have HI' : Hid (∀ m, m < n + 1 → zs.count (m : Int) = 1) := fun m hm => by
              by_cases e : m < n
              · exact HI.out m e
              · obtain rfl : m = n := by omega
                rw [← hall.out]; exact h1
            have h1i : (c : Int) = 1 := by omega
            subst h1
            clear HC HI hall h1i
            go_wp2
            go_roundw
            case rel => exact ⟨n + 1, by go_num, by omega, HI', by first | rfl | trivial⟩
            case measure => simp [intOf]; omega
          · have HE : Hid (R = false) := by
              unfold Hid
              rw [← HR.out, decide_eq_false_iff_not]
              intro h
              exact h1 (by rw [hall.out]; exact h n hlt)
            have h1i : ¬ (c : Int) = 1 := by omega
            clear HC HI hall h1
            go_wp2
            go_ret
            exact ⟨ret_b HE.out.symm, rfl⟩
    · obtain rfl : n = L := by omega
      have HE : Hid (R = true) := by
        unfold Hid; rw [← HR.out, decide_eq_true_iff]; exact HI.out
      clear HI
      go_wp2
      go_ret
      exact ⟨ret_b HE.out.symm, rfl⟩

/-! ### Swap -/
theorem swap_no (W : World) (A : Option Addr) (C n : Nat) (B : Option Addr) (D : Nat) (zs : List Int) (hZ : ZAt W B D zs) (hn : n ≤ 16777216) (h : evB n zs = false) : AnsB W 17 #[.slice A n C, .slice B zs.length D] (.bool false) := by
  intro w hw
  have HE := eachOnce_any W B D zs hZ n hn
  rw [h] at HE
  generalize zs.length = L at HE ⊢
  clear hZ hn h
  go_enter Try.func17, Try.ntmps17
  go_wp2_with (go_at_call 25; with_reducible refine AnsB.use HE hw fun w2 hb2 => ?_)
  go_ret
  exact ⟨rfl, hb2⟩
/-- The list as Swap leaves it, after k places. -/
def sw (xs : List Nat) (zs : List Int) (k : Nat) : List Nat := (List.range xs.length).map fun j => if j < k then xs.getD (zs.getD j 0).toNat 0 else xs.getD j 0
theorem sw_len (xs : List Nat) (zs : List Int) (k : Nat) : (sw xs zs k).length = xs.length := by simp [sw]
theorem sw_get {xs : List Nat} {zs : List Int} {k j : Nat} (h : j < xs.length) : (sw xs zs k)[j]? = some (if j < k then xs.getD (zs.getD j 0).toNat 0 else xs.getD j 0) := by
  unfold sw; rw [List.getElem?_map, List.getElem?_range h]; rfl
theorem sw_zero (xs : List Nat) (zs : List Int) : sw xs zs 0 = xs := by
  apply List.ext_getElem?
  intro j
  by_cases h : j < xs.length
  · rw [sw_get h, if_neg (by omega), List.getD_eq_getElem?_getD, List.getElem?_eq_getElem h]; rfl
  · rw [List.getElem?_eq_none (by rw [sw_len]; omega), List.getElem?_eq_none (by omega)]
theorem sw_set {xs : List Nat} {zs : List Int} {k p x : Nat} (hz : zs[k]? = some (p : Int)) (hx : xs[p]? = some x) : (sw xs zs k).set k x = sw xs zs (k + 1) := by
  apply List.ext_getElem?
  intro j
  rw [List.getElem?_set, sw_len]
  by_cases h : j < xs.length
  · rw [sw_get h, sw_get h]
    by_cases e : k = j
    · subst e
      rw [if_pos rfl, if_pos h, if_pos (by omega), List.getD_eq_getElem?_getD, List.getD_eq_getElem?_getD, hz]
      simp [hx]
    · rw [if_neg e]
      by_cases h2 : j < k
      · rw [if_pos h2, if_pos (by omega)]
      · rw [if_neg h2, if_neg (by omega)]
  · rw [List.getElem?_eq_none (by rw [sw_len]; omega), List.getElem?_eq_none (by rw [sw_len]; omega)]
    by_cases e : k = j
    · rw [if_pos e, if_neg (by omega)]
    · rw [if_neg e]
theorem sw_at {xs : List Nat} {zs : List Int} (hl : zs.length = xs.length) {j p x : Nat} (hz : zs[j]? = some (p : Int)) (hx : xs[p]? = some x) : (sw xs zs xs.length)[j]? = some x := by
  have hj : j < xs.length := by rw [← hl]; exact (List.getElem?_eq_some_iff.1 hz).1
  rw [sw_get hj, if_pos hj, List.getD_eq_getElem?_getD, List.getD_eq_getElem?_getD, hz]
  simp [hx]
theorem sw_small {xs : List Nat} {zs : List Int} {k : Nat} (h : ∀ x ∈ xs, x < 18446744073709551616) : ∀ x ∈ sw xs zs k, x < 18446744073709551616 := fun x hx => by
  obtain ⟨p, _, rfl⟩ := List.mem_map.1 hx
  have hd : ∀ i, xs.getD i 0 < 18446744073709551616 := fun i => by
    rw [List.getD_eq_getElem?_getD]
    cases e : xs[i]? with
    | none => simp
    | some y => exact h y (List.mem_of_getElem? e)
  split
  · exact hd _
  · exact hd _
theorem grownBy_set (W : World) (b k : Nat) (v : Value) : W.grownBy (W.setCell ⟨b, k, none⟩ v) (some b) :=
  ⟨rfl, rfl, rfl, (show W.heap.size ≤ (W.heap.modify b _).size by rw [Array.size_modify]; exact Nat.le_refl _), fun k _ hk => Below.heap_setCell _ _ _ k (fun e => hk (by rw [e]))⟩
theorem own_other {w : World} {base : Nat} {e : TypeId} {v : Value} {n : Nat} {xs : List Value} (h : w.ownsRow base e 1 v n xs) {g : Nat} (hne : v.ownBlock ≠ some g) (k : Nat) (u : Value) : (w.setCell ⟨g, k, none⟩ u).ownsRow base e 1 v n xs :=
  h.kept (row := some g) (grownBy_set _ _ _ _) (.inr hne)
theorem own_some {w : World} {base : Nat} {e : TypeId} {A : Option Addr} {C n : Nat} {xs : List Value} (h : w.ownsRow base e 1 (.slice A n C) n xs) (hn : 0 < n) : ∃ g, A = some ⟨g, 0, none⟩ := by
  rcases h.2 with ⟨_, hz⟩ | ⟨g, cap, cur, hv, _⟩
  · omega
  · simp only [Value.slice.injEq] at hv
    exact ⟨g, hv.1⟩
set_option maxHeartbeats 1000000 in
theorem swap_yes (W : World) (B : Option Addr) (D : Nat) (zs : List Int) (hZ : ZAt W B D zs) (w : World) (hw : Below W.heap.size W w) (A : Option Addr) (C : Nat) (xs : List Nat) (hX : OwnU w W.heap.size A C xs) (hn : xs.length ≤ 16777216) (hok : ∀ x ∈ xs, x < 18446744073709551616) (h : evB xs.length zs = true) :
    Calls Try.prog 17 #[.slice A xs.length C, .slice B zs.length D] w fun e w' => e = .returned (.bool true) ∧ OwnU w' W.heap.size A C (sw xs zs xs.length) ∧ Below W.heap.size W w' := by
  have HEv := ev_iff.1 h
  have HE := eachOnce_any W B D zs hZ xs.length hn
  rw [h] at HE
  have hZl : zs.length = xs.length := HEv.1
  rw [hZl] at HE ⊢
  have HZg : Hid (∀ k, k < xs.length → ∃ (p x : Nat), zs[k]? = some (p : Int) ∧ xs[p]? = some x ∧ p < xs.length) := fun k hk => by
    obtain ⟨z, hz⟩ : ∃ z, zs[k]? = some z := ⟨_, List.getElem?_eq_getElem (by omega)⟩
    have hb := HEv.2.1 z (List.mem_of_getElem? hz)
    obtain ⟨p, rfl⟩ := Int.eq_ofNat_of_zero_le hb.1
    exact ⟨p, _, hz, List.getElem?_eq_getElem (by omega), by omega⟩
  have HX : Hid (w.ownsRow W.heap.size 38 1 (.slice A xs.length C) xs.length (ucells xs)) := hX
  obtain ⟨n, hnn⟩ : ∃ n, xs.length = n := ⟨_, rfl⟩
  have HN : Hid (xs.length = n) := hnn
  have HOK : Hid (∀ x ∈ xs, x < 18446744073709551616) := hok
  have HSl : Hid (∀ k, (sw xs zs k).length = n) := fun k => by rw [sw_len]; exact hnn
  have HM : Hid (n ≤ 16777216) := by rw [← hnn]; exact hn
  rw [hnn] at HE HZg HX hn ⊢
  have hlen : (n : Int) ≤ 9223372036854775807 := by omega
  have HCl : Hid (∀ w2 : World, w2.ownsRow W.heap.size 38 1 (.slice A n C) n (ucells xs) → CloneU w2 (.slice A n C) xs) := fun w2 h2 => by
    have h3 : OwnU w2 W.heap.size A C xs := by unfold OwnU; rw [hnn]; exact h2
    have h4 := clone_any w2 A C xs (h3.words hok) (by omega)
    rw [hnn] at h4
    exact h4
  clear h HEv hX hZl hok hn hnn
  go_enter Try.func17, Try.ntmps17
  go_wp2_with (first
    | (go_at_call 25; (with_reducible refine AnsB.use HE hw fun w2 hb2 => ?_); have HX2 : Hid (w2.ownsRow W.heap.size 38 1 (.slice A n C) n (ucells xs)) := row_below HX.out hb2; have HU2 := HCl.out w2 HX2.out)
    | (go_at_call 26; refine CloneU.use HU2 (Below.refl _ _) fun A' C' w3 hO3 hb3 => ?_))
  have HX3 : Hid (w3.ownsRow W.heap.size 38 1 (.slice A n C) n (ucells xs)) := row_below HX2.out hb3
  have HO3 : Hid (w3.ownsRow w2.heap.size 38 1 (.slice A' n C') n (ucells xs)) := by unfold Hid; unfold OwnU at hO3; rw [HN.out] at hO3; exact hO3
  have HG : Hid (∀ g, (Value.slice A n C).ownBlock = some g → g < w2.heap.size) := fun g hg => (HX2.out.lt g hg).2
  have HB3 : Hid (Below W.heap.size W w3) := hw.trans ((bb hb2 hb3).mono hw.size)
  have HS0 : Hid (sw xs zs 0 = xs) := sw_zero xs zs
  try rw [HN.out]
  clear HX HX2 HU2 hO3 hb3 hb2 HE
  go_wp2
  go_loopw [17] (fun v wr => ∃ k : Nat, v = .int .i64 (k : Int) ∧ k ≤ n ∧ Hid (wr.ownsRow W.heap.size 38 1 (.slice A n C) n (ucells (sw xs zs k))) ∧ Hid (wr.ownsRow w2.heap.size 38 1 (.slice A' n C') n (ucells xs)) ∧ Hid (Below W.heap.size W wr)) (fun v _ => n - (intOf v).toNat)
  case atStart => exact ⟨0, rfl, by omega, (by unfold Hid; rw [HS0.out]; exact HX3.out), HO3, HB3⟩
  case round =>
    clear HX3 HO3 HB3 HS0
    obtain ⟨k, rfl, hk, HX, HO, HB⟩ := hrel
    by_cases hlt : k < n
    · obtain ⟨p, x, hz, hx, hp⟩ := HZg.out k hlt
      obtain ⟨g, rfl⟩ := own_some HX.out (by omega)
      obtain ⟨g', rfl⟩ := own_some HO.out (by omega)
      obtain ⟨b, o, rfl, hb, c0, _⟩ := hZ.get k (p : Int) hz
      have c0' := ((bcell HB.out).1 b (o + k) hb).trans c0
      have cx : wr.cell? ⟨g', p, none⟩ = some (.int .u64 (x : Int)) := (World.ownsRow.cellAt HO.out p (by omega)).trans (ucells_get hx)
      obtain ⟨y, hy⟩ : ∃ y : Nat, (sw xs zs k)[k]? = some y := ⟨_, List.getElem?_eq_getElem (by rw [HSl.out]; exact hlt)⟩
      have ck : wr.cell? ⟨g, k, none⟩ = some (.int .u64 (y : Int)) := (World.ownsRow.cellAt HX.out k (by omega)).trans (ucells_get hy)
      have fk : wr.frozen? ⟨g, k, none⟩ = false := World.ownsRow.frozenAt HX.out k
      have hg1 := (HX.out.lt g rfl).1
      have hg2 := HG.out g rfl
      have hg3 := (HO.out.lt g' rfl).1
      obtain ⟨hR3, _⟩ := World.ownsRow.stored HX.out k (.int .u64 (x : Int))
      have HX' : Hid ((wr.setCell ⟨g, k, none⟩ (.int .u64 (x : Int))).ownsRow W.heap.size 38 1 (.slice (some ⟨g, 0, none⟩) n C) n (ucells (sw xs zs (k + 1)))) := by
        unfold Hid; rw [← sw_set hz hx, ucells_set]; exact hR3
      have HO' : Hid ((wr.setCell ⟨g, k, none⟩ (.int .u64 (x : Int))).ownsRow w2.heap.size 38 1 (.slice (some ⟨g', 0, none⟩) n C') n (ucells xs)) := own_other HO.out (fun e => by have e' : g' = g := Option.some.inj e; omega) k _
      have HB' : Hid (Below W.heap.size W (wr.setCell ⟨g, k, none⟩ (.int .u64 (x : Int)))) := Below.setCell HB.out (p := ⟨g, k, none⟩) hg1 _
      clear c0 hz hx hy HX HO HB hR3 hg1 hg2 hg3
      go_wp2
      go_roundw
      case rel => exact ⟨k + 1, by go_num, by omega, HX', HO', HB'⟩
      case measure => simp [intOf]; omega
    · obtain rfl : k = n := by omega
      have HF : Hid (OwnU wr W.heap.size A C (sw xs zs k)) := by unfold Hid OwnU; rw [HSl.out]; exact HX.out
      clear HX HO
      go_wp2
      go_ret
      exact ⟨rfl, HF.out, HB.out⟩
end Go.Proofs.Ytgmjbagomfegeaa

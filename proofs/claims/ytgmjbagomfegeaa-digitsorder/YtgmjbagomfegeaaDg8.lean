/-
  What digits.hasEachOnce, digits.Swap and the document's Once answer. No condition but that the rows lie there.
-/
import Derived.Test.YtgmjbagomfegeaaDg7
namespace Go.Proofs.Ytgmjbagomfegeaa
set_option linter.unusedVariables false
open Go.RowKit

def rowB (N : Nat) (c : Nat → Bool) : List Value := (List.range N).map fun m => .bool (c m)
theorem rowB_get {N : Nat} {c : Nat → Bool} {m : Nat} (h : m < N) : (rowB N c)[m]? = some (.bool (c m)) := by
  unfold rowB; rw [List.getElem?_map, List.getElem?_range h]; rfl
def crossed (c : Nat → Bool) (j : Nat) : Nat → Bool := fun m => if m = j then true else c m
theorem rowB_set (N : Nat) (c : Nat → Bool) (j : Nat) : (rowB N c).set j (.bool true) = rowB N (crossed c j) := by
  apply List.ext_getElem?
  intro m
  rw [List.getElem?_set]
  by_cases hm : m < N
  · rw [rowB_get (c := crossed c j) hm]
    unfold crossed
    by_cases e : j = m
    · subst e; rw [if_pos rfl, if_pos (by simpa [rowB] using hm), if_pos rfl]
    · rw [if_neg e, if_neg (fun e' => e e'.symm), rowB_get hm]
  · have h1 : (rowB N c).length ≤ m := by simp [rowB]; omega
    have h2 : (rowB N (crossed c j)).length ≤ m := by simp [rowB]; omega
    rw [List.getElem?_eq_none h2]
    by_cases e : j = m
    · subst e; rw [if_pos rfl, if_neg (by omega)]
    · rw [if_neg e, List.getElem?_eq_none h1]
/-- What was met among the first k. -/
structure Met (n k : Nat) (zs : List Int) (c : Nat → Bool) : Prop where
  ok : ∀ (j : Nat) (z : Int), j < k → zs[j]? = some z → 0 ≤ z ∧ z < (n : Int)
  apart : ∀ (i j : Nat) (z : Int), i < j → j < k → zs[j]? = some z → zs[i]? = some z → False
  is : ∀ m : Nat, c m = true ↔ ∃ j, j < k ∧ zs[j]? = some (m : Int)
theorem Met.start (n : Nat) (zs : List Int) : Met n 0 zs fun _ => false := ⟨fun j z h => by omega, fun i j z h h2 => by omega, fun m => ⟨(fun h => by cases h), fun ⟨j, h, _⟩ => by omega⟩⟩
theorem Met.next {n k : Nat} {zs : List Int} {c : Nat → Bool} (h : Met n k zs c) {p : Nat} (hz : zs[k]? = some (p : Int)) (hp : p < n) (hc : c p = false) : Met n (k + 1) zs (crossed c p) := by
  refine ⟨fun j z hj hzj => ?_, fun i j z hij hj hzj hzi => ?_, fun m => ?_⟩
  · by_cases e : j = k
    · subst e; rw [hz] at hzj; cases hzj; omega
    · exact h.ok j z (by omega) hzj
  · by_cases e : j = k
    · subst e
      rw [hz] at hzj; cases hzj
      have : c p = true := (h.is p).2 ⟨i, hij, hzi⟩
      rw [hc] at this; cases this
    · exact h.apart i j z hij (by omega) hzj hzi
  · unfold crossed
    by_cases e : m = p
    · subst e
      rw [if_pos rfl]
      exact ⟨fun _ => ⟨k, by omega, hz⟩, fun _ => rfl⟩
    · rw [if_neg e, h.is m]
      constructor
      · rintro ⟨j, hj, hzj⟩; exact ⟨j, by omega, hzj⟩
      · rintro ⟨j, hj, hzj⟩
        refine ⟨j, ?_, hzj⟩
        by_cases e' : j = k
        · subst e'; rw [hz] at hzj
          have := Option.some.inj hzj
          omega
        · omega
theorem Met.all {n : Nat} {zs : List Int} {c : Nat → Bool} (hl : zs.length = n) (h : Met n n zs c) : Ev n zs :=
  ev_of hl (fun j z hz => h.ok j z (by have := (List.getElem?_eq_some_iff.1 hz).1; omega) hz) fun i j z hij hzj hzi => h.apart i j z hij (by have := (List.getElem?_eq_some_iff.1 hzj).1; omega) hzj hzi
theorem evB_len {n : Nat} {zs : List Int} (h : zs.length ≠ n) : evB n zs = false := evB_false fun he => h he.1

set_option maxHeartbeats 1000000 in
theorem eachOnce_any (W : World) (A : Option Addr) (C : Nat) (zs : List Int) (hZ : ZAt W A C zs) (n : Nat) (hn : n ≤ 16777216) : AnsB W 25 #[.slice A zs.length C, .int .i64 (n : Int)] (.bool (evB n zs)) := by
  intro w hw
  have hlen := hZ.len
  obtain ⟨ib, hib, hzb, hsb, hbb⟩ := info_parts infoB
  obtain ⟨L, hL⟩ : ∃ L, zs.length = L := ⟨_, rfl⟩
  have HL : Hid (zs.length = L) := hL
  rw [hL] at hlen ⊢
  clear hL
  by_cases hLn : L = n
  · subst hLn
    have HM : Hid (L ≤ 16777216) := hn
    clear hn
    go_enter Try.func25, Try.ntmps25
    go_wp2_with (at_make; refine Hid.out ?_)
    unfold Hid
    refine wpList_make_full _ rfl _ _ 50 rfl w.heap.size 4 ib _ 1 Try.underlying50 hib hzb hsb .i64 .i64 (L : Int) (L : Int) L rfl rfl rfl rfl (by have := HM.out; rw [hbb]; omega) (by have := HM.out; unfold maxLen; omega) (Nat.le_refl _) ?_
    intro w1 hR hG1
    have hR1 : w1.ownsRow w.heap.size 4 1 (.slice (some ⟨w.heap.size, 0, none⟩) L L) L (rowB L fun _ => false) := by
      have e : (madeCells (Value.bool false).cells (L * 1)).toList = rowB L fun _ => false := by
        rw [made_list rfl]
        apply List.ext_getElem?
        intro m
        by_cases hm : m < L
        · rw [rowB_get hm, List.getElem?_replicate, if_pos hm]
        · rw [List.getElem?_eq_none (by simp; omega), List.getElem?_eq_none (by simp [rowB]; omega)]
      rw [← e]; exact hR
    have hB1 : Below w.heap.size w w1 := (Below.refl _ _).grown hG1 (Nat.le_refl _) (fun k ek => by cases ek)
    obtain ⟨gc, hgc⟩ : ∃ gc, w.heap.size = gc := ⟨_, rfl⟩
    have HGC : Hid (w.heap.size = gc) := hgc
    rw [show (Value.slice (some ⟨w.heap.size, 0, none⟩) L L) = .slice (some ⟨gc, 0, none⟩) L L by rw [hgc]] at hR1
    have HR2 : Hid (w1.ownsRow w.heap.size 4 1 (.slice (some ⟨gc, 0, none⟩) L L) L (rowB L fun _ => false)) := hR1
    rw [hgc]
    clear hR hR1 hG1 hgc
    go_wp2
    go_loopw [16] (fun v wr => ∃ (k : Nat) (c : Nat → Bool), v = .int .i64 (k : Int) ∧ k ≤ L ∧ Hid (Met L k zs c) ∧ Hid (wr.ownsRow w.heap.size 4 1 (.slice (some ⟨gc, 0, none⟩) L L) L (rowB L c)) ∧ Below w.heap.size w wr) (fun v _ => L - (intOf v).toNat)
    case atStart => exact ⟨0, _, rfl, by omega, Met.start L zs, HR2, hB1⟩
    case round =>
      clear HR2 hB1
      obtain ⟨k, c, rfl, hk, HI, HO, hB⟩ := hrel
      by_cases hlt : k < L
      · obtain ⟨z, hz⟩ : ∃ z, zs[k]? = some z := ⟨_, List.getElem?_eq_getElem (by rw [HL.out]; exact hlt)⟩
        obtain ⟨b, o, rfl, hb, c0, _⟩ := hZ.get k z hz
        have hwB := hw.trans (hB.mono hw.size)
        have c0' := ((bcell hwB).1 b (o + k) hb).trans c0
        by_cases h0 : z < 0
        · have HE : Hid (evB L zs = false) := evB_false (ev_wrong hz (Or.inl h0))
          clear c0 hz HI HO
          go_wp2
          go_ret
          exact ⟨ret_b HE.out.symm, hB⟩
        · by_cases h1 : (L : Int) ≤ z
          · have HE : Hid (evB L zs = false) := evB_false (ev_wrong hz (Or.inr h1))
            have h2 : decide ((L : Int) ≤ z) = true := by simpa using h1
            clear c0 hz HI HO
            go_wp2
            go_ret
            exact ⟨ret_b HE.out.symm, hB⟩
          · obtain ⟨p, rfl⟩ := Int.eq_ofNat_of_zero_le (show 0 ≤ z by omega)
            have hp : p < L := by omega
            have hcp : wr.cell? ⟨gc, p, none⟩ = some (.bool (c p)) := (World.ownsRow.cellAt HO.out p (by omega)).trans (rowB_get hp)
            have hfp : wr.frozen? ⟨gc, p, none⟩ = false := World.ownsRow.frozenAt HO.out p
            cases hc : c p with
            | true =>
              have HE : Hid (evB L zs = false) := by
                obtain ⟨j, hj, hzj⟩ := (HI.out.is p).1 hc
                exact evB_false (ev_twice hz hj hzj)
              rw [hc] at hcp
              clear c0 hz HI HO hc
              go_wp2
              go_ret
              exact ⟨ret_b HE.out.symm, hB⟩
            | false =>
              have HI' : Hid (Met L (k + 1) zs (crossed c p)) := HI.out.next hz hp hc
              rw [hc] at hcp
              obtain ⟨hR3, hG3⟩ := World.ownsRow.stored HO.out p (.bool true)
              rw [rowB_set] at hR3
              have HO3 : Hid ((wr.setCell ⟨gc, p, none⟩ (.bool true)).ownsRow w.heap.size 4 1 (.slice (some ⟨gc, 0, none⟩) L L) L (rowB L (crossed c p))) := hR3
              have HB3 : Hid (Below w.heap.size w (wr.setCell ⟨gc, p, none⟩ (.bool true))) := hB.setCell (p := ⟨gc, p, none⟩) (by rw [HGC.out]; exact Nat.le_refl _) _
              clear c0 hz HI HO hc hR3 hG3
              go_wp2
              go_roundw
              case rel => exact ⟨k + 1, _, by go_num, by omega, HI', HO3, HB3.out⟩
              case measure => simp [intOf]; omega
      · obtain rfl : k = L := by omega
        have HE : Hid (evB k zs = true) := evB_true (HI.out.all HL.out)
        clear HI HO
        go_wp2
        go_ret
        exact ⟨ret_b HE.out.symm, hB⟩
  · have HE : Hid (evB n zs = false) := evB_len (by rw [HL.out]; exact hLn)
    have h1 : ¬ (L : Int) = (n : Int) := by omega
    clear hn
    go_enter Try.func25, Try.ntmps25
    go_wp2
    go_ret
    exact ⟨ret_b HE.out.symm, Below.refl _ _⟩
end Go.Proofs.Ytgmjbagomfegeaa

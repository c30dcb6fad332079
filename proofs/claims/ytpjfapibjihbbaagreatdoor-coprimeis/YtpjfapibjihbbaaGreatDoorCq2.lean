/-
  What coprime's turn answers: the rows of a table, each transformed, as the columns of another one. No condition but that the rows lie there.
-/
import Derived.Test.YtpjfapibjihbbaaGreatDoorCq1
namespace Go.Proofs.YtpjfapibjihbbaaGreatDoor
set_option linter.unusedVariables false
open Go.RowKit

/-- The first i rows are turned, of the next one j numbers. -/
def trS (r : Nat) (T : Nat → Nat → Nat) (i j m : Nat) : Nat := if m % r < i ∨ (m % r = i ∧ m / r < j) then T (m % r) (m / r) else 0
theorem trS_zero (r : Nat) (T : Nat → Nat → Nat) (m : Nat) : trS r T 0 0 m = 0 := by
  unfold trS
  generalize m / r = q
  generalize m % r = t
  rw [if_neg (by omega)]
theorem trS_row {r c n : Nat} (hn : r * c = n) (T : Nat → Nat → Nat) (i : Nat) {m : Nat} (hm : m < n) : trS r T i c m = trS r T (i + 1) 0 m := by
  have hlt : m / r < c := Nat.div_lt_of_lt_mul (by rw [hn]; exact hm)
  unfold trS
  generalize m / r = q at *
  generalize m % r = t at *
  by_cases h : t < i ∨ (t = i ∧ q < c)
  · rw [if_pos h, if_pos (by omega)]
  · rw [if_neg h, if_neg (by omega)]
theorem trS_all {r : Nat} (h1 : 1 ≤ r) (T : Nat → Nat → Nat) (m : Nat) : trS r T r 0 m = T (m % r) (m / r) := by
  unfold trS; rw [if_pos (.inl (Nat.mod_lt _ (by omega)))]
theorem trS_set {r c n i j : Nat} (hn : r * c = n) (hi : i < r) (hj : j < c) (T : Nat → Nat → Nat) : (mkL n (trS r T i j)).set (j * r + i) (T i j) = mkL n (trS r T i (j + 1)) := by
  have hmod : (j * r + i) % r = i := by rw [Nat.add_comm, Nat.add_mul_mod_self_right, Nat.mod_eq_of_lt hi]
  have hdiv : (j * r + i) / r = j := by rw [Nat.add_comm, Nat.add_mul_div_right _ _ (by omega), Nat.div_eq_of_lt hi, Nat.zero_add]
  apply List.ext_getElem?
  intro m
  rw [List.getElem?_set, mkL_len]
  by_cases h : m < n
  · rw [mkL_get _ h, mkL_get _ h]
    by_cases e : j * r + i = m
    · subst e
      rw [if_pos rfl, if_pos h]
      unfold trS
      rw [hmod, hdiv, if_pos (by omega)]
    · rw [if_neg e]
      have hne : ¬ (m % r = i ∧ m / r = j) := fun ⟨e1, e2⟩ => e (by rw [← e1, ← e2, Nat.mul_comm]; exact Nat.div_add_mod m r)
      unfold trS
      generalize m / r = q at *
      generalize m % r = t at *
      by_cases h2 : t < i ∨ (t = i ∧ q < j)
      · rw [if_pos h2, if_pos (by omega)]
      · rw [if_neg h2, if_neg (by omega)]
  · rw [List.getElem?_eq_none (by rw [mkL_len]; omega), List.getElem?_eq_none (by rw [mkL_len]; omega)]
    by_cases e : j * r + i = m
    · rw [if_pos e, if_neg (by rw [e]; exact h)]
    · rw [if_neg e]
theorem divB {x n q : Nat} (h : x / n = q) : Int.tdiv (x : Int) (n : Int) = (q : Int) := by rw [← h]; rfl
theorem raw_at {b i j K : Nat} (hK : i * b + j = K) (hK1 : K ≤ 1024) : wrap64 (wrap64 ((i : Int) * (b : Int)) + (j : Int)) = (K : Int) := by
  rw [mulW (a := i) (b := b) rfl (by omega), wrSum (by omega) (by omega), ← hK]; rfl
theorem UAt.part {w : World} {b o C : Nat} {xs : List Nat} (h : UAt w (some ⟨b, o, none⟩) C xs) {s c : Nat} (hs : s + c ≤ xs.length) : UAt w (some ⟨b, o + s, none⟩) (C - s) (mkL c fun j => atL xs (s + j)) := by
  have hcap := h.cap
  refine ⟨(fun e => by cases e), by rw [mkL_len]; omega, by have := h.max; omega, fun i y hy => ?_⟩
  have hi : i < c := by have := (List.getElem?_eq_some_iff.1 hy).1; rwa [mkL_len] at this
  rw [mkL_get _ hi] at hy
  cases hy
  obtain ⟨c0, hl, hb⟩ := h.at (i := s + i) (x := atL xs (s + i)) (by rw [List.getElem?_eq_getElem (by omega)]; unfold atL; rw [List.getD_eq_getElem?_getD, List.getElem?_eq_getElem (by omega)]; rfl)
  exact ⟨b, o + s, rfl, hb, by rw [Nat.add_assoc]; exact c0, hl⟩
set_option maxRecDepth 100000 in
set_option maxHeartbeats 2000000 in
theorem turn_walk (W : World) (v : Option Addr) (b o C n r c : Nat) (hn : r * c = n) (h1 : 1 ≤ r) (hc1 : 1 ≤ c) (hn2 : n ≤ 1024) (hcap : n ≤ C) (i : Bool) (T : Nat → Nat → Nat) (hT : ∀ k j, k < r → j < c → T k j < 18446744073709551616)
    (HL : ∀ w k, Below W.heap.size W w → k < r → OwnR w 45 #[.pointer v, .slice (some ⟨b, o + k * c, none⟩) c (C - k * c), .bool i] (mkL c (T k))) :
    OwnR W 22 #[.pointer v, .slice (some ⟨b, o, none⟩) n C, .int .i64 (c : Int), .bool i] (mkL n fun m => T (m % r) (m / r)) := by
  intro w hw
  rw [mkL_len]
  obtain ⟨ii, hii, hzi, hsi, hbi⟩ := info_parts infoWd
  have hlen : (n : Int) ≤ 9223372036854775807 := by omega
  have hdiv : n / c = r := by rw [← hn]; exact Nat.mul_div_cancel _ (by omega)
  have hq := divB hdiv
  have hc0 : ¬ (c : Int) = 0 := by omega
  have hrn : r ≤ 1024 := by have := Nat.mul_le_mul_left r hc1; omega
  have hcn : c ≤ 1024 := by have := Nat.mul_le_mul_right c h1; omega
  have hrw : wrap64 (r : Int) = (r : Int) := wrN (by omega)
  have HL' : Hid (∀ (w1 : World) (k : Nat) {R : Ending → World → Prop}, Below W.heap.size W w1 → k < r → (∀ g C1 w', OwnU w' w1.heap.size (some ⟨g, 0, none⟩) C1 (mkL c (T k)) → Below w1.heap.size w1 w' → R (.returned (.slice (some ⟨g, 0, none⟩) c C1)) w') → Calls Tryz.prog 45 #[.pointer v, .slice (some ⟨b, o + k * c, none⟩) c (C - k * c), .bool i] w1 R) :=
    fun w1 k R hw1 hk q => OwnR.useG (HL w1 k hw1 hk) (mkL_len _ _) hc1 (Below.refl _ _) q
  have HN : Hid (r * c = n ∧ 1 ≤ r ∧ 1 ≤ c) := ⟨hn, h1, hc1⟩
  have HW : Hid (Below W.heap.size W w) := hw
  have HT : Hid (∀ k j, k < r → j < c → T k j < 18446744073709551616) := hT
  clear hn h1 hc1 HL hT hw hdiv
  go_enter Tryz.func22, Tryz.ntmps22
  go_wp2_with (at_make; refine Hid.out ?_)
  unfold Hid
  refine wpList_make_full _ rfl _ _ 26 rfl w.heap.size 22 ii _ 1 Tryz.underlying26 hii hzi hsi .i64 .i64 (n : Int) (n : Int) n rfl rfl rfl rfl (by rw [hbi]; omega) (by unfold maxLen; omega) (Nat.le_refl _) ?_
  intro w1 hR hG1
  have hB1 : Below w.heap.size w w1 := (Below.refl _ _).grown hG1 (Nat.le_refl _) (fun k ek => by cases ek)
  obtain ⟨gc, hgc⟩ : ∃ gc, w.heap.size = gc := ⟨_, rfl⟩
  have hR2 : OwnU w1 w.heap.size (some ⟨w.heap.size, 0, none⟩) n (mkL n (trS r T 0 0)) := by
    unfold OwnU
    rw [mkL_len]
    have e : (madeCells (Value.int .u64 0).cells (n * 1)).toList = ucells (mkL n (trS r T 0 0)) := by
      rw [made_list rfl, mkL_ext (g := fun _ => 0) fun j _ => trS_zero r T j]
      unfold mkL ucells
      rw [List.map_const', List.length_range]; simp
    rw [← e]; exact hR
  have HGC : Hid (w.heap.size = gc) := hgc
  have HR2 : Hid (OwnU w1 w.heap.size (some ⟨gc, 0, none⟩) n (mkL n (trS r T 0 0))) := by unfold Hid; rw [← hgc]; exact hR2
  rw [show (Value.slice (some ⟨w.heap.size, 0, none⟩) n n) = .slice (some ⟨gc, 0, none⟩) n n by rw [hgc]]
  clear hR hR2 hG1 hgc hq
  go_wp2
  go_loopw [23] (fun v wr => ∃ k : Nat, v = .int .i64 (k : Int) ∧ k ≤ r ∧ Hid (OwnU wr w.heap.size (some ⟨gc, 0, none⟩) n (mkL n (trS r T k 0))) ∧ Below w.heap.size w wr) (fun v _ => r - (intOf v).toNat)
  case atStart => exact ⟨0, rfl, by omega, HR2, hB1⟩
  case round =>
    clear HR2 hB1
    obtain ⟨k, rfl, hk, HO, hB⟩ := hrel
    by_cases hlt : k < r
    · obtain ⟨s, hs⟩ : ∃ s, k * c = s := ⟨_, rfl⟩
      have hsn : s + c ≤ n := by
        have h1 := Nat.mul_le_mul_right c (show k + 1 ≤ r by omega)
        rw [Nat.add_mul, Nat.one_mul, HN.out.1] at h1
        omega
      have hst := mulW hs (by omega)
      have HLk : Hid (∀ {R : Ending → World → Prop}, (∀ g C1 w', OwnU w' wr.heap.size (some ⟨g, 0, none⟩) C1 (mkL c (T k)) → Below wr.heap.size wr w' → R (.returned (.slice (some ⟨g, 0, none⟩) c C1)) w') → Calls Tryz.prog 45 #[.pointer v, .slice (some ⟨b, o + s, none⟩) c (C - s), .bool i] wr R) := by
        intro R q
        have := HL'.out wr k (R := R) (bb HW.out hB) hlt q
        rw [hs] at this
        exact this
      clear hs
      go_wp2_with (go_at_call 45; with_reducible refine HLk.out fun g3 C3 w3 hO3 hb3 => ?_)
      have hrc : 1 ≤ n := by
        have := Nat.mul_le_mul HN.out.2.1 HN.out.2.2
        rw [HN.out.1] at this; omega
      obtain ⟨gx, egx, _, hgl, _, _⟩ := HO.out.get (mkL_get (trS r T k 0) (show 0 < n by omega))
      cases egx
      have hg3 := hO3.ge.1
      have hne : g3 ≠ gc := by omega
      have HRW : Hid (OwnU w3 w.heap.size (some ⟨g3, 0, none⟩) C3 (mkL c (T k))) := hO3.base hB.size
      have HO3 : Hid (OwnU w3 w.heap.size (some ⟨gc, 0, none⟩) n (mkL n (trS r T k 0))) := HO.out.below hb3
      have hB3 : Below w.heap.size w w3 := bb hB hb3
      clear HO hO3 hb3 hB HLk hgl hg3
      go_loopw [39] (fun v wi => ∃ j : Nat, v = .int .i64 (j : Int) ∧ j ≤ c ∧ Hid (OwnU wi w.heap.size (some ⟨g3, 0, none⟩) C3 (mkL c (T k))) ∧ Hid (OwnU wi w.heap.size (some ⟨gc, 0, none⟩) n (mkL n (trS r T k j))) ∧ Below w.heap.size w wi) (fun v _ => c - (intOf v).toNat)
      case atStart => exact ⟨0, rfl, by omega, HRW, HO3, hB3⟩
      case round =>
        clear HRW HO3 hB3
        obtain ⟨j, rfl, hj, HRW, HO, hB⟩ := hrel
        by_cases hlj : j < c
        · obtain ⟨q, hq⟩ : ∃ q, j * r + k = q := ⟨_, rfl⟩
          have hqn : q < n := by
            have := place_lt hlj hlt
            rw [Nat.mul_comm c r, HN.out.1, hq] at this
            exact this
          obtain ⟨g1, eg1, _, _, hc3, _⟩ := HRW.out.get (mkL_get (T k) hlj)
          cases eg1
          obtain ⟨g2, eg2, _, _, hck, hfz⟩ := HO.out.get (mkL_get (trS r T k j) hqn)
          cases eg2
          obtain ⟨y, hy⟩ : ∃ y, T k j = y := ⟨_, rfl⟩
          rw [hy] at hc3
          have HO4 : Hid (OwnU (wr.setCell ⟨gc, q, none⟩ (.int .u64 (y : Int))) w.heap.size (some ⟨gc, 0, none⟩) n (mkL n (trS r T k (j + 1)))) := by
            unfold Hid
            rw [← trS_set HN.out.1 hlt hlj T, hq, hy]
            exact HO.out.set q y
          have HRW2 : Hid (OwnU (wr.setCell ⟨gc, q, none⟩ (.int .u64 (y : Int))) w.heap.size (some ⟨g3, 0, none⟩) C3 (mkL c (T k))) := by
            unfold Hid OwnU
            exact own_other HRW.out (by show some g3 ≠ some gc; simpa using hne) q _
          have hB4 : Below w.heap.size w (wr.setCell ⟨gc, q, none⟩ (.int .u64 (y : Int))) := hB.setCell (p := ⟨gc, q, none⟩) (by rw [HGC.out]; exact Nat.le_refl _) _
          have hraw := raw_at hq (show q ≤ 1024 by omega)
          clear HO HRW hB hy hq
          go_wp2
          go_roundw
          case rel => exact ⟨j + 1, by go_num, by omega, HRW2, HO4, hB4⟩
          case measure => simp [intOf]; omega
        · obtain rfl : j = c := by omega
          have HO4 : Hid (OwnU wr w.heap.size (some ⟨gc, 0, none⟩) n (mkL n (trS r T (k + 1) 0))) := by
            unfold Hid
            rw [← mkL_ext fun m hm => trS_row HN.out.1 T k hm]
            exact HO.out
          clear HO HRW
          go_wp2
          go_roundw
          case rel => exact ⟨k + 1, by go_num, by omega, HO4, hB⟩
          case measure => simp [intOf]; omega
    · obtain rfl : k = r := by omega
      have HO4 : Hid (OwnU wr w.heap.size (some ⟨gc, 0, none⟩) n (mkL n fun m => T (m % k) (m / k))) := by
        have := HO.out
        rw [mkL_ext (n := n) (f := trS k T k 0) (g := fun m => T (m % k) (m / k)) fun m _ => trS_all HN.out.2.1 T m] at this
        exact this
      clear HO
      go_wp2
      go_ret
      exact ⟨_, _, rfl, HO4.out, hB⟩
end Go.Proofs.YtpjfapibjihbbaaGreatDoor

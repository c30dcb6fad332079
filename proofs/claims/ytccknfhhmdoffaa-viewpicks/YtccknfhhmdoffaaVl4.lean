/-
  The walk of ViewPermutes: it answers true, of every view and order. No condition but that the rows lie there.
-/
import Derived.Test.YtccknfhhmdoffaaVd1
import Derived.Test.YtccknfhhmdoffaaVp1
namespace Go.Proofs.Ytccknfhhmdoffaa
set_option linter.unusedVariables false
open Go.RowKit

theorem L1.new (W w : World) (hw : Below W.heap.size W w) (t : TypeId) (x y z : Value) : L1 W w w.heap.size t #[x, y, z] (w.alloc (.cells #[x, y, z] t)) :=
  ⟨hw.trans ((below_alloc _ _).mono hw.size), below_alloc _ _, Blk.new _ _ _⟩
theorem L1.two {W w : World} {B : Nat} {t : TypeId} {vv : Array Value} {X : World} (h : L1 W w B t vv X) (u : TypeId) (x y z : Value) : L2 W w B X.heap.size t u vv #[x, y, z] (X.alloc (.cells #[x, y, z] u)) :=
  ⟨(h.next (below_alloc _ _)).hW, (h.next (below_alloc _ _)).hB, h.blk.alloc _, Blk.new _ _ _⟩
theorem L2.cells {W w : World} {B D : Nat} {t u : TypeId} {x y z x' y' z' : Value} {X : World} (S : L2 W w B D t u #[x, y, z] #[x', y', z'] X) : X.cell? ⟨B, 0, none⟩ = some x ∧ X.cell? ⟨B, 1, none⟩ = some y ∧ X.cell? ⟨B, 2, none⟩ = some z ∧ X.cell? ⟨D, 0, none⟩ = some x' ∧ X.cell? ⟨D, 1, none⟩ = some y' ∧ X.cell? ⟨D, 2, none⟩ = some z' :=
  ⟨S.b1.three.1, S.b1.three.2.1, S.b1.three.2.2.1, S.b2.three.1, S.b2.three.2.1, S.b2.three.2.2.1⟩
/-- Four marks. -/
def sn4 (b : Nat → Bool) : Array Value := #[.bool (b 0), .bool (b 1), .bool (b 2), .bool (b 3)]
theorem sn4_get (b : Nat → Bool) {k : Nat} (hk : k < 4) : (sn4 b)[k]? = some (.bool (b k)) := by
  match k, hk with
  | 0, _ => rfl
  | 1, _ => rfl
  | 2, _ => rfl
  | 3, _ => rfl
theorem sn4_set (b : Nat → Bool) {k : Nat} (hk : k < 4) (v : Bool) : (sn4 b).setIfInBounds k (.bool v) = sn4 fun j => if j = k then v else b j := by
  match k, hk with
  | 0, _ => simp [sn4]
  | 1, _ => simp [sn4]
  | 2, _ => simp [sn4]
  | 3, _ => simp [sn4]
/-- Which axes are met. -/
def mt4 (xs : List Int) (k : Nat) (i : Nat) : Bool := inB (xs.take k) (i : Int)
theorem mt4_next {xs : List Int} {k j : Nat} (hx : xs[k]? = some (j : Int)) (hj : j < 4) : (sn4 (mt4 xs k)).setIfInBounds j (.bool true) = sn4 (mt4 xs (k + 1)) := by
  rw [sn4_set _ hj]
  congr 1
  funext i
  unfold mt4 inB
  rw [take_snoc hx]
  by_cases e : i = j
  · subst e; simp
  · rw [if_neg e]
    have : ¬ (i : Int) = (j : Int) := by omega
    simp [this]
theorem zero_sn4 (w : World) : Go.Sem.run Try.prog (Go.zeroValue 43) w = .ok (.agg (sn4 fun _ => false)) w := by kernel_rfl
theorem mt4_zero (xs : List Int) : (sn4 fun _ => false) = sn4 (mt4 xs 0) := by
  congr 1

set_option maxHeartbeats 1000000 in
theorem permutes_great (W : World) (o : Int) (A : Option Addr) (L C : Nat) (A' : Option Addr) (L' C' : Nat) (X : Option Addr) (N CX : Nat) (h : gtB L L' = true) : AnsB W 5 #[vw o A L C A' L' C', .slice X N CX] (.bool true) := by
  intro w hw
  have HA := alive_any W
  have HG := great_any W o A L C A' L' C'
  rw [h] at HG
  clear h
  unfold vw at *
  have S := L1.new W w hw 24 (.int .i64 o) (.slice A L C) (.slice A' L' C')
  go_enter Try.func5, Try.ntmps5
  go_wp2_with (first
    | (go_at_call 10; (with_reducible refine L1.use HA S fun X2 S hb q0 q1 q2 => ?_))
    | (go_at_call 11; (with_reducible refine L1.use HG S fun X3 S hb q0 q1 q2 => ?_)))
  go_ret
  exact ⟨rfl, S.hB⟩
set_option maxHeartbeats 1000000 in
theorem permutes_many (W : World) (o : Int) (A : Option Addr) (L C : Nat) (A' : Option Addr) (L' C' : Nat) (X : Option Addr) (N CX : Nat) (h : gtB L L' = false) (hN : 20 < N) : AnsB W 5 #[vw o A L C A' L' C', .slice X N CX] (.bool true) := by
  intro w hw
  have HA := alive_any W
  have HG := great_any W o A L C A' L' C'
  rw [h] at HG
  have hN' : (20 : Int) < (N : Int) := by omega
  clear h hN
  unfold vw at *
  have S := L1.new W w hw 24 (.int .i64 o) (.slice A L C) (.slice A' L' C')
  go_enter Try.func5, Try.ntmps5
  go_wp2_with (first
    | (go_at_call 10; (with_reducible refine L1.use HA S fun X2 S hb q0 q1 q2 => ?_))
    | (go_at_call 11; (with_reducible refine L1.use HG S fun X3 S hb q0 q1 q2 => ?_)))
  go_ret
  exact ⟨rfl, S.hB⟩
set_option maxHeartbeats 1000000 in
theorem permutes_err (W : World) (o : Int) (A : Option Addr) (L C : Nat) (A' : Option Addr) (L' C' : Nat) (X : Option Addr) (N CX : Nat) (h : gtB L L' = false) (hN : ¬ 20 < N) (e : Int) (he : e ≠ 0) (HP : AnsB W 21 #[vw o A L C A' L' C', .slice X N CX] (.tuple #[vw0, .int .i64 e])) (HR : AnsB W 14 #[vw o A L C A' L' C', .int .i64 4096] (.int .i64 e)) : AnsB W 5 #[vw o A L C A' L' C', .slice X N CX] (.bool true) := by
  intro w hw
  have HA := alive_any W
  have HG := great_any W o A L C A' L' C'
  have HO := of_any W o A L C A' L' C'
  have HE := empty_any W
  rw [h] at HG
  have hN' : ¬ (20 : Int) < (N : Int) := by omega
  unfold vw vw0 at *
  have S := L1.new W w hw 24 (.int .i64 o) (.slice A L C) (.slice A' L' C')
  clear h hN
  go_enter Try.func5, Try.ntmps5
  go_wp2_with (first
    | (go_at_call 10; (with_reducible refine L1.use HA S fun X2 S hb q0 q1 q2 => ?_))
    | (go_at_call 11; (with_reducible refine L1.use HG S fun X3 S hb q0 q1 q2 => ?_))
    | (go_at_call 12; (with_reducible refine L1.use HO S fun X4 S hb q0 q1 q2 => ?_))
    | (go_at_call 21; (with_reducible refine L1.use HP S fun X5 S hb q0 q1 q2 => ?_); have T := S.two 28 (.int .i64 0) (.slice none 0 0) (.slice none 0 0); obtain ⟨q0, q1, q2, p0, p1, p2⟩ := T.cells)
    | (go_at_call 14; (with_reducible refine L2.use HR T fun X6 T hb q0 q1 q2 p0 p1 p2 => ?_))
    | (go_at_call 20; (with_reducible refine L2.use HE T fun X7 T hb q0 q1 q2 p0 p1 p2 => ?_)))
  go_ret
  exact ⟨rfl, T.hB⟩
set_option maxRecDepth 20000 in
set_option maxHeartbeats 4000000 in
theorem permutes_bad1 (W : World) (o : Int) (A : Option Addr) (L C : Nat) (A' : Option Addr) (L' C' : Nat) (X : Option Addr) (N CX : Nat) (h : gtB L L' = false) (hN : ¬ 20 < N) (hL4 : L ≤ 4) (xs : List Int) (hX : ZAt W X CX xs) (hxN : xs.length = N) (hbad : eoB L xs = false) (hNL : N = L)
    (HP : AnsB W 21 #[vw o A L C A' L' C', .slice X N CX] (.tuple #[vw0, .int .i64 10])) (HR : AnsB W 14 #[vw o A L C A' L' C', .int .i64 4096] (.int .i64 0)) : AnsB W 5 #[vw o A L C A' L' C', .slice X N CX] (.bool true) := by
  intro w hw
  have HA := alive_any W
  have HG := great_any W o A L C A' L' C'
  have HO := of_any W o A L C A' L' C'
  have HE := empty_any W
  rw [h] at HG
  have hN' : ¬ (20 : Int) < (N : Int) := by omega
  have HN : Hid (xs.length = N) := hxN
  have HBad : Hid (eoB L xs = false) := hbad
  have HL4 : Hid (L ≤ 4) := hL4
  have HNL : Hid (N = L) := hNL
  have hNLi : (N : Int) = (L : Int) := by omega
  have hz4 := zero_sn4
  unfold vw vw0 at *
  have S := L1.new W w hw 24 (.int .i64 o) (.slice A L C) (.slice A' L' C')
  clear h hbad hxN hL4 hNL
  go_enter Try.func5, Try.ntmps5
  go_wp2_with (first
    | (go_at_call 10; (with_reducible refine L1.use HA S fun X2 S hb q0 q1 q2 => ?_))
    | (go_at_call 11; (with_reducible refine L1.use HG S fun X3 S hb q0 q1 q2 => ?_))
    | (go_at_call 12; (with_reducible refine L1.use HO S fun X4 S hb q0 q1 q2 => ?_))
    | (go_at_call 21; (with_reducible refine L1.use HP S fun X5 S hb q0 q1 q2 => ?_); have T := S.two 28 (.int .i64 0) (.slice none 0 0) (.slice none 0 0); obtain ⟨q0, q1, q2, p0, p1, p2⟩ := T.cells)
    | (go_at_call 14; (with_reducible refine L2.use HR T fun X6 T hb q0 q1 q2 p0 p1 p2 => ?_)))
  have b4 := Blk.new X6 43 (sn4 fun _ => false)
  have ltP := T.b2.lt
  have ltB := T.b1.lt
  have T := T.next (below_alloc X6 (.cells (sn4 fun _ => false) 43))
  rw [mt4_zero xs] at b4
  obtain ⟨P, hP⟩ : ∃ P, X5.heap.size = P := ⟨_, rfl⟩
  obtain ⟨Q, hQ⟩ : ∃ Q, X6.heap.size = Q := ⟨_, rfl⟩
  rw [hP] at T ltP ⊢
  rw [hQ] at b4 ltP ltB ⊢
  clear S hP hQ hb q0 q1 q2 p0 p1 p2
  go_loopw [8, 49] (fun y v wr => ∃ k : Nat, y = .bool true ∧ v = .int .i64 k ∧ k ≤ N ∧ Hid (Eo L (xs.take k)) ∧ L2 W w w.heap.size P 24 28 #[.int .i64 o, .slice A L C, .slice A' L' C'] #[.int .i64 0, .slice none 0 0, .slice none 0 0] wr ∧ Blk wr Q 43 (sn4 (mt4 xs k))) (fun _ v _ => N - (intOf v).toNat)
  case atStart => exact ⟨0, by first | rfl | simp [hNLi], rfl, by omega, ⟨by simp, by simp⟩, T, b4⟩
  case round =>
    obtain ⟨k, rfl, rfl, hk, HI, T, b4⟩ := hrel
    by_cases hlt : k < N
    · obtain ⟨x, hx⟩ : ∃ x, xs[k]? = some x := ⟨_, List.getElem?_eq_getElem (by rw [HN.out]; exact hlt)⟩
      obtain ⟨b, q, rfl, hb, c0, _⟩ := hX.get k x hx
      have c0' := ((bcell T.hW).1 b (q + k) hb).trans c0
      have hkN : (k : Int) < (N : Int) := by omega
      have hkw : wrap64 ((k : Int) + 1) = (k : Int) + 1 := wrap_next (by omega)
      obtain ⟨e0, e1, e2, p0, p1, p2⟩ := T.cells
      have HT : Hid (L2 W w w.heap.size P 24 28 #[.int .i64 o, .slice A L C, .slice A' L' C'] #[.int .i64 0, .slice none 0 0, .slice none 0 0] wr) := T
      have HX : Hid (xs[k]? = some x) := hx
      have H4 : Hid (Blk wr Q 43 (sn4 (mt4 xs k))) := b4
      have HTu := fun {R : Ending → World → Prop} k => L2.use (R := R) HE T k
      clear T hx c0 b4
      by_cases h0 : x < 0
      · clear HI
        go_wp2_with (go_at_call 20; refine HTu fun X7 T hb q0 q1 q2 p0 p1 p2 => ?_)
        go_ret
        exact ⟨rfl, T.hB⟩
      by_cases h1 : (L : Int) ≤ x
      · clear HI
        go_wp2_with (go_at_call 20; refine HTu fun X7 T hb q0 q1 q2 p0 p1 p2 => ?_)
        go_ret
        exact ⟨rfl, T.hB⟩
      obtain ⟨j, rfl⟩ := Int.eq_ofNat_of_zero_le (show 0 ≤ x by omega)
      have hj4 : j < 4 := by have := HL4.out; omega
      have hj4' : (j : Int) < 4 := by omega
      have c4 : wr.cell? ⟨Q, j, none⟩ = some (.bool (mt4 xs k j)) := (H4.out.cell j).trans (sn4_get _ hj4)
      have f4 := H4.out.frozen j
      have HM : Hid ((sn4 (mt4 xs k)).setIfInBounds j (.bool true) = sn4 (mt4 xs (k + 1))) := mt4_next HX.out hj4
      have HEo : Hid (mt4 xs k j = false → Eo L (xs.take (k + 1))) := fun hm => eo_next HI.out HX.out (by simp [axB]; omega) hm
      cases hm : mt4 xs k j with
      | true =>
        rw [hm] at c4
        clear HI HM HEo hm
        go_wp2_with (go_at_call 20; refine HTu fun X7 T hb q0 q1 q2 p0 p1 p2 => ?_)
        go_ret
        exact ⟨rfl, T.hB⟩
      | false =>
        rw [hm] at c4
        have HE2 : Hid (Eo L (xs.take (k + 1))) := HEo.out hm
        have hQ1 : w.heap.size ≠ Q := by omega
        have HQ2 : Hid (L2 W w w.heap.size P 24 28 #[.int .i64 o, .slice A L C, .slice A' L' C'] #[.int .i64 0, .slice none 0 0, .slice none 0 0] (wr.setCell ⟨Q, j, none⟩ (.bool true))) := ⟨HT.out.hW.setCell (p := ⟨Q, j, none⟩) (by show W.heap.size ≤ Q; have := hw.size; omega) _, HT.out.hB.setCell (p := ⟨Q, j, none⟩) (by show w.heap.size ≤ Q; omega) _, HT.out.b1.other (by omega) _ _, HT.out.b2.other (by omega) _ _⟩
        have H42 : Hid (Blk (wr.setCell ⟨Q, j, none⟩ (.bool true)) Q 43 (sn4 (mt4 xs (k + 1)))) := by unfold Hid; rw [← HM.out]; exact H4.out.set j _
        clear HI HM HEo hm HTu
        go_wp2
        go_roundw
        case rel => exact ⟨k + 1, rfl, by rw [nat_next], hlt, HE2, HQ2.out, H42.out⟩
        case measure => exact sub_next hlt
    · obtain rfl : k = N := by omega
      have hb := HBad.out
      have hI := HI.out
      rw [HNL.out] at hI
      rw [eo_yes (L := L) (xs := xs) (by rw [HN.out, HNL.out]) hI] at hb
      cases hb
set_option maxRecDepth 20000 in
set_option maxHeartbeats 4000000 in
theorem permutes_bad2 (W : World) (o : Int) (A : Option Addr) (L C : Nat) (A' : Option Addr) (L' C' : Nat) (X : Option Addr) (N CX : Nat) (h : gtB L L' = false) (hN : ¬ 20 < N) (hL4 : L ≤ 4) (xs : List Int) (hX : ZAt W X CX xs) (hxN : xs.length = N) (hbad : eoB L xs = false) (hNL : ¬ N = L)
    (HP : AnsB W 21 #[vw o A L C A' L' C', .slice X N CX] (.tuple #[vw0, .int .i64 10])) (HR : AnsB W 14 #[vw o A L C A' L' C', .int .i64 4096] (.int .i64 0)) : AnsB W 5 #[vw o A L C A' L' C', .slice X N CX] (.bool true) := by
  intro w hw
  have HA := alive_any W
  have HG := great_any W o A L C A' L' C'
  have HO := of_any W o A L C A' L' C'
  have HE := empty_any W
  rw [h] at HG
  have hN' : ¬ (20 : Int) < (N : Int) := by omega
  have HN : Hid (xs.length = N) := hxN
  have HBad : Hid (eoB L xs = false) := hbad
  have HL4 : Hid (L ≤ 4) := hL4
  have HNL : Hid (¬ N = L) := hNL
  have hNLi : ¬ (N : Int) = (L : Int) := by omega
  have hz4 := zero_sn4
  unfold vw vw0 at *
  have S := L1.new W w hw 24 (.int .i64 o) (.slice A L C) (.slice A' L' C')
  clear h hbad hxN hL4 hNL
  go_enter Try.func5, Try.ntmps5
  go_wp2_with (first
    | (go_at_call 10; (with_reducible refine L1.use HA S fun X2 S hb q0 q1 q2 => ?_))
    | (go_at_call 11; (with_reducible refine L1.use HG S fun X3 S hb q0 q1 q2 => ?_))
    | (go_at_call 12; (with_reducible refine L1.use HO S fun X4 S hb q0 q1 q2 => ?_))
    | (go_at_call 21; (with_reducible refine L1.use HP S fun X5 S hb q0 q1 q2 => ?_); have T := S.two 28 (.int .i64 0) (.slice none 0 0) (.slice none 0 0); obtain ⟨q0, q1, q2, p0, p1, p2⟩ := T.cells)
    | (go_at_call 14; (with_reducible refine L2.use HR T fun X6 T hb q0 q1 q2 p0 p1 p2 => ?_)))
  have b4 := Blk.new X6 43 (sn4 fun _ => false)
  have ltP := T.b2.lt
  have ltB := T.b1.lt
  have T := T.next (below_alloc X6 (.cells (sn4 fun _ => false) 43))
  rw [mt4_zero xs] at b4
  obtain ⟨P, hP⟩ : ∃ P, X5.heap.size = P := ⟨_, rfl⟩
  obtain ⟨Q, hQ⟩ : ∃ Q, X6.heap.size = Q := ⟨_, rfl⟩
  rw [hP] at T ltP ⊢
  rw [hQ] at b4 ltP ltB ⊢
  clear S hP hQ hb q0 q1 q2 p0 p1 p2
  go_loopw [8, 49] (fun y v wr => ∃ k : Nat, y = .bool false ∧ v = .int .i64 k ∧ k ≤ N ∧ Hid (Eo L (xs.take k)) ∧ L2 W w w.heap.size P 24 28 #[.int .i64 o, .slice A L C, .slice A' L' C'] #[.int .i64 0, .slice none 0 0, .slice none 0 0] wr ∧ Blk wr Q 43 (sn4 (mt4 xs k))) (fun _ v _ => N - (intOf v).toNat)
  case atStart => exact ⟨0, by first | rfl | simp [hNLi], rfl, by omega, ⟨by simp, by simp⟩, T, b4⟩
  case round =>
    obtain ⟨k, rfl, rfl, hk, HI, T, b4⟩ := hrel
    by_cases hlt : k < N
    · obtain ⟨x, hx⟩ : ∃ x, xs[k]? = some x := ⟨_, List.getElem?_eq_getElem (by rw [HN.out]; exact hlt)⟩
      obtain ⟨b, q, rfl, hb, c0, _⟩ := hX.get k x hx
      have c0' := ((bcell T.hW).1 b (q + k) hb).trans c0
      have hkN : (k : Int) < (N : Int) := by omega
      have hkw : wrap64 ((k : Int) + 1) = (k : Int) + 1 := wrap_next (by omega)
      obtain ⟨e0, e1, e2, p0, p1, p2⟩ := T.cells
      have HT : Hid (L2 W w w.heap.size P 24 28 #[.int .i64 o, .slice A L C, .slice A' L' C'] #[.int .i64 0, .slice none 0 0, .slice none 0 0] wr) := T
      have HX : Hid (xs[k]? = some x) := hx
      have H4 : Hid (Blk wr Q 43 (sn4 (mt4 xs k))) := b4
      have HTu := fun {R : Ending → World → Prop} k => L2.use (R := R) HE T k
      clear T hx c0 b4
      by_cases h0 : x < 0
      · clear HI
        go_wp2_with (go_at_call 20; refine HTu fun X7 T hb q0 q1 q2 p0 p1 p2 => ?_)
        go_ret
        exact ⟨rfl, T.hB⟩
      by_cases h1 : (L : Int) ≤ x
      · clear HI
        go_wp2_with (go_at_call 20; refine HTu fun X7 T hb q0 q1 q2 p0 p1 p2 => ?_)
        go_ret
        exact ⟨rfl, T.hB⟩
      obtain ⟨j, rfl⟩ := Int.eq_ofNat_of_zero_le (show 0 ≤ x by omega)
      have hj4 : j < 4 := by have := HL4.out; omega
      have hj4' : (j : Int) < 4 := by omega
      have c4 : wr.cell? ⟨Q, j, none⟩ = some (.bool (mt4 xs k j)) := (H4.out.cell j).trans (sn4_get _ hj4)
      have f4 := H4.out.frozen j
      have HM : Hid ((sn4 (mt4 xs k)).setIfInBounds j (.bool true) = sn4 (mt4 xs (k + 1))) := mt4_next HX.out hj4
      have HEo : Hid (mt4 xs k j = false → Eo L (xs.take (k + 1))) := fun hm => eo_next HI.out HX.out (by simp [axB]; omega) hm
      cases hm : mt4 xs k j with
      | true =>
        rw [hm] at c4
        clear HI HM HEo hm
        go_wp2_with (go_at_call 20; refine HTu fun X7 T hb q0 q1 q2 p0 p1 p2 => ?_)
        go_ret
        exact ⟨rfl, T.hB⟩
      | false =>
        rw [hm] at c4
        have HE2 : Hid (Eo L (xs.take (k + 1))) := HEo.out hm
        have hQ1 : w.heap.size ≠ Q := by omega
        have HQ2 : Hid (L2 W w w.heap.size P 24 28 #[.int .i64 o, .slice A L C, .slice A' L' C'] #[.int .i64 0, .slice none 0 0, .slice none 0 0] (wr.setCell ⟨Q, j, none⟩ (.bool true))) := ⟨HT.out.hW.setCell (p := ⟨Q, j, none⟩) (by show W.heap.size ≤ Q; have := hw.size; omega) _, HT.out.hB.setCell (p := ⟨Q, j, none⟩) (by show w.heap.size ≤ Q; omega) _, HT.out.b1.other (by omega) _ _, HT.out.b2.other (by omega) _ _⟩
        have H42 : Hid (Blk (wr.setCell ⟨Q, j, none⟩ (.bool true)) Q 43 (sn4 (mt4 xs (k + 1)))) := by unfold Hid; rw [← HM.out]; exact H4.out.set j _
        clear HI HM HEo hm HTu
        go_wp2
        go_roundw
        case rel => exact ⟨k + 1, rfl, by rw [nat_next], hlt, HE2, HQ2.out, H42.out⟩
        case measure => exact sub_next hlt
    · obtain rfl : k = N := by omega
      have HTu := fun {R : Ending → World → Prop} k => L2.use (R := R) HE T k
      obtain ⟨e0, e1, e2, p0, p1, p2⟩ := T.cells
      clear HI T b4
      go_wp2_with (go_at_call 20; refine HTu fun X7 T hb q0 q1 q2 p0 p1 p2 => ?_)
      go_ret
      exact ⟨rfl, T.hB⟩
end Go.Proofs.Ytccknfhhmdoffaa

/-
  What dft.Check and dft.Good, and the document's, answer. No condition but that the field and the list lie there.
-/
import Derived.Test.YtehljcflodilhaaGreatDoorF31
import Derived.Test.YtehljcflodilhaaGreatDoorF32
import Derived.Test.YtehljcflodilhaaGreatDoorF29
namespace Go.Proofs.YtehljcflodilhaaGreatDoor
set_option linter.unusedVariables false
open Go.RowKit

/-- What is wrong with a list of n, of at most so many. -/
def ckD (p : Nat) (n most : Int) : Int := if n < 1 then 1 else if most < n then 13 else if (p - 1) % n.toNat = 0 then 0 else 4
theorem ckD_arg {p : Nat} {n most : Int} (h : n < 1) : ckD p n most = 1 := by unfold ckD; rw [if_pos h]
theorem ckD_long {p : Nat} {n most : Int} (h : 1 ≤ n) (h2 : most < n) : ckD p n most = 13 := by unfold ckD; rw [if_neg (by omega), if_pos h2]
theorem ckD_no {p n : Nat} {most : Int} (h : 1 ≤ n) (h2 : (n : Int) ≤ most) (h3 : (p - 1) % n ≠ 0) : ckD p (n : Int) most = 4 := by
  unfold ckD; rw [if_neg (by omega), if_neg (by omega), Int.toNat_natCast, if_neg h3]
theorem ckD_yes {p n : Nat} {most : Int} (h : 1 ≤ n) (h2 : (n : Int) ≤ most) (h3 : (p - 1) % n = 0) : ckD p (n : Int) most = 0 := by
  unfold ckD; rw [if_neg (by omega), if_neg (by omega), Int.toNat_natCast, if_pos h3]
theorem ckD_ok {p n : Nat} {most : Int} (h : ckD p (n : Int) most = 0) : 1 ≤ n ∧ (n : Int) ≤ most ∧ (p - 1) % n = 0 := by
  by_cases h1 : (n : Int) < 1
  · rw [ckD_arg h1] at h; cases h
  · by_cases h2 : most < (n : Int)
    · rw [ckD_long (by omega) h2] at h; cases h
    · by_cases h3 : (p - 1) % n = 0
      · exact ⟨by omega, by omega, h3⟩
      · rw [ckD_no (by omega) (by omega) h3] at h; cases h
theorem ck_nil (w : World) (z m : Int) : AnsW w 35 #[.pointer none, .int .i64 z, .int .i64 m] (.int .i64 2) := by
  intro n
  go_enter Tryz.func35, Tryz.ntmps35
  go_wp2
  go_ret
  exact ⟨rfl, 0, rfl⟩
theorem ck_arg (w : World) (a : Addr) (z m : Int) (h : z < 1) : AnsW w 35 #[.pointer (some a), .int .i64 z, .int .i64 m] (.int .i64 1) := by
  intro n
  go_enter Tryz.func35, Tryz.ntmps35
  go_wp2
  go_ret
  exact ⟨rfl, 0, rfl⟩
theorem ck_long (w : World) (a : Addr) (z m : Int) (h : 1 ≤ z) (h2 : m < z) : AnsW w 35 #[.pointer (some a), .int .i64 z, .int .i64 m] (.int .i64 13) := by
  intro n
  go_enter Tryz.func35, Tryz.ntmps35
  go_wp2
  go_ret
  exact ⟨rfl, 0, rfl⟩
theorem ck_no (w : World) (a : Addr) (z m : Int) (h : 1 ≤ z) (h2 : z ≤ m) (HD : AnsW w 62 #[.pointer (some a), .int .i64 z] (.bool false)) : AnsW w 35 #[.pointer (some a), .int .i64 z, .int .i64 m] (.int .i64 4) := by
  intro n
  go_enter Tryz.func35, Tryz.ntmps35
  go_wp2_with (go_at_call 62; with_reducible refine AnsW.use HD _ fun n1 => ?_)
  go_ret
  exact ⟨rfl, _, rfl⟩
theorem ck_yes (w : World) (a : Addr) (z m : Int) (h : 1 ≤ z) (h2 : z ≤ m) (HD : AnsW w 62 #[.pointer (some a), .int .i64 z] (.bool true)) : AnsW w 35 #[.pointer (some a), .int .i64 z, .int .i64 m] (.int .i64 0) := by
  intro n
  go_enter Tryz.func35, Tryz.ntmps35
  go_wp2_with (go_at_call 62; with_reducible refine AnsW.use HD _ fun n1 => ?_)
  go_ret
  exact ⟨rfl, _, rfl⟩
theorem dftck_any {w : World} {b : Nat} {x : En} (F : FieldAt w b x) (z m : Int) (hz : z < 9223372036854775808) : AnsW w 35 #[pt b, .int .i64 z, .int .i64 m] (.int .i64 (ckD x.p z m)) := by
  by_cases h1 : z < 1
  · rw [ckD_arg h1]; exact ck_arg w _ z m h1
  · by_cases h2 : m < z
    · rw [ckD_long (by omega) h2]; exact ck_long w _ z m (by omega) h2
    · obtain ⟨n, rfl⟩ := Int.eq_ofNat_of_zero_le (show 0 ≤ z by omega)
      have HD := fDiv_any F (n : Int) hz
      by_cases h3 : (x.p - 1) % n = 0
      · rw [ckD_yes (by omega) (by omega) h3]
        exact ck_yes w _ n m (by omega) (by omega) (HD.to (by rw [dvB_nat (by omega) h3]))
      · rw [ckD_no (by omega) (by omega) h3]
        exact ck_no w _ n m (by omega) (by omega) (HD.to (by unfold dvB; rw [Int.toNat_natCast, decide_eq_false h3, Bool.and_false]))

/-! ### The document's Check -/
theorem dck_arg (p z m : Int) (h : z < 1) : Ans 15 #[.int .u64 p, .int .i64 z, .int .i64 m] (.int .i64 1) := by
  intro w
  go_enter Tryz.func15, Tryz.ntmps15
  go_wp2
  go_ret
  exact ⟨rfl, 0, rfl⟩
theorem dck_long (p z m : Int) (h : 1 ≤ z) (h2 : m < z) : Ans 15 #[.int .u64 p, .int .i64 z, .int .i64 m] (.int .i64 13) := by
  intro w
  go_enter Tryz.func15, Tryz.ntmps15
  go_wp2
  go_ret
  exact ⟨rfl, 0, rfl⟩
theorem dck_no (p z m r : Int) (p0 : 2 ≤ p) (p1 : p < 18446744073709551616) (h : 1 ≤ z) (h2 : z ≤ m) (h3 : z < 9223372036854775808) (hz : (z == 0) = false) (hr : (p - 1) % z = r) (h0 : (r != 0) = true) : Ans 15 #[.int .u64 p, .int .i64 z, .int .i64 m] (.int .i64 4) := by
  intro w
  go_enter Tryz.func15, Tryz.ntmps15
  go_wp2
  go_ret
  exact ⟨rfl, 0, rfl⟩
theorem dck_yes (p z m : Int) (p0 : 2 ≤ p) (p1 : p < 18446744073709551616) (h : 1 ≤ z) (h2 : z ≤ m) (h3 : z < 9223372036854775808) (hz : (z == 0) = false) (hr : (p - 1) % z = 0) : Ans 15 #[.int .u64 p, .int .i64 z, .int .i64 m] (.int .i64 0) := by
  intro w
  go_enter Tryz.func15, Tryz.ntmps15
  go_wp2
  go_ret
  exact ⟨rfl, 0, rfl⟩
theorem dcheck_any (p : Nat) (h2 : 2 ≤ p) (hp : p < 18446744073709551616) (z m : Int) (hz : z < 9223372036854775808) : Ans 15 #[.int .u64 (p : Int), .int .i64 z, .int .i64 m] (.int .i64 (ckD p z m)) := by
  by_cases h1 : z < 1
  · rw [ckD_arg h1]; exact dck_arg p z m h1
  · by_cases h2' : m < z
    · rw [ckD_long (by omega) h2']; exact dck_long p z m (by omega) h2'
    · obtain ⟨n, rfl⟩ := Int.eq_ofNat_of_zero_le (show 0 ≤ z by omega)
      have e : (p : Int) - 1 = ((p - 1 : Nat) : Int) := by omega
      have hz0 : ((n : Int) == 0) = false := by simp; omega
      by_cases h3 : (p - 1) % n = 0
      · rw [ckD_yes (by omega) (by omega) h3]
        exact dck_yes p n m (by omega) (by omega) (by omega) (by omega) hz hz0 (by rw [e]; exact_mod_cast h3)
      · rw [ckD_no (by omega) (by omega) h3]
        exact dck_no p n m (((p - 1) % n : Nat) : Int) (by omega) (by omega) (by omega) (by omega) hz hz0 (by rw [e]; rfl) (by simp; omega)

/-! ### Good -/
/-- Whether all are residues. -/
def goodB (p : Nat) (xs : List Nat) : Bool := xs.all fun x => decide (x < p)
theorem goodB_iff {p : Nat} {xs : List Nat} : goodB p xs = true ↔ ∀ y ∈ xs, y < p := by unfold goodB; simp
theorem good_nil (W : World) (v : Value) : AnsW W 37 #[.pointer none, v] (.bool false) := by
  intro n
  go_enter Tryz.func37, Tryz.ntmps37
  go_wp2
  go_ret
  exact ⟨rfl, 0, rfl⟩
set_option maxHeartbeats 1000000 in
theorem good_walk (W : World) (fb p : Nat) (A : Option Addr) (C : Nat) (xs : List Nat) (hU : UAt W A C xs) (HG : ∀ c : Nat, AnsW W 64 #[pt fb, .int .u64 (c : Int)] (.bool (decide (c < p)))) : AnsW W 37 #[pt fb, .slice A xs.length C] (.bool (goodB p xs)) := by
  intro j0
  have HR : Hid (goodB p xs = true ↔ ∀ y ∈ xs, y < p) := goodB_iff
  obtain ⟨R, hR⟩ : ∃ R, goodB p xs = R := ⟨_, rfl⟩
  have hlen := hU.len
  obtain ⟨n, en⟩ : ∃ n, xs.length = n := ⟨_, rfl⟩
  have HEN : Hid (xs.length = n) := en
  have HU : Hid (UAt W A C xs) := hU
  have HG' : Hid (∀ c : Nat, AnsW W 64 #[pt fb, .int .u64 (c : Int)] (.bool (decide (c < p)))) := HG
  rw [hR] at HR ⊢
  rw [en] at hlen ⊢
  clear hR en hU HG
  go_enter Tryz.func37, Tryz.ntmps37
  go_wp2
  go_loopw [11] (fun v wr => ∃ k j : Nat, v = .int .i64 (k : Int) ∧ k ≤ n ∧ Hid (∀ i y, i < k → xs[i]? = some y → y < p) ∧ wr = W.drewN (j0 + j)) (fun v _ => n - (intOf v).toNat)
  case atStart => exact ⟨0, 0, rfl, by omega, fun i y hi => absurd hi (by omega), rfl⟩
  case round =>
    obtain ⟨k, j, rfl, hk, HI, rfl⟩ := hrel
    by_cases hlt : k < n
    · obtain ⟨x, hx⟩ : ∃ x, xs[k]? = some x := ⟨_, List.getElem?_eq_getElem (by rw [HEN.out]; exact hlt)⟩
      obtain ⟨b, o, rfl, hb, c0, _⟩ := HU.out.get k x hx
      have HGk := HG'.out x
      by_cases he : x < p
      · rw [decide_eq_true he] at HGk
        have HI' : Hid (∀ i y, i < k + 1 → xs[i]? = some y → y < p) := by
          unfold Hid
          intro i y hi hy
          by_cases e : i = k
          · rw [e, hx] at hy; cases hy; exact he
          · exact HI.out i y (by omega) hy
        clear hx HI he hb
        go_wp2_with (go_at_call 64; with_reducible refine AnsW.use HGk _ fun n1 => ?_)
        go_roundw
        case rel => exact ⟨k + 1, j + n1, by go_num, by omega, HI', by rw [Nat.add_assoc]⟩
        case measure => simp [intOf]; omega
      · rw [decide_eq_false he] at HGk
        have HF : Hid (R = false) := by
          unfold Hid
          rw [Bool.eq_false_iff]
          intro h
          exact he (HR.out.1 h x (List.mem_of_getElem? hx))
        clear hx HI he hb
        go_wp2_with (go_at_call 64; with_reducible refine AnsW.use HGk _ fun n1 => ?_)
        go_ret
        exact ⟨ret_b HF.out.symm, j + n1, by rw [Nat.add_assoc]⟩
    · obtain rfl : k = n := by omega
      have HF : Hid (R = true) := HR.out.2 fun y hy => by
        obtain ⟨i, hi, rfl⟩ := List.getElem_of_mem hy
        exact HI.out i _ (by rw [← HEN.out]; exact hi) (List.getElem?_eq_getElem hi)
      clear HI
      go_wp2
      go_ret
      exact ⟨ret_b HF.out.symm, j, rfl⟩
theorem dftgood_any {W : World} {b : Nat} {x : En} (F : FieldAt W b x) {A : Option Addr} {C : Nat} {xs : List Nat} (hU : UAt W A C xs) : AnsW W 37 #[pt b, .slice A xs.length C] (.bool (goodB x.p xs)) :=
  good_walk W b x.p A C xs hU fun c => (fGood_any F c).to (by congr 2; simp)
set_option maxHeartbeats 1000000 in
theorem dgood_any (W : World) (p : Nat) (A : Option Addr) (C : Nat) (xs : List Nat) (hU : UAt W A C xs) : AnsW W 17 #[.int .u64 (p : Int), .slice A xs.length C] (.bool (goodB p xs)) := by
  intro j0
  have HR : Hid (goodB p xs = true ↔ ∀ y ∈ xs, y < p) := goodB_iff
  obtain ⟨R, hR⟩ : ∃ R, goodB p xs = R := ⟨_, rfl⟩
  have hlen := hU.len
  obtain ⟨n, en⟩ : ∃ n, xs.length = n := ⟨_, rfl⟩
  have HEN : Hid (xs.length = n) := en
  have HU : Hid (UAt W A C xs) := hU
  rw [hR] at HR ⊢
  rw [en] at hlen ⊢
  clear hR en hU
  go_enter Tryz.func17, Tryz.ntmps17
  go_wp2
  go_loopw [9] (fun v wr => ∃ k : Nat, v = .int .i64 (k : Int) ∧ k ≤ n ∧ Hid (∀ i y, i < k → xs[i]? = some y → y < p) ∧ wr = W.drewN j0) (fun v _ => n - (intOf v).toNat)
  case atStart => exact ⟨0, rfl, by omega, fun i y hi => absurd hi (by omega), rfl⟩
  case round =>
    obtain ⟨k, rfl, hk, HI, rfl⟩ := hrel
    by_cases hlt : k < n
    · obtain ⟨x, hx⟩ : ∃ x, xs[k]? = some x := ⟨_, List.getElem?_eq_getElem (by rw [HEN.out]; exact hlt)⟩
      obtain ⟨b, o, rfl, hb, c0, _⟩ := HU.out.get k x hx
      by_cases he : x < p
      · have HI' : Hid (∀ i y, i < k + 1 → xs[i]? = some y → y < p) := by
          unfold Hid
          intro i y hi hy
          by_cases e : i = k
          · rw [e, hx] at hy; cases hy; exact he
          · exact HI.out i y (by omega) hy
        have t1 : ¬ (p : Int) ≤ (x : Int) := by omega
        have t2 : (x : Int) < (p : Int) := by omega
        clear hx HI he hb
        go_wp2
        go_roundw
        case rel => exact ⟨k + 1, by go_num, by omega, HI', by first | rfl | trivial⟩
        case measure => simp [intOf]; omega
      · have HF : Hid (R = false) := by
          unfold Hid
          rw [Bool.eq_false_iff]
          intro h
          exact he (HR.out.1 h x (List.mem_of_getElem? hx))
        have t1 : (p : Int) ≤ (x : Int) := by omega
        clear hx HI he hb
        go_wp2
        go_ret
        exact ⟨ret_b HF.out.symm, 0, rfl⟩
    · obtain rfl : k = n := by omega
      have HF : Hid (R = true) := HR.out.2 fun y hy => by
        obtain ⟨i, hi, rfl⟩ := List.getElem_of_mem hy
        exact HI.out i _ (by rw [← HEN.out]; exact hi) (List.getElem?_eq_getElem hi)
      clear HI
      go_wp2
      go_ret
      exact ⟨ret_b HF.out.symm, 0, rfl⟩
end Go.Proofs.YtehljcflodilhaaGreatDoor
/-
  What dft.Scale, dft.sum and dft.Run answer: new rows. No condition but that the field and the lists lie there.
-/
namespace Go.Proofs.YtehljcflodilhaaGreatDoor
set_option linter.unusedVariables false
open Go.RowKit

theorem map_range (u : Nat → Nat) (xs : List Nat) : (List.range xs.length).map (fun i => u (atL xs i)) = xs.map u := by
  apply List.ext_getElem?
  intro j
  by_cases h : j < xs.length
  · rw [List.getElem?_map, List.getElem?_range h, List.getElem?_map, List.getElem?_eq_getElem h]
    simp only [Option.map_some, Option.some.injEq]
    unfold atL
    rw [List.getD_eq_getElem?_getD, List.getElem?_eq_getElem h]; rfl
  · rw [List.getElem?_eq_none (by simp; omega), List.getElem?_eq_none (by simp; omega)]

/-! ### Scale -/
set_option maxHeartbeats 2000000 in
theorem scale_walk (W : World) (a : Option Addr) (A : Option Addr) (C : Nat) (xs : List Nat) (u : Nat → Nat) (iv l : Int) (hm : xs.length ≤ 4096) (hU : UAt W A C xs)
    (HI : ∀ w, Below W.heap.size W w → AnsW w 44 #[.pointer a, .int .u64 (xs.length : Int)] (.int .u64 iv))
    (HL : ∀ w, Below W.heap.size W w → AnsW w 39 #[.pointer a, .int .u64 iv] (.int .u64 l))
    (HT : ∀ w, Below W.heap.size W w → ∀ c ∈ xs, AnsW w 45 #[.pointer a, .int .u64 l, .int .u64 (c : Int)] (.int .u64 ((u c : Nat) : Int))) : OwnR W 21 #[.pointer a, .slice A xs.length C] (xs.map u) := by
  intro w hw
  obtain ⟨ii, hii, hzi, hsi, hbi⟩ := info_parts infoWd
  rw [List.length_map]
  have HI1 := HI w hw
  have HL1 := HL w hw
  have HF : Hid (wfl 0 xs.length xs.length (fun i => u (atL xs i)) = xs.map u) := by unfold Hid; rw [wfl_all]; exact map_range u xs
  have HT' : Hid (∀ wr, Below w.heap.size w wr → ∀ k c : Nat, xs[k]? = some c → AnsW wr 45 #[.pointer a, .int .u64 l, .int .u64 (c : Int)] (.int .u64 ((u c : Nat) : Int))) :=
    fun wr hb k c hc => HT wr (bb hw hb) c (List.mem_of_getElem? hc)
  have HFk : Hid (∀ k c : Nat, xs[k]? = some c → (fun i => u (atL xs i)) k = u c) := fun k c hc => by show u (atL xs k) = u c; rw [atL_of hc]
  obtain ⟨f, hf⟩ : ∃ f : Nat → Nat, (fun i => u (atL xs i)) = f := ⟨_, rfl⟩
  rw [hf] at HF HFk
  obtain ⟨ys, hys⟩ : ∃ ys, xs.map u = ys := ⟨_, rfl⟩
  have hyl : ys.length = xs.length := by rw [← hys]; simp
  rw [hys] at HF ⊢
  obtain ⟨n, en⟩ : ∃ n, xs.length = n := ⟨_, rfl⟩
  have HEN : Hid (xs.length = n) := en
  have HYL : Hid (ys.length = n) := hyl.trans en
  have HU : Hid (UAt w A C xs) := hU.below hw
  have HWS : Hid (w.heap.size = w.heap.size) := rfl
  rw [en] at hm HI1 HF ⊢
  have HM : Hid (n ≤ 4096) := hm
  have hlenn : (n : Int) ≤ 9223372036854775807 := by omega
  clear HI HL HT hf hys hyl en hU hm
  go_enter Tryz.func21, Tryz.ntmps21
  go_wp2_with (first
    | (go_at_call 44; with_reducible refine AnsW.use0 HI1 fun n1 => ?_)
    | (go_at_call 39; with_reducible refine AnsW.use HL1 _ fun n2 => ?_)
    | (at_make; refine Hid.out ?_))
  unfold Hid
  refine wpList_make_full _ rfl _ _ 26 rfl w.heap.size 22 ii _ 1 Tryz.underlying26 hii hzi hsi .i64 .i64 (n : Int) (n : Int) n rfl rfl rfl rfl (by have := HM.out; rw [hbi]; omega) (by have := HM.out; unfold maxLen; omega) (Nat.le_refl _) ?_
  intro w1 hR hG1
  obtain ⟨gc, hgc⟩ : ∃ gc, w.heap.size = gc := ⟨_, rfl⟩
  have HGC : Hid (w.heap.size = gc) := hgc
  have hR1 : w1.ownsRow w.heap.size 22 1 (.slice (some ⟨w.heap.size, 0, none⟩) n n) n (ucells (wfl 0 n 0 f)) := by
    have e : (madeCells (Value.int .u64 0).cells (n * 1)).toList = ucells (wfl 0 n 0 f) := by
      rw [made_list rfl, wfl_zero]; simp [ucells]
    rw [← e]; exact hR
  have hB1 : Below w.heap.size w w1 := bb (below_drewN w (n1 + n2)) ((Below.refl _ _).grown hG1 (Nat.le_refl _) (fun k ek => by cases ek))
  rw [show (Value.slice (some ⟨w.heap.size, 0, none⟩) n n) = .slice (some ⟨gc, 0, none⟩) n n by rw [hgc]] at hR1
  have HR2 : Hid (w1.ownsRow w.heap.size 22 1 (.slice (some ⟨gc, 0, none⟩) n n) n (ucells (wfl 0 n 0 f))) := hR1
  have e1 : (w.drewN (n1 + n2)).heap.size = gc := hgc
  rw [e1]
  clear hR hR1 hG1 hgc e1 HI1 HL1
  go_wp2
  go_loopw [21] (fun v wr => ∃ k : Nat, v = .int .i64 (k : Int) ∧ k ≤ n ∧ Hid (wr.ownsRow w.heap.size 22 1 (.slice (some ⟨gc, 0, none⟩) n n) n (ucells (wfl 0 n k f))) ∧ Below w.heap.size w wr) (fun v _ => n - (intOf v).toNat)
  case atStart => exact ⟨0, rfl, by omega, HR2, hB1⟩
  case round =>
    clear HR2 hB1
    obtain ⟨k, rfl, hk, HO, hB⟩ := hrel
    by_cases hlt : k < n
    · obtain ⟨c, hc⟩ : ∃ c, xs[k]? = some c := ⟨_, List.getElem?_eq_getElem (by rw [HEN.out]; exact hlt)⟩
      obtain ⟨b, o, rfl, hb, c0, _⟩ := HU.out.get k c hc
      have c1 := ((bcell hB).1 b (o + k) hb).trans c0
      have HTk := HT'.out wr hB k c hc
      have hfk : wr.frozen? ⟨gc, k, none⟩ = false := World.ownsRow.frozenAt HO.out k
      have hck : wr.cell? ⟨gc, k, none⟩ = some (.int .u64 0) := (World.ownsRow.cellAt HO.out k (by omega)).trans (by unfold ucells; rw [List.getElem?_map, wfl_get 0 f hlt, if_neg (by omega)]; rfl)
      have HE := HFk.out k c hc
      obtain ⟨y, hy⟩ : ∃ y, u c = y := ⟨_, rfl⟩
      rw [hy] at HTk HE
      have HO0 : Hid (∀ m, OwnU (wr.drewN m) w.heap.size (some ⟨gc, 0, none⟩) n (wfl 0 n k f)) := fun m => by
        have : OwnU wr w.heap.size (some ⟨gc, 0, none⟩) n (wfl 0 n k f) := by unfold OwnU; rw [wfl_len]; exact HO.out
        exact this.below (below_drewN wr m)
      have HO3 : Hid (∀ m, ((wr.drewN m).setCell ⟨gc, k, none⟩ (.int .u64 (y : Int))).ownsRow w.heap.size 22 1 (.slice (some ⟨gc, 0, none⟩) n n) n (ucells (wfl 0 n (k + 1) f))) := fun m => by
        have := (HO0.out m).set k y
        unfold OwnU at this
        rw [List.length_set, wfl_len] at this
        rw [← wfl_set, HE]; exact this
      have HB3 : Hid (∀ m, Below w.heap.size w ((wr.drewN m).setCell ⟨gc, k, none⟩ (.int .u64 (y : Int)))) := fun m => (below_dN hB m).setCell (p := ⟨gc, k, none⟩) (by rw [HGC.out]; exact Nat.le_refl _) _
      clear c0 hb hc hy HE HO HO0 hB
      go_wp2_with (go_at_call 45; with_reducible refine AnsW.use0 HTk fun n3 => ?_)
      go_roundw
      case rel => exact ⟨k + 1, by go_num, by omega, HO3.out n3, HB3.out n3⟩
      case measure => simp [intOf]; omega
    · obtain rfl : k = n := by omega
      have HO4 : Hid (OwnU wr w.heap.size (some ⟨gc, 0, none⟩) k ys) := by
        unfold Hid OwnU; rw [← HF.out, wfl_len]; exact HO.out
      clear HO
      go_wp2
      go_ret
      exact ⟨_, _, rfl, HO4.out, hB⟩
/-- What makes 1 with how many there are, times each. -/
theorem scale_any {W : World} {b : Nat} {x : En} (F : FieldAt W b x) (hF : Fld x) {A : Option Addr} {C : Nat} {xs : List Nat} (hU : UAt W A C xs) (hm : xs.length ≤ 4096) : ∃ v, IsInv xs.length x.p v ∧ OwnR W 21 #[pt b, .slice A xs.length C] (xs.map fun y => v * y % x.p) := by
  obtain ⟨h3, hodd, hlt⟩ := hF.num
  obtain ⟨v, hv, HI⟩ := fInv_any hF.prm hlt xs.length (by omega)
  refine ⟨v, hv, ?_⟩
  have := hv.lt
  exact scale_walk W _ A C xs (fun y => v * y % x.p) v (up v x.p : Nat) hm hU (fun w hw => HI w b (F.below hw)) (fun w hw => fLift_any (F.below hw) v (by omega)) (fun w hw c hc => fTimes_lift (F.below hw) v c (by omega) (hU.small c hc))

/-! ### sum -/
theorem addSm {m i n : Nat} (h : m < n) (h2 : i < n) (hn : n ≤ 4096) : m + i ≤ 16777216 := by omega
/-! ### Run -/
end Go.Proofs.YtehljcflodilhaaGreatDoor
/-
  What the document's Sum and Run of layer 11 answer. No condition but that the lists lie there.
-/
namespace Go.Proofs.YtehljcflodilhaaGreatDoor
set_option linter.unusedVariables false
open Go.RowKit

theorem rng_snoc (d : Nat → Nat) (k : Nat) : ucells ((List.range (k + 1)).map d) = ucells ((List.range k).map d) ++ [.int .u64 ((d k : Nat) : Int)] := by
  rw [List.range_succ, List.map_append, ucells]; simp [ucells]
end Go.Proofs.YtehljcflodilhaaGreatDoor

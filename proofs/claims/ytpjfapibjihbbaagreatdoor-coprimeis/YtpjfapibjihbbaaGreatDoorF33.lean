/-
  What dft.Check and dft.Good, and the document's, answer. No condition but that the field and the list lie there.
-/
import Derived.Test.YtpjfapibjihbbaaGreatDoorF31
import Derived.Test.YtpjfapibjihbbaaGreatDoorF32
import Derived.Test.YtpjfapibjihbbaaGreatDoorF29
namespace Go.Proofs.YtpjfapibjihbbaaGreatDoor
set_option linter.unusedVariables false
open Go.RowKit

/-- What is wrong with a list of n, of at most so many. -/
def ckD (p : Nat) (n most : Int) : Int := if n < 1 then 1 else if most < n then 13 else if (p - 1) % n.toNat = 0 then 0 else 4
theorem ckD_arg {p : Nat} {n most : Int} (h : n < 1) : ckD p n most = 1 := by unfold ckD; rw [if_pos h]
theorem ckD_long {p : Nat} {n most : Int} (h : 1 ≤ n) (h2 : most < n) : ckD p n most = 13 := by unfold ckD; rw [if_neg (by omega), if_pos h2]
theorem ckD_no {p n : Nat} {most : Int} (h : 1 ≤ n) (h2 : (n : Int) ≤ most) (h3 : (p - 1) % n ≠ 0) : ckD p (n : Int) most = 4 := by
  unfold ckD; rw [if_neg (by omega), if_neg (by omega), Int.toNat_natCast, if_neg h3]
theorem ckD_yes {p n : Nat} {most : Int} (h : 1 ≤ n) (h2 : (n : Int) ≤ most) (h3 : (p - 1) % n = 0) : ckD p (n : Int) most = 0 := by
  unfold ckD; rw [if_neg (by omega), if_neg (by omega), Int.toNat_natCast, if_pos h3]
theorem ckD_ok {p n : Nat} {most : Int} (h : ckD p (n : Int) most = 0) : 1 ≤ n ∧ (n : Int) ≤ most ∧ (p - 1) % n = 0 := by
  by_cases h1 : (n : Int) < 1
  · rw [ckD_arg h1] at h; cases h
  · by_cases h2 : most < (n : Int)
    · rw [ckD_long (by omega) h2] at h; cases h
    · by_cases h3 : (p - 1) % n = 0
      · exact ⟨by omega, by omega, h3⟩
      · rw [ckD_no (by omega) (by omega) h3] at h; cases h
theorem ck_nil (w : World) (z m : Int) : AnsW w 43 #[.pointer none, .int .i64 z, .int .i64 m] (.int .i64 2) := by
  intro n
  go_enter Tryz.func43, Tryz.ntmps43
  go_wp2
  go_ret
  exact ⟨rfl, 0, rfl⟩
theorem ck_arg (w : World) (a : Addr) (z m : Int) (h : z < 1) : AnsW w 43 #[.pointer (some a), .int .i64 z, .int .i64 m] (.int .i64 1) := by
  intro n
  go_enter Tryz.func43, Tryz.ntmps43
  go_wp2
  go_ret
  exact ⟨rfl, 0, rfl⟩
theorem ck_long (w : World) (a : Addr) (z m : Int) (h : 1 ≤ z) (h2 : m < z) : AnsW w 43 #[.pointer (some a), .int .i64 z, .int .i64 m] (.int .i64 13) := by
  intro n
  go_enter Tryz.func43, Tryz.ntmps43
  go_wp2
  go_ret
  exact ⟨rfl, 0, rfl⟩
theorem ck_no (w : World) (a : Addr) (z m : Int) (h : 1 ≤ z) (h2 : z ≤ m) (HD : AnsW w 63 #[.pointer (some a), .int .i64 z] (.bool false)) : AnsW w 43 #[.pointer (some a), .int .i64 z, .int .i64 m] (.int .i64 4) := by
  intro n
  go_enter Tryz.func43, Tryz.ntmps43
  go_wp2_with (go_at_call 63; with_reducible refine AnsW.use HD _ fun n1 => ?_)
  go_ret
  exact ⟨rfl, _, rfl⟩
theorem ck_yes (w : World) (a : Addr) (z m : Int) (h : 1 ≤ z) (h2 : z ≤ m) (HD : AnsW w 63 #[.pointer (some a), .int .i64 z] (.bool true)) : AnsW w 43 #[.pointer (some a), .int .i64 z, .int .i64 m] (.int .i64 0) := by
  intro n
  go_enter Tryz.func43, Tryz.ntmps43
  go_wp2_with (go_at_call 63; with_reducible refine AnsW.use HD _ fun n1 => ?_)
  go_ret
  exact ⟨rfl, _, rfl⟩
theorem dftck_any {w : World} {b : Nat} {x : En} (F : FieldAt w b x) (z m : Int) (hz : z < 9223372036854775808) : AnsW w 43 #[pt b, .int .i64 z, .int .i64 m] (.int .i64 (ckD x.p z m)) := by
  by_cases h1 : z < 1
  · rw [ckD_arg h1]; exact ck_arg w _ z m h1
  · by_cases h2 : m < z
    · rw [ckD_long (by omega) h2]; exact ck_long w _ z m (by omega) h2
    · obtain ⟨n, rfl⟩ := Int.eq_ofNat_of_zero_le (show 0 ≤ z by omega)
      have HD := fDiv_any F (n : Int) hz
      by_cases h3 : (x.p - 1) % n = 0
      · rw [ckD_yes (by omega) (by omega) h3]
        exact ck_yes w _ n m (by omega) (by omega) (HD.to (by rw [dvB_nat (by omega) h3]))
      · rw [ckD_no (by omega) (by omega) h3]
        exact ck_no w _ n m (by omega) (by omega) (HD.to (by unfold dvB; rw [Int.toNat_natCast, decide_eq_false h3, Bool.and_false]))

/-! ### The document's Check -/
theorem dck_arg (p z m : Int) (h : z < 1) : Ans 23 #[.int .u64 p, .int .i64 z, .int .i64 m] (.int .i64 1) := by
  intro w
  go_enter Tryz.func23, Tryz.ntmps23
  go_wp2
  go_ret
  exact ⟨rfl, 0, rfl⟩
theorem dck_long (p z m : Int) (h : 1 ≤ z) (h2 : m < z) : Ans 23 #[.int .u64 p, .int .i64 z, .int .i64 m] (.int .i64 13) := by
  intro w
  go_enter Tryz.func23, Tryz.ntmps23
  go_wp2
  go_ret
  exact ⟨rfl, 0, rfl⟩
theorem dck_no (p z m r : Int) (p0 : 2 ≤ p) (p1 : p < 18446744073709551616) (h : 1 ≤ z) (h2 : z ≤ m) (h3 : z < 9223372036854775808) (hz : (z == 0) = false) (hr : (p - 1) % z = r) (h0 : (r != 0) = true) : Ans 23 #[.int .u64 p, .int .i64 z, .int .i64 m] (.int .i64 4) := by
  intro w
  go_enter Tryz.func23, Tryz.ntmps23
  go_wp2
  go_ret
  exact ⟨rfl, 0, rfl⟩
theorem dck_yes (p z m : Int) (p0 : 2 ≤ p) (p1 : p < 18446744073709551616) (h : 1 ≤ z) (h2 : z ≤ m) (h3 : z < 9223372036854775808) (hz : (z == 0) = false) (hr : (p - 1) % z = 0) : Ans 23 #[.int .u64 p, .int .i64 z, .int .i64 m] (.int .i64 0) := by
  intro w
  go_enter Tryz.func23, Tryz.ntmps23
  go_wp2
  go_ret
  exact ⟨rfl, 0, rfl⟩
theorem dcheck_any (p : Nat) (h2 : 2 ≤ p) (hp : p < 18446744073709551616) (z m : Int) (hz : z < 9223372036854775808) : Ans 23 #[.int .u64 (p : Int), .int .i64 z, .int .i64 m] (.int .i64 (ckD p z m)) := by
  by_cases h1 : z < 1
  · rw [ckD_arg h1]; exact dck_arg p z m h1
  · by_cases h2' : m < z
    · rw [ckD_long (by omega) h2']; exact dck_long p z m (by omega) h2'
    · obtain ⟨n, rfl⟩ := Int.eq_ofNat_of_zero_le (show 0 ≤ z by omega)
      have e : (p : Int) - 1 = ((p - 1 : Nat) : Int) := by omega
      have hz0 : ((n : Int) == 0) = false := by simp; omega
      by_cases h3 : (p - 1) % n = 0
      · rw [ckD_yes (by omega) (by omega) h3]
        exact dck_yes p n m (by omega) (by omega) (by omega) (by omega) hz hz0 (by rw [e]; exact_mod_cast h3)
      · rw [ckD_no (by omega) (by omega) h3]
        exact dck_no p n m (((p - 1) % n : Nat) : Int) (by omega) (by omega) (by omega) (by omega) hz hz0 (by rw [e]; rfl) (by simp; omega)

/-! ### Good -/
/-- Whether all are residues. -/
def goodB (p : Nat) (xs : List Nat) : Bool := xs.all fun x => decide (x < p)
theorem goodB_iff {p : Nat} {xs : List Nat} : goodB p xs = true ↔ ∀ y ∈ xs, y < p := by unfold goodB; simp
theorem good_nil (W : World) (v : Value) : AnsW W 44 #[.pointer none, v] (.bool false) := by
  intro n
  go_enter Tryz.func44, Tryz.ntmps44
  go_wp2
  go_ret
  exact ⟨rfl, 0, rfl⟩
set_option maxHeartbeats 1000000 in
theorem good_walk (W : World) (fb p : Nat) (A : Option Addr) (C : Nat) (xs : List Nat) (hU : UAt W A C xs) (HG : ∀ c : Nat, AnsW W 64 #[pt fb, .int .u64 (c : Int)] (.bool (decide (c < p)))) : AnsW W 44 #[pt fb, .slice A xs.length C] (.bool (goodB p xs)) := by
  intro j0
  have HR : Hid (goodB p xs = true ↔ ∀ y ∈ xs, y < p) := goodB_iff
  obtain ⟨R, hR⟩ : ∃ R, goodB p xs = R := ⟨_, rfl⟩
  have hlen := hU.len
  obtain ⟨n, en⟩ : ∃ n, xs.length = n := ⟨_, rfl⟩
  have HEN : Hid (xs.length = n) := en
  have HU : Hid (UAt W A C xs) := hU
  have HG' : Hid (∀ c : Nat, AnsW W 64 #[pt fb, .int .u64 (c : Int)] (.bool (decide (c < p)))) := HG
  rw [hR] at HR ⊢
  rw [en] at hlen ⊢
  clear hR en hU HG
  go_enter Tryz.func44, Tryz.ntmps44
  go_wp2
  go_loopw [11] (fun v wr => ∃ k j : Nat, v = .int .i64 (k : Int) ∧ k ≤ n ∧ Hid (∀ i y, i < k → xs[i]? = some y → y < p) ∧ wr = W.drewN (j0 + j)) (fun v _ => n - (intOf v).toNat)
  case atStart => exact ⟨0, 0, rfl, by omega, fun i y hi => absurd hi (by omega), rfl⟩
  case round =>
    obtain ⟨k, j, rfl, hk, HI, rfl⟩ := hrel
    by_cases hlt : k < n
    · obtain ⟨x, hx⟩ : ∃ x, xs[k]? = some x := ⟨_, List.getElem?_eq_getElem (by rw [HEN.out]; exact hlt)⟩
      obtain ⟨b, o, rfl, hb, c0, _⟩ := HU.out.get k x hx
      have HGk := HG'.out x
      by_cases he : x < p
      · rw [decide_eq_true he] at HGk
        have HI' : Hid (∀ i y, i < k + 1 → xs[i]? = some y → y < p) := by
          unfold Hid
          intro i y hi hy
          by_cases e : i = k
          · rw [e, hx] at hy; cases hy; exact he
          · exact HI.out i y (by omega) hy
        clear hx HI he hb
        go_wp2_with (go_at_call 64; with_reducible refine AnsW.use HGk _ fun n1 => ?_)
        go_roundw
        case rel => exact ⟨k + 1, j + n1, by go_num, by omega, HI', by rw [Nat.add_assoc]⟩
        case measure => simp [intOf]; omega
      · rw [decide_eq_false he] at HGk
        have HF : Hid (R = false) := by
          unfold Hid
          rw [Bool.eq_false_iff]
          intro h
          exact he (HR.out.1 h x (List.mem_of_getElem? hx))
        clear hx HI he hb
        go_wp2_with (go_at_call 64; with_reducible refine AnsW.use HGk _ fun n1 => ?_)
        go_ret
        exact ⟨ret_b HF.out.symm, j + n1, by rw [Nat.add_assoc]⟩
    · obtain rfl : k = n := by omega
      have HF : Hid (R = true) := HR.out.2 fun y hy => by
        obtain ⟨i, hi, rfl⟩ := List.getElem_of_mem hy
        exact HI.out i _ (by rw [← HEN.out]; exact hi) (List.getElem?_eq_getElem hi)
      clear HI
      go_wp2
      go_ret
      exact ⟨ret_b HF.out.symm, j, rfl⟩
theorem dftgood_any {W : World} {b : Nat} {x : En} (F : FieldAt W b x) {A : Option Addr} {C : Nat} {xs : List Nat} (hU : UAt W A C xs) : AnsW W 44 #[pt b, .slice A xs.length C] (.bool (goodB x.p xs)) :=
  good_walk W b x.p A C xs hU fun c => (fGood_any F c).to (by congr 2; simp)
set_option maxHeartbeats 1000000 in
theorem dgood_any (W : World) (p : Nat) (A : Option Addr) (C : Nat) (xs : List Nat) (hU : UAt W A C xs) : AnsW W 25 #[.int .u64 (p : Int), .slice A xs.length C] (.bool (goodB p xs)) := by
  intro j0
  have HR : Hid (goodB p xs = true ↔ ∀ y ∈ xs, y < p) := goodB_iff
  obtain ⟨R, hR⟩ : ∃ R, goodB p xs = R := ⟨_, rfl⟩
  have hlen := hU.len
  obtain ⟨n, en⟩ : ∃ n, xs.length = n := ⟨_, rfl⟩
  have HEN : Hid (xs.length = n) := en
  have HU : Hid (UAt W A C xs) := hU
  rw [hR] at HR ⊢
  rw [en] at hlen ⊢
  clear hR en hU
  go_enter Tryz.func25, Tryz.ntmps25
  go_wp2
  go_loopw [9] (fun v wr => ∃ k : Nat, v = .int .i64 (k : Int) ∧ k ≤ n ∧ Hid (∀ i y, i < k → xs[i]? = some y → y < p) ∧ wr = W.drewN j0) (fun v _ => n - (intOf v).toNat)
  case atStart => exact ⟨0, rfl, by omega, fun i y hi => absurd hi (by omega), rfl⟩
  case round =>
    obtain ⟨k, rfl, hk, HI, rfl⟩ := hrel
    by_cases hlt : k < n
    · obtain ⟨x, hx⟩ : ∃ x, xs[k]? = some x := ⟨_, List.getElem?_eq_getElem (by rw [HEN.out]; exact hlt)⟩
      obtain ⟨b, o, rfl, hb, c0, _⟩ := HU.out.get k x hx
      by_cases he : x < p
      · have HI' : Hid (∀ i y, i < k + 1 → xs[i]? = some y → y < p) := by
          unfold Hid
          intro i y hi hy
          by_cases e : i = k
          · rw [e, hx] at hy; cases hy; exact he
          · exact HI.out i y (by omega) hy
        have t1 : ¬ (p : Int) ≤ (x : Int) := by omega
        have t2 : (x : Int) < (p : Int) := by omega
        clear hx HI he hb
        go_wp2
        go_roundw
        case rel => exact ⟨k + 1, by go_num, by omega, HI', by first | rfl | trivial⟩
        case measure => simp [intOf]; omega
      · have HF : Hid (R = false) := by
          unfold Hid
          rw [Bool.eq_false_iff]
          intro h
          exact he (HR.out.1 h x (List.mem_of_getElem? hx))
        have t1 : (p : Int) ≤ (x : Int) := by omega
        clear hx HI he hb
        go_wp2
        go_ret
        exact ⟨ret_b HF.out.symm, 0, rfl⟩
    · obtain rfl : k = n := by omega
      have HF : Hid (R = true) := HR.out.2 fun y hy => by
        obtain ⟨i, hi, rfl⟩ := List.getElem_of_mem hy
        exact HI.out i _ (by rw [← HEN.out]; exact hi) (List.getElem?_eq_getElem hi)
      clear HI
      go_wp2
      go_ret
      exact ⟨ret_b HF.out.symm, 0, rfl⟩
end Go.Proofs.YtpjfapibjihbbaaGreatDoor
/-
  What dft.Scale, dft.sum and dft.Run answer: new rows. No condition but that the field and the lists lie there.
-/
namespace Go.Proofs.YtpjfapibjihbbaaGreatDoor
set_option linter.unusedVariables false
open Go.RowKit

theorem map_range (u : Nat → Nat) (xs : List Nat) : (List.range xs.length).map (fun i => u (atL xs i)) = xs.map u := by
  apply List.ext_getElem?
  intro j
  by_cases h : j < xs.length
  · rw [List.getElem?_map, List.getElem?_range h, List.getElem?_map, List.getElem?_eq_getElem h]
    simp only [Option.map_some, Option.some.injEq]
    unfold atL
    rw [List.getD_eq_getElem?_getD, List.getElem?_eq_getElem h]; rfl
  · rw [List.getElem?_eq_none (by simp; omega), List.getElem?_eq_none (by simp; omega)]

/-! ### Scale -/
set_option maxHeartbeats 2000000 in
theorem scale_walk (W : World) (a : Option Addr) (A : Option Addr) (C : Nat) (xs : List Nat) (u : Nat → Nat) (iv l : Int) (hm : xs.length ≤ 4096) (hU : UAt W A C xs)
    (HI : ∀ w, Below W.heap.size W w → AnsW w 108 #[.pointer a, .int .u64 (xs.length : Int)] (.int .u64 iv))
    (HL : ∀ w, Below W.heap.size W w → AnsW w 103 #[.pointer a, .int .u64 iv] (.int .u64 l))
    (HT : ∀ w, Below W.heap.size W w → ∀ c ∈ xs, AnsW w 109 #[.pointer a, .int .u64 l, .int .u64 (c : Int)] (.int .u64 ((u c : Nat) : Int))) : OwnR W 85 #[.pointer a, .slice A xs.length C] (xs.map u) := by
  intro w hw
  obtain ⟨ii, hii, hzi, hsi, hbi⟩ := info_parts infoWd
  rw [List.length_map]
  have HI1 := HI w hw
  have HL1 := HL w hw
  have HF : Hid (wfl 0 xs.length xs.length (fun i => u (atL xs i)) = xs.map u) := by unfold Hid; rw [wfl_all]; exact map_range u xs
  have HT' : Hid (∀ wr, Below w.heap.size w wr → ∀ k c : Nat, xs[k]? = some c → AnsW wr 109 #[.pointer a, .int .u64 l, .int .u64 (c : Int)] (.int .u64 ((u c : Nat) : Int))) :=
    fun wr hb k c hc => HT wr (bb hw hb) c (List.mem_of_getElem? hc)
  have HFk : Hid (∀ k c : Nat, xs[k]? = some c → (fun i => u (atL xs i)) k = u c) := fun k c hc => by show u (atL xs k) = u c; rw [atL_of hc]
  obtain ⟨f, hf⟩ : ∃ f : Nat → Nat, (fun i => u (atL xs i)) = f := ⟨_, rfl⟩
  rw [hf] at HF HFk
  obtain ⟨ys, hys⟩ : ∃ ys, xs.map u = ys := ⟨_, rfl⟩
  have hyl : ys.length = xs.length := by rw [← hys]; simp
  rw [hys] at HF ⊢
  obtain ⟨n, en⟩ : ∃ n, xs.length = n := ⟨_, rfl⟩
  have HEN : Hid (xs.length = n) := en
  have HYL : Hid (ys.length = n) := hyl.trans en
  have HU : Hid (UAt w A C xs) := hU.below hw
  have HWS : Hid (w.heap.size = w.heap.size) := rfl
  rw [en] at hm HI1 HF ⊢
  have HM : Hid (n ≤ 4096) := hm
  have hlenn : (n : Int) ≤ 9223372036854775807 := by omega
  clear HI HL HT hf hys hyl en hU hm
  go_enter Tryz.func85, Tryz.ntmps85
  go_wp2_with (first
    | (go_at_call 108; with_reducible refine AnsW.use0 HI1 fun n1 => ?_)
    | (go_at_call 103; with_reducible refine AnsW.use HL1 _ fun n2 => ?_)
    | (at_make; refine Hid.out ?_))
  unfold Hid
  refine wpList_make_full _ rfl _ _ 26 rfl w.heap.size 22 ii _ 1 Tryz.underlying26 hii hzi hsi .i64 .i64 (n : Int) (n : Int) n rfl rfl rfl rfl (by have := HM.out; rw [hbi]; omega) (by have := HM.out; unfold maxLen; omega) (Nat.le_refl _) ?_
  intro w1 hR hG1
  obtain ⟨gc, hgc⟩ : ∃ gc, w.heap.size = gc := ⟨_, rfl⟩
  have HGC : Hid (w.heap.size = gc) := hgc
  have hR1 : w1.ownsRow w.heap.size 22 1 (.slice (some ⟨w.heap.size, 0, none⟩) n n) n (ucells (wfl 0 n 0 f)) := by
    have e : (madeCells (Value.int .u64 0).cells (n * 1)).toList = ucells (wfl 0 n 0 f) := by
      rw [made_list rfl, wfl_zero]; simp [ucells]
    rw [← e]; exact hR
  have hB1 : Below w.heap.size w w1 := bb (below_drewN w (n1 + n2)) ((Below.refl _ _).grown hG1 (Nat.le_refl _) (fun k ek => by cases ek))
  rw [show (Value.slice (some ⟨w.heap.size, 0, none⟩) n n) = .slice (some ⟨gc, 0, none⟩) n n by rw [hgc]] at hR1
  have HR2 : Hid (w1.ownsRow w.heap.size 22 1 (.slice (some ⟨gc, 0, none⟩) n n) n (ucells (wfl 0 n 0 f))) := hR1
  have e1 : (w.drewN (n1 + n2)).heap.size = gc := hgc
  rw [e1]
  clear hR hR1 hG1 hgc e1 HI1 HL1
  go_wp2
  go_loopw [21] (fun v wr => ∃ k : Nat, v = .int .i64 (k : Int) ∧ k ≤ n ∧ Hid (wr.ownsRow w.heap.size 22 1 (.slice (some ⟨gc, 0, none⟩) n n) n (ucells (wfl 0 n k f))) ∧ Below w.heap.size w wr) (fun v _ => n - (intOf v).toNat)
  case atStart => exact ⟨0, rfl, by omega, HR2, hB1⟩
  case round =>
    clear HR2 hB1
    obtain ⟨k, rfl, hk, HO, hB⟩ := hrel
    by_cases hlt : k < n
    · obtain ⟨c, hc⟩ : ∃ c, xs[k]? = some c := ⟨_, List.getElem?_eq_getElem (by rw [HEN.out]; exact hlt)⟩
      obtain ⟨b, o, rfl, hb, c0, _⟩ := HU.out.get k c hc
      have c1 := ((bcell hB).1 b (o + k) hb).trans c0
      have HTk := HT'.out wr hB k c hc
      have hfk : wr.frozen? ⟨gc, k, none⟩ = false := World.ownsRow.frozenAt HO.out k
      have hck : wr.cell? ⟨gc, k, none⟩ = some (.int .u64 0) := (World.ownsRow.cellAt HO.out k (by omega)).trans (by unfold ucells; rw [List.getElem?_map, wfl_get 0 f hlt, if_neg (by omega)]; rfl)
      have HE := HFk.out k c hc
      obtain ⟨y, hy⟩ : ∃ y, u c = y := ⟨_, rfl⟩
      rw [hy] at HTk HE
      have HO0 : Hid (∀ m, OwnU (wr.drewN m) w.heap.size (some ⟨gc, 0, none⟩) n (wfl 0 n k f)) := fun m => by
        have : OwnU wr w.heap.size (some ⟨gc, 0, none⟩) n (wfl 0 n k f) := by unfold OwnU; rw [wfl_len]; exact HO.out
        exact this.below (below_drewN wr m)
      have HO3 : Hid (∀ m, ((wr.drewN m).setCell ⟨gc, k, none⟩ (.int .u64 (y : Int))).ownsRow w.heap.size 22 1 (.slice (some ⟨gc, 0, none⟩) n n) n (ucells (wfl 0 n (k + 1) f))) := fun m => by
        have := (HO0.out m).set k y
        unfold OwnU at this
        rw [List.length_set, wfl_len] at this
        rw [← wfl_set, HE]; exact this
      have HB3 : Hid (∀ m, Below w.heap.size w ((wr.drewN m).setCell ⟨gc, k, none⟩ (.int .u64 (y : Int)))) := fun m => (below_dN hB m).setCell (p := ⟨gc, k, none⟩) (by rw [HGC.out]; exact Nat.le_refl _) _
      clear c0 hb hc hy HE HO HO0 hB
      go_wp2_with (go_at_call 109; with_reducible refine AnsW.use0 HTk fun n3 => ?_)
      go_roundw
      case rel => exact ⟨k + 1, by go_num, by omega, HO3.out n3, HB3.out n3⟩
      case measure => simp [intOf]; omega
    · obtain rfl : k = n := by omega
      have HO4 : Hid (OwnU wr w.heap.size (some ⟨gc, 0, none⟩) k ys) := by
        unfold Hid OwnU; rw [← HF.out, wfl_len]; exact HO.out
      clear HO
      go_wp2
      go_ret
      exact ⟨_, _, rfl, HO4.out, hB⟩
/-- What makes 1 with how many there are, times each. -/
theorem scale_any {W : World} {b : Nat} {x : En} (F : FieldAt W b x) (hF : Fld x) {A : Option Addr} {C : Nat} {xs : List Nat} (hU : UAt W A C xs) (hm : xs.length ≤ 4096) : ∃ v, IsInv xs.length x.p v ∧ OwnR W 85 #[pt b, .slice A xs.length C] (xs.map fun y => v * y % x.p) := by
  obtain ⟨h3, hodd, hlt⟩ := hF.num
  obtain ⟨v, hv, HI⟩ := fInv_any hF.prm hlt xs.length (by omega)
  refine ⟨v, hv, ?_⟩
  have := hv.lt
  exact scale_walk W _ A C xs (fun y => v * y % x.p) v (up v x.p : Nat) hm hU (fun w hw => HI w b (F.below hw)) (fun w hw => fLift_any (F.below hw) v (by omega)) (fun w hw c hc => fTimes_lift (F.below hw) v c (by omega) (hU.small c hc))

/-! ### sum -/
theorem addSm {m i n : Nat} (h : m < n) (h2 : i < n) (hn : n ≤ 4096) : m + i ≤ 16777216 := by omega
set_option maxHeartbeats 2000000 in
theorem sum_walk (W : World) (fb p n : Nat) (A : Option Addr) (C : Nat) (xs : List Nat) (B : Option Addr) (D : Nat) (ls : List Nat) (y : Nat → Nat) (hX : UAt W A C xs) (hL : UAt W B D ls) (hx : xs.length = n) (hl : ls.length = n) (h1 : 1 ≤ n) (hn : n ≤ 4096) (i : Nat) (hi : i < n) (hp : 1 ≤ p) (hp2 : p < 9223372036854775808)
    (HT : ∀ m l : Nat, ls[m]? = some l → ∀ c : Nat, c < 18446744073709551616 → AnsW W 109 #[pt fb, .int .u64 (l : Int), .int .u64 (c : Int)] (.int .u64 ((y m * c % p : Nat) : Int)))
    (HA : ∀ a c : Nat, a < p → c < p → AnsW W 110 #[pt fb, .int .u64 (a : Int), .int .u64 (c : Int)] (.int .u64 (((a + c) % p : Nat) : Int))) : AnsW W 86 #[pt fb, .slice A n C, .slice B n D, .int .i64 (i : Int)] (.int .u64 ((sN (fun j => y (i * j % n) * atL xs j) n % p : Nat) : Int)) := by
  intro j0
  have HX : Hid (UAt W A C xs) := hX
  have HL : Hid (UAt W B D ls) := hL
  have HXL : Hid (xs.length = n) := hx
  have HLL : Hid (ls.length = n) := hl
  have HI : Hid (1 ≤ n ∧ n ≤ 4096 ∧ i < n ∧ 1 ≤ p ∧ p < 9223372036854775808) := ⟨h1, hn, hi, hp, hp2⟩
  have HT' : Hid (∀ m l : Nat, ls[m]? = some l → ∀ c : Nat, c < 18446744073709551616 → AnsW W 109 #[pt fb, .int .u64 (l : Int), .int .u64 (c : Int)] (.int .u64 ((y m * c % p : Nat) : Int))) := HT
  have HA' : Hid (∀ a c : Nat, a < p → c < p → AnsW W 110 #[pt fb, .int .u64 (a : Int), .int .u64 (c : Int)] (.int .u64 (((a + c) % p : Nat) : Int))) := HA
  obtain ⟨f, hf⟩ : ∃ f : Nat → Nat, (fun j => y (i * j % n) * atL xs j) = f := ⟨_, rfl⟩
  have HF : Hid (∀ j, y (i * j % n) * atL xs j = f j) := fun j => congrFun hf j
  rw [hf]
  have h0p : 0 < p := by omega
  have hlenn : (n : Int) ≤ 9223372036854775807 := by omega
  have hn0 : ¬ (n : Int) = 0 := by omega
  clear hX hL hx hl h1 hn hi hp hp2 HT HA hf
  go_enter Tryz.func86, Tryz.ntmps86
  go_wp2
  go_loopw [9, 10, 15] (fun s q v wr => ∃ t m k j : Nat, s = .int .u64 (t : Int) ∧ q = .int .i64 (m : Int) ∧ v = .int .i64 (k : Int) ∧ k ≤ n ∧ t < p ∧ Hid (t = sN f k % p) ∧ Hid (m = i * k % n) ∧ wr = W.drewN (j0 + j)) (fun _ _ v _ => n - (intOf v).toNat)
  case atStart => exact ⟨0, 0, 0, 0, rfl, rfl, rfl, by omega, h0p, by unfold Hid; rw [sN, Nat.zero_mod], by unfold Hid; rw [Nat.mul_zero, Nat.zero_mod], rfl⟩
  case round =>
    obtain ⟨t, m, k, j, rfl, rfl, rfl, hk, ht, HS, HM, rfl⟩ := hrel
    by_cases hlt : k < n
    · obtain ⟨h1, hn, hi, hp, hp2⟩ := HI.out
      have hml : m < n := by rw [HM.out]; exact Nat.mod_lt _ (by omega)
      obtain ⟨c, hc⟩ : ∃ c, xs[k]? = some c := ⟨_, List.getElem?_eq_getElem (by rw [HXL.out]; exact hlt)⟩
      obtain ⟨l, hl⟩ : ∃ l, ls[m]? = some l := ⟨_, List.getElem?_eq_getElem (by rw [HLL.out]; exact hml)⟩
      obtain ⟨b, o, rfl, hb, c0, hcl⟩ := HX.out.get k c hc
      obtain ⟨b2, o2, rfl, hb2, d0, _⟩ := HL.out.get m l hl
      have HTk := HT'.out m l hl c hcl
      obtain ⟨v, hv⟩ : ∃ v, y m * c % p = v := ⟨_, rfl⟩
      have hvl : v < p := hv ▸ Nat.mod_lt _ (by omega)
      rw [hv] at HTk
      have HAk := HA'.out t v ht hvl
      obtain ⟨t2, ht2⟩ : ∃ t2, (t + v) % p = t2 := ⟨_, rfl⟩
      rw [ht2] at HAk
      have ht2l : t2 < p := ht2 ▸ Nat.mod_lt _ (by omega)
      have HS2 : Hid (t2 = sN f (k + 1) % p) := by
        unfold Hid
        rw [← ht2, ← hv, HS.out, sN, ← Nat.add_mod, ← HF.out k, ← HM.out, atL_of hc]
      obtain ⟨m2, hm2⟩ : ∃ m2, (m + i) % n = m2 := ⟨_, rfl⟩
      have HM2 : Hid (m2 = i * (k + 1) % n) := by
        unfold Hid; rw [← hm2, HM.out, Nat.mod_add_mod, Nat.mul_succ]
      have hm2l : m2 < n := hm2 ▸ Nat.mod_lt _ (by omega)
      have r1 : wrap64 ((m : Int) + (i : Int)) = (m : Int) + (i : Int) := by
        rw [← Int.natCast_add]; exact wrN (addSm hml hi hn)
      have r1' : IntKind.i64.wrap ((m : Int) + (i : Int)) = (m : Int) + (i : Int) := by
        rw [← Int.natCast_add]; exact wrI (addSm hml hi hn)
      have r2 : Int.tmod ((m : Int) + (i : Int)) (n : Int) = (m2 : Int) := by rw [← hm2]; rfl
      have r2' : ((m : Int) + (i : Int)) % (n : Int) = (m2 : Int) := by rw [← hm2]; rfl
      have r3 : wrap64 (m2 : Int) = (m2 : Int) := wrL hm2l hn
      have r3' : IntKind.i64.wrap (m2 : Int) = (m2 : Int) := wrLI hm2l hn
      have q1 : (m : Int) < (n : Int) := ltI hml
      have q2 : (k : Int) < (n : Int) := ltI hlt
      clear hv hvl ht2 hm2 HS HM hc hl hcl hb hb2 h1 hn hi hp hp2 hml hm2l
      go_wp2_with (first
        | (go_at_call 109; with_reducible refine AnsW.use HTk _ fun n1 => ?_)
        | (go_at_call 110; with_reducible refine AnsW.use HAk _ fun n2 => ?_))
      clear r1 r1' r2 r2' r3 r3' q1
      go_roundw
      case rel => exact ⟨t2, m2, k + 1, j + n1 + n2, rfl, rfl, by go_num, by omega, ht2l, HS2, HM2, by simp only [Nat.add_assoc]⟩
      case measure => simp [intOf]; omega
    · obtain rfl : k = n := by omega
      have HE : Hid ((t : Int) = ((sN f k % p : Nat) : Int)) := by unfold Hid; rw [HS.out]
      clear HS HM
      go_wp2
      go_ret
      exact ⟨ret_int HE.out, j, rfl⟩
theorem sum_any {W : World} {b : Nat} {x : En} (F : FieldAt W b x) (hF : Fld x) {A : Option Addr} {C : Nat} {xs : List Nat} (hX : UAt W A C xs) {B : Option Addr} {D n r : Nat} (hl : xs.length = n) (hL : UAt W B D ((pws r x.p n).map fun y => up y x.p)) (ho : OrdN r x.p n) (h1 : 1 ≤ n) (hn : n ≤ 4096) (i : Nat) (hi : i < n) :
    AnsW W 86 #[pt b, .slice A n C, .slice B n D, .int .i64 (i : Int)] (.int .u64 ((tS r n (atL xs) i % x.p : Nat) : Int)) := by
  obtain ⟨h3, hodd, hlt⟩ := hF.num
  refine ansW_int (sum_walk W b x.p n A C xs B D _ (fun m => r ^ m % x.p) hX hL hl (by rw [List.length_map, pws_len]) h1 hn i hi (by omega) hlt (fun m l hml c hc => ?_) (fun a c ha hc => fAdd_any F a c (by omega) (by omega))) ?_
  · rw [List.getElem?_map] at hml
    have hm : m < n := by
      by_cases h : m < n
      · exact h
      · rw [List.getElem?_eq_none (by rw [pws_len]; omega)] at hml; cases hml
    rw [pws_get hm] at hml
    simp only [Option.map_some, Option.some.injEq] at hml
    subst hml
    exact fTimes_lift F (r ^ m % x.p) c (by have := Nat.mod_lt (r ^ m) (show 0 < x.p by omega); omega) hc
  · congr 1
    unfold tS
    refine sN_cong fun j hj => ?_
    rw [Nat.mod_mul_mod, Nat.mul_comm, Nat.mul_mod, ← ho.mod (i * j), ← Nat.mul_mod]

/-! ### Run -/
theorem run_err (w : World) (v : Option Addr) (A : Option Addr) (n C : Nat) (i : Bool) (e : Int) (he : (e != 0) = true) (hlen : (n : Int) ≤ 9223372036854775807) (HC : AnsW w 43 #[.pointer v, .int .i64 (n : Int), .int .i64 1024] (.int .i64 e)) : AnsW w 67 #[.pointer v, .slice A n C, .bool i] (.tuple #[.slice none 0 0, .int .i64 e]) := by
  intro j
  go_enter Tryz.func67, Tryz.ntmps67
  go_wp2_with (go_at_call 43; with_reducible refine AnsW.use HC _ fun n1 => ?_)
  go_ret2
  exact ⟨rfl, _, rfl⟩
theorem run_entry (w : World) (v : Option Addr) (A : Option Addr) (n C : Nat) (i : Bool) (hlen : (n : Int) ≤ 9223372036854775807) (HC : AnsW w 43 #[.pointer v, .int .i64 (n : Int), .int .i64 1024] (.int .i64 0)) (HG : AnsW w 44 #[.pointer v, .slice A n C] (.bool false)) : AnsW w 67 #[.pointer v, .slice A n C, .bool i] (.tuple #[.slice none 0 0, .int .i64 9]) := by
  intro j
  go_enter Tryz.func67, Tryz.ntmps67
  go_wp2_with (first
    | (go_at_call 43; with_reducible refine AnsW.use HC _ fun n1 => ?_)
    | (go_at_call 44; with_reducible refine AnsW.use HG _ fun n2 => ?_))
  go_ret2
  exact ⟨rfl, n1 + n2, by simp [Nat.add_assoc]⟩
set_option maxHeartbeats 4000000 in
theorem run_walk (W : World) (b : Nat) (A : Option Addr) (n C : Nat) (i : Bool) (ls l : List Nat) (s : Nat → Nat) (h1 : 1 ≤ n) (hn : n ≤ 4096) (hll : ls.length = n) (hl2 : l.length = n) (hls : ∀ y ∈ ls, y < 18446744073709551616)
    (HC : ∀ w, Below W.heap.size W w → AnsW w 43 #[pt b, .int .i64 (n : Int), .int .i64 1024] (.int .i64 0))
    (HG : ∀ w, Below W.heap.size W w → AnsW w 44 #[pt b, .slice A n C] (.bool true))
    (HL : ∀ w, Below W.heap.size W w → OwnT w 82 #[pt b, .int .i64 (n : Int), .bool i] ls)
    (HS : ∀ w B D, Below W.heap.size W w → UAt w B D ls → ∀ k, k < n → AnsW w 86 #[pt b, .slice A n C, .slice B n D, .int .i64 (k : Int)] (.int .u64 ((s k : Nat) : Int)))
    (hsl : ∀ k, s k < 18446744073709551616)
    (HF : i = false → l = wfl 0 n n s)
    (HR : i = true → ∀ w B D, Below W.heap.size W w → UAt w B D (wfl 0 n n s) → OwnR w 85 #[pt b, .slice B n D] l) : OwnT W 67 #[pt b, .slice A n C, .bool i] l := by
  intro w hw
  obtain ⟨ii, hii, hzi, hsi, hbi⟩ := info_parts infoWd
  have HC1 := HC w hw
  have HG1 := HG w hw
  have HL1 : ∀ (x : Nat) {R : Ending → World → Prop}, (∀ g C1 w', OwnU w' w.heap.size (some ⟨g, 0, none⟩) C1 ls → Below w.heap.size w w' → R (.returned (.tuple #[.slice (some ⟨g, 0, none⟩) n C1, .int .i64 0])) w') → Calls Tryz.prog 82 #[pt b, .int .i64 (n : Int), .bool i] (w.drewN x) R :=
    fun x R k => OwnT.useG (HL w hw) hll h1 (below_drewN w x) fun g C1 w' q1 q2 => k g C1 w' (q1.base (Nat.le_refl _)) (bb (below_drewN w x) q2)
  have HS' : Hid (∀ w B D, Below W.heap.size W w → UAt w B D ls → ∀ k, k < n → AnsW w 86 #[pt b, .slice A n C, .slice B n D, .int .i64 (k : Int)] (.int .u64 ((s k : Nat) : Int))) := HS
  have HR' : Hid (i = true → ∀ w B D, Below W.heap.size W w → UAt w B D (wfl 0 n n s) → OwnR w 85 #[pt b, .slice B n D] l) := HR
  have HF' : Hid (i = false → l = wfl 0 n n s) := HF
  have HN : Hid (1 ≤ n ∧ n ≤ 4096) := ⟨h1, hn⟩
  have HLS : Hid (∀ y ∈ ls, y < 18446744073709551616) := hls
  have HSL : Hid (∀ k, s k < 18446744073709551616) := hsl
  have HL2 : Hid (l.length = n) := hl2
  have HW : Hid (Below W.heap.size W w) := hw
  have hlenn : (n : Int) ≤ 9223372036854775807 := by omega
  rw [hl2]
  clear HC HG HL HS HR HF hll hls hsl h1 hn hl2 hw
  go_enter Tryz.func67, Tryz.ntmps67
  go_wp2_with (first
    | (go_at_call 43; with_reducible refine AnsW.use0 HC1 fun n1 => ?_)
    | (go_at_call 44; with_reducible refine AnsW.use HG1 _ fun n2 => ?_)
    | (go_at_call 82; with_reducible refine HL1 _ fun g C1 w2 hO2 hB2 => ?_)
    | (at_make; refine Hid.out ?_))
  unfold Hid
  refine wpList_make_full _ rfl _ _ 26 rfl w2.heap.size 22 ii _ 1 Tryz.underlying26 hii hzi hsi .i64 .i64 (n : Int) (n : Int) n rfl rfl rfl rfl (by have := HN.out.2; rw [hbi]; omega) (by have := HN.out.2; unfold maxLen; omega) (Nat.le_refl _) ?_
  intro w3 hR hG1
  obtain ⟨gc, hgc⟩ : ∃ gc, w2.heap.size = gc := ⟨_, rfl⟩
  have HGC : Hid (w2.heap.size = gc) := hgc
  have hR1 : w3.ownsRow w2.heap.size 22 1 (.slice (some ⟨w2.heap.size, 0, none⟩) n n) n (ucells (wfl 0 n 0 s)) := by
    have e : (madeCells (Value.int .u64 0).cells (n * 1)).toList = ucells (wfl 0 n 0 s) := by
      rw [made_list rfl, wfl_zero]; simp [ucells]
    rw [← e]; exact hR
  have hB3 : Below w2.heap.size w2 w3 := (Below.refl _ _).grown hG1 (Nat.le_refl _) (fun k ek => by cases ek)
  rw [show (Value.slice (some ⟨w2.heap.size, 0, none⟩) n n) = .slice (some ⟨gc, 0, none⟩) n n by rw [hgc]] at hR1
  have HR2 : Hid (w3.ownsRow w2.heap.size 22 1 (.slice (some ⟨gc, 0, none⟩) n n) n (ucells (wfl 0 n 0 s))) := hR1
  have HO2 : Hid (UAt w2 (some ⟨g, 0, none⟩) C1 ls) := hO2.words HLS.out
  have HB2 : Hid (Below w.heap.size w w2) := hB2
  rw [hgc]
  clear hR hR1 hG1 hgc HC1 HG1 HL1 hO2 hB2
  go_wp2
  go_loopw [37] (fun v wr => ∃ k : Nat, v = .int .i64 (k : Int) ∧ k ≤ n ∧ Hid (wr.ownsRow w2.heap.size 22 1 (.slice (some ⟨gc, 0, none⟩) n n) n (ucells (wfl 0 n k s))) ∧ Hid (Below w2.heap.size w2 wr)) (fun v _ => n - (intOf v).toNat)
  case atStart => exact ⟨0, rfl, by omega, HR2, hB3⟩
  case round =>
    clear HR2 hB3
    obtain ⟨k, rfl, hk, HO, HB⟩ := hrel
    by_cases hlt : k < n
    · have HSk := HS'.out wr _ _ (bb HW.out (bb HB2.out HB.out)) (HO2.out.below HB.out) k hlt
      have hfk : wr.frozen? ⟨gc, k, none⟩ = false := World.ownsRow.frozenAt HO.out k
      have hck : wr.cell? ⟨gc, k, none⟩ = some (.int .u64 0) := (World.ownsRow.cellAt HO.out k (by omega)).trans (by unfold ucells; rw [List.getElem?_map, wfl_get 0 s hlt, if_neg (by omega)]; rfl)
      obtain ⟨y, hy⟩ : ∃ y, s k = y := ⟨_, rfl⟩
      rw [hy] at HSk
      have HO0 : Hid (∀ m, OwnU (wr.drewN m) w2.heap.size (some ⟨gc, 0, none⟩) n (wfl 0 n k s)) := fun m => by
        have : OwnU wr w2.heap.size (some ⟨gc, 0, none⟩) n (wfl 0 n k s) := by unfold OwnU; rw [wfl_len]; exact HO.out
        exact this.below (below_drewN wr m)
      have HO3 : Hid (∀ m, ((wr.drewN m).setCell ⟨gc, k, none⟩ (.int .u64 (y : Int))).ownsRow w2.heap.size 22 1 (.slice (some ⟨gc, 0, none⟩) n n) n (ucells (wfl 0 n (k + 1) s))) := fun m => by
        have := (HO0.out m).set k y
        unfold OwnU at this
        rw [List.length_set, wfl_len] at this
        rw [← wfl_set, hy]; exact this
      have HB3 : Hid (∀ m, Below w2.heap.size w2 ((wr.drewN m).setCell ⟨gc, k, none⟩ (.int .u64 (y : Int)))) := fun m => (below_dN HB.out m).setCell (p := ⟨gc, k, none⟩) (by rw [HGC.out]; exact Nat.le_refl _) _
      clear hy HO HO0 HB
      go_wp2_with (go_at_call 86; with_reducible refine AnsW.use0 HSk fun n3 => ?_)
      go_roundw
      case rel => exact ⟨k + 1, by go_num, by omega, HO3.out n3, HB3.out n3⟩
      case measure => simp [intOf]; omega
    · obtain rfl : k = n := by omega
      have HO4 : Hid (OwnU wr w2.heap.size (some ⟨gc, 0, none⟩) k (wfl 0 k k s)) := by
        unfold Hid OwnU; rw [wfl_len]; exact HO.out
      have HBE : Hid (Below w.heap.size w wr) := bb HB2.out HB.out
      have HBA : Hid (w.heap.size ≤ w2.heap.size) := HB2.out.size
      clear HO
      cases i
      · have HE := HF'.out rfl
        have HO5 : Hid (OwnU wr w.heap.size (some ⟨gc, 0, none⟩) k l) := by unfold Hid; rw [HE]; exact HO4.out.base HBA.out
        clear HO4 HE
        go_wp2
        go_ret2
        exact ⟨_, _, rfl, HO5.out, HBE.out⟩
      · have HRR := HR'.out rfl wr _ _ (bb HW.out HBE.out) (HO4.out.words fun y hy => by
          rw [wfl_all] at hy
          obtain ⟨m, _, rfl⟩ := List.mem_map.1 hy
          exact HSL.out m)
        have HRR2 : ∀ {R : Ending → World → Prop}, (∀ A1 C2 w', OwnU w' w.heap.size A1 C2 l → Below w.heap.size w w' → R (.returned (.slice A1 k C2)) w') → Calls Tryz.prog 85 #[pt b, .slice (some ⟨gc, 0, none⟩) k k] wr R :=
          fun {R} q => OwnR.use HRR (Below.refl _ _) fun A1 C2 w' q1 q2 => by rw [HL2.out]; exact q A1 C2 w' (q1.base HBE.out.size) (bb HBE.out q2)
        clear HRR HO4
        go_wp2_with (go_at_call 85; with_reducible refine HRR2 fun A5 C5 w5 hO5 hB5 => ?_)
        go_ret2
        exact ⟨_, _, rfl, hO5, hB5⟩
theorem run_yes {W : World} {b : Nat} {x : En} (F : FieldAt W b x) (hF : Fld x) {A : Option Addr} {C : Nat} {xs : List Nat} (hU : UAt W A C xs) (h1 : 1 ≤ xs.length) (hn : xs.length ≤ 1024) (hd : (x.p - 1) % xs.length = 0) (hg : ∀ y ∈ xs, y < x.p) (i : Bool) : OwnT W 67 #[pt b, .slice A xs.length C, .bool i] (dT x i xs) := by
  obtain ⟨h3, hodd, hlt⟩ := hF.num
  have ho := twR_ord hF h1 hd i
  refine run_walk W b A xs.length C i ((pws (twR x xs.length i) x.p xs.length).map fun y => up y x.p) (dT x i xs) (fun k => tS (twR x xs.length i) xs.length (atL xs) k % x.p) h1 (by omega) (by rw [List.length_map, pws_len]) (dT_len x i xs) (fun y hy => ?_)
    (fun w hw => (dftck_any (F.below hw) xs.length 1024 (by omega)).to (by rw [ckD_yes h1 (by omega) hd]))
    (fun w hw => (dftgood_any (F.below hw) (hU.below hw)).to (by rw [goodB_iff.2 hg]))
    (fun w hw => lifted_yes w b x (F.below hw) hF xs.length h1 (by omega) hd i)
    (fun w B D hw hL k hk => sum_any (F.below hw) hF (hU.below hw) rfl hL ho h1 (by omega) k hk)
    (fun k => by have := Nat.mod_lt (tS (twR x xs.length i) xs.length (atL xs) k) (show 0 < x.p by omega); omega)
    (fun e => ?_) (fun e w B D hw hV => ?_)
  · obtain ⟨z, _, rfl⟩ := List.mem_map.1 hy
    have := up_lt z x.p (by omega); omega
  · subst e
    rw [wfl_all]; rfl
  · subst e
    have hwl : (wfl 0 xs.length xs.length (fun k => tS (twR x xs.length true) xs.length (atL xs) k % x.p)).length = xs.length := wfl_len _ _ _ _
    obtain ⟨v, hv, HS⟩ := scale_any (F.below hw) hF hV (by rw [hwl]; omega)
    rw [hwl] at hv HS
    obtain ⟨_, hle, _⟩ := len_inv hF h1 hd
    have ev : v = invN x xs.length := by
      have hi := (len_inv hF h1 hd).2.2
      have hne := (len_inv hF h1 hd).1
      have hy := hv.yes hne
      -- both make 1 with the length
      have e1 : v = v * (xs.length * invN x xs.length) % x.p := by
        rw [Nat.mul_mod, hi, Nat.mul_one, Nat.mod_mod, Nat.mod_eq_of_lt hv.lt]
      rw [e1, ← Nat.mul_assoc, Nat.mul_comm v, Nat.mul_mod, hy, Nat.one_mul, Nat.mod_mod]
      exact Nat.mod_eq_of_lt (Nat.mod_lt _ (by omega))
    have e2 : (wfl 0 xs.length xs.length (fun k => tS (twR x xs.length true) xs.length (atL xs) k % x.p)).map (fun y => v * y % x.p) = dT x true xs := by
      rw [wfl_all, List.map_map]
      unfold dT
      apply List.map_congr_left
      intro k _
      show v * (tS (twR x xs.length true) xs.length (atL xs) k % x.p) % x.p = dV x true xs k
      unfold dV
      rw [if_pos rfl, ev, Nat.mul_comm]
    rw [e2] at HS
    exact HS
theorem run_bad {W : World} {b : Nat} {x : En} (F : FieldAt W b x) (A : Option Addr) (n C : Nat) (hn : (n : Int) ≤ 9223372036854775807) (i : Bool) (h : ckD x.p (n : Int) 1024 ≠ 0) : AnsW W 67 #[pt b, .slice A n C, .bool i] (.tuple #[.slice none 0 0, .int .i64 (ckD x.p (n : Int) 1024)]) :=
  run_err W _ A n C i _ (by simp only [bne_iff_ne, ne_eq]; exact h) hn (dftck_any F n 1024 (by omega))
theorem run_not {W : World} {b : Nat} {x : En} (F : FieldAt W b x) {A : Option Addr} {C : Nat} {xs : List Nat} (hU : UAt W A C xs) (i : Bool) (h : ckD x.p (xs.length : Int) 1024 = 0) (hg : goodB x.p xs = false) : AnsW W 67 #[pt b, .slice A xs.length C, .bool i] (.tuple #[.slice none 0 0, .int .i64 9]) :=
  run_entry W _ A xs.length C i hU.len ((dftck_any F xs.length 1024 (by have := hU.len; omega)).to (by rw [h])) ((dftgood_any F hU).to (by rw [hg]))
theorem run_nil (w : World) (A : Option Addr) (n C : Nat) (i : Bool) (hlen : (n : Int) ≤ 9223372036854775807) : AnsW w 67 #[.pointer none, .slice A n C, .bool i] (.tuple #[.slice none 0 0, .int .i64 2]) :=
  run_err w none A n C i 2 (by decide) hlen (ck_nil w _ _)
end Go.Proofs.YtpjfapibjihbbaaGreatDoor
/-
  What the document's Sum and Run of layer 11 answer. No condition but that the lists lie there.
-/
namespace Go.Proofs.YtpjfapibjihbbaaGreatDoor
set_option linter.unusedVariables false
open Go.RowKit

set_option maxHeartbeats 2000000 in
theorem dsum_walk (W : World) (p n : Nat) (A : Option Addr) (C : Nat) (xs : List Nat) (B : Option Addr) (D : Nat) (ts : List Nat) (y : Nat → Nat) (hX : UAt W A C xs) (hT : UAt W B D ts) (hx : xs.length = n) (hl : ts.length = n) (h1 : 1 ≤ n) (hn : n ≤ 4096) (i : Nat) (hi : i < n) (hp : 1 ≤ p) (hp2 : p < 9223372036854775808)
    (hy : ∀ m t : Nat, ts[m]? = some t → t = y m) : AnsW W 28 #[.int .u64 (p : Int), .slice B n D, .slice A n C, .int .i64 (i : Int)] (.int .u64 ((sN (fun j => atL xs j * y (i * j % n)) n % p : Nat) : Int)) := by
  intro j0
  have HX : Hid (UAt W A C xs) := hX
  have HT : Hid (UAt W B D ts) := hT
  have HXL : Hid (xs.length = n) := hx
  have HLL : Hid (ts.length = n) := hl
  have HI : Hid (1 ≤ n ∧ n ≤ 4096 ∧ i < n ∧ 1 ≤ p ∧ p < 9223372036854775808) := ⟨h1, hn, hi, hp, hp2⟩
  have HY : Hid (∀ m t : Nat, ts[m]? = some t → t = y m) := hy
  obtain ⟨f, hf⟩ : ∃ f : Nat → Nat, (fun j => atL xs j * y (i * j % n)) = f := ⟨_, rfl⟩
  have HF : Hid (∀ j, atL xs j * y (i * j % n) = f j) := fun j => congrFun hf j
  rw [hf]
  have h0p : 0 < p := by omega
  have hlenn : (n : Int) ≤ 9223372036854775807 := by omega
  have hn0 : ¬ (n : Int) = 0 := by omega
  clear hX hT hx hl h1 hn hi hp hp2 hy hf
  go_enter Tryz.func28, Tryz.ntmps28
  go_wp2
  go_loopw [9, 14] (fun s v wr => ∃ t k j : Nat, s = .int .u64 (t : Int) ∧ v = .int .i64 (k : Int) ∧ k ≤ n ∧ t < p ∧ Hid (t = sN f k % p) ∧ wr = W.drewN (j0 + j)) (fun _ v _ => n - (intOf v).toNat)
  case atStart => exact ⟨0, 0, 0, rfl, rfl, by omega, h0p, by unfold Hid; rw [sN, Nat.zero_mod], rfl⟩
  case round =>
    obtain ⟨t, k, j, rfl, rfl, hk, ht, HS, rfl⟩ := hrel
    by_cases hlt : k < n
    · obtain ⟨h1, hn, hi, hp, hp2⟩ := HI.out
      obtain ⟨m, hm⟩ : ∃ m, i * k % n = m := ⟨_, rfl⟩
      have hml : m < n := by rw [← hm]; exact Nat.mod_lt _ (by omega)
      have hik : i * k ≤ 16777216 := Nat.le_trans (Nat.mul_le_mul (Nat.le_of_lt hi) hk) (Nat.le_trans (Nat.mul_le_mul hn hn) (by decide))
      obtain ⟨c, hc⟩ : ∃ c, xs[k]? = some c := ⟨_, List.getElem?_eq_getElem (by rw [HXL.out]; exact hlt)⟩
      obtain ⟨l, hl⟩ : ∃ l, ts[m]? = some l := ⟨_, List.getElem?_eq_getElem (by rw [HLL.out]; exact hml)⟩
      obtain ⟨b, o, rfl, hb, c0, hcl⟩ := HX.out.get k c hc
      obtain ⟨b2, o2, rfl, hb2, d0, hll⟩ := HT.out.get m l hl
      have HQ := rmul_any c l p hcl hll (by omega) (by omega)
      obtain ⟨v, hv⟩ : ∃ v, c * l % p = v := ⟨_, rfl⟩
      have hvl : v < p := hv ▸ Nat.mod_lt _ (by omega)
      rw [hv] at HQ
      have HA := radd_any t v p (by omega) (by omega) (by omega) (by omega)
      obtain ⟨t2, ht2⟩ : ∃ t2, (t + v) % p = t2 := ⟨_, rfl⟩
      rw [ht2] at HA
      have ht2l : t2 < p := ht2 ▸ Nat.mod_lt _ (by omega)
      have HS2 : Hid (t2 = sN f (k + 1) % p) := by
        unfold Hid
        rw [← ht2, ← hv, HS.out, sN, ← Nat.add_mod, ← HF.out k, hm, atL_of hc, HY.out m l hl]
      obtain ⟨e, he⟩ : ∃ e, i * k = e := ⟨_, rfl⟩
      rw [he] at hm hik
      have r1 : wrap64 ((i : Int) * (k : Int)) = (e : Int) := by
        rw [← Int.natCast_mul, he]; exact wrN hik
      have r1' : IntKind.i64.wrap ((i : Int) * (k : Int)) = (e : Int) := by
        rw [← Int.natCast_mul, he]; exact wrI hik
      have r2 : Int.tmod (e : Int) (n : Int) = (m : Int) := by rw [← hm]; rfl
      have r2' : (e : Int) % (n : Int) = (m : Int) := by rw [← hm]; rfl
      have r3 : wrap64 (m : Int) = (m : Int) := wrL hml hn
      have r3' : IntKind.i64.wrap (m : Int) = (m : Int) := wrLI hml hn
      have q1 : (m : Int) < (n : Int) := ltI hml
      have q2 : (k : Int) < (n : Int) := ltI hlt
      clear hv hvl ht2 hm HS hc hl hcl hll hb hb2 h1 hn hi hp hp2 hml he hik
      go_wp2_with (first
        | (go_at_call 29; with_reducible refine Ans.use HQ _ fun n1 => ?_)
        | (go_at_call 48; with_reducible refine Ans.use HA _ fun n2 => ?_))
      clear r1 r1' r2 r2' r3 r3' q1
      go_roundw
      case rel => exact ⟨t2, k + 1, j + n1 + n2, rfl, by go_num, by omega, ht2l, HS2, by simp only [Nat.add_assoc]⟩
      case measure => simp [intOf]; omega
    · obtain rfl : k = n := by omega
      have HE : Hid ((t : Int) = ((sN f k % p : Nat) : Int)) := by unfold Hid; rw [HS.out]
      clear HS
      go_wp2
      go_ret
      exact ⟨ret_int HE.out, j, rfl⟩
theorem dsum_any {W : World} {p : Nat} (hp : 1 ≤ p) (hp2 : p < 9223372036854775808) {A : Option Addr} {C : Nat} {xs : List Nat} (hX : UAt W A C xs) {B : Option Addr} {D n r : Nat} (hl : xs.length = n) (hT : UAt W B D (pws r p n)) (ho : OrdN r p n) (h1 : 1 ≤ n) (hn : n ≤ 4096) (i : Nat) (hi : i < n) :
    AnsW W 28 #[.int .u64 (p : Int), .slice B n D, .slice A n C, .int .i64 (i : Int)] (.int .u64 ((tS r n (atL xs) i % p : Nat) : Int)) := by
  refine ansW_int (dsum_walk W p n A C xs B D _ (fun m => r ^ m % p) hX hT hl (pws_len _ _ _) h1 hn i hi hp hp2 (fun m t hm => ?_)) ?_
  · have hmn : m < n := by
      by_cases h : m < n
      · exact h
      · rw [List.getElem?_eq_none (by rw [pws_len]; omega)] at hm; cases hm
    rw [pws_get hmn] at hm
    cases hm; rfl
  · congr 1
    unfold tS
    refine sN_cong fun j hj => ?_
    rw [Nat.mul_mod_mod, Nat.mul_mod, ← ho.mod (i * j), ← Nat.mul_mod]
theorem rng_snoc (d : Nat → Nat) (k : Nat) : ucells ((List.range (k + 1)).map d) = ucells ((List.range k).map d) ++ [.int .u64 ((d k : Nat) : Int)] := by
  rw [List.range_succ, List.map_append, ucells]; simp [ucells]
set_option maxHeartbeats 4000000 in
theorem drun_fwd (W : World) (p g r : Int) (A : Option Addr) (n C : Nat) (s d : Nat → Nat) (ts : List Nat) (h1 : 1 ≤ n) (hn : n ≤ 4096) (hts : ts.length = n) (htl : ∀ y ∈ ts, y < 18446744073709551616)
    (HR : Ans 26 #[.int .u64 p, .int .u64 g, .int .i64 (n : Int), .bool false] (.tuple #[.int .u64 r, .int .i64 0]))
    (HT : OwnR W 27 #[.int .u64 p, .int .u64 r, .int .i64 (n : Int)] ts)
    (HS : ∀ w B D, Below W.heap.size W w → UAt w B D ts → ∀ k, k < n → AnsW w 28 #[.int .u64 p, .slice B n D, .slice A n C, .int .i64 (k : Int)] (.int .u64 ((s k : Nat) : Int)))
    (HD : ∀ k, s k = d k) : OwnR W 10 #[.int .u64 p, .int .u64 g, .slice A n C, .bool false] ((List.range n).map d) := by
  intro w hw
  obtain ⟨ii, hii, hzi, hsi, hbi⟩ := info_parts infoWd
  have HT1 : ∀ (x : Nat) {R : Ending → World → Prop}, (∀ g C1 w', OwnU w' w.heap.size (some ⟨g, 0, none⟩) C1 ts → Below w.heap.size w w' → R (.returned (.slice (some ⟨g, 0, none⟩) n C1)) w') → Calls Tryz.prog 27 #[.int .u64 p, .int .u64 r, .int .i64 (n : Int)] (w.drewN x) R :=
    fun x R k => OwnR.useG HT hts h1 (below_dN hw x) fun g C1 w' q1 q2 => k g C1 w' (q1.base (Nat.le_refl _)) (bb (below_drewN w x) q2)
  have HS' : Hid (∀ w B D, Below W.heap.size W w → UAt w B D ts → ∀ k, k < n → AnsW w 28 #[.int .u64 p, .slice B n D, .slice A n C, .int .i64 (k : Int)] (.int .u64 ((s k : Nat) : Int))) := HS
  have HD' : Hid (∀ k, s k = d k) := HD
  have HN : Hid (1 ≤ n ∧ n ≤ 4096) := ⟨h1, hn⟩
  have HTL : Hid (∀ y ∈ ts, y < 18446744073709551616) := htl
  have HW : Hid (Below W.heap.size W w) := hw
  have hlenn : (n : Int) ≤ 9223372036854775807 := by omega
  rw [show ((List.range n).map d).length = n by simp]
  have HX : Hid (∀ k, ucells ((List.range (k + 1)).map d) = ucells ((List.range k).map d) ++ [.int .u64 ((d k : Nat) : Int)]) := fun k => rng_snoc d k
  have H0 : Hid (ucells ((List.range 0).map d) = []) := rfl
  clear HT HS HD hts htl h1 hn hw
  go_enter Tryz.func10, Tryz.ntmps10
  go_wp2_with (first
    | (go_at_call 26; with_reducible refine Ans.use HR _ fun m1 => ?_)
    | (go_at_call 27; with_reducible refine HT1 _ fun gt C1 w2 hO2 hB2 => ?_))
  have HO2 : Hid (UAt w2 (some ⟨gt, 0, none⟩) C1 ts) := hO2.words HTL.out
  have HB2 : Hid (Below w.heap.size w w2) := hB2
  clear HR HT1 hO2 hB2
  go_loopw [12, 31] (fun out v wr => ∃ k : Nat, v = .int .i64 (k : Int) ∧ k ≤ n ∧ Hid (wr.ownsRow w2.heap.size 22 1 out k (ucells ((List.range k).map d))) ∧ Hid (Below w2.heap.size w2 wr)) (fun _ v _ => n - (intOf v).toNat)
  case atStart => exact ⟨0, rfl, by omega, by unfold Hid; rw [H0.out]; exact World.ownsRow_nil _ _ _ _, Below.refl _ _⟩
  case round =>
    obtain ⟨k, rfl, hk, HO, HB⟩ := hrel
    by_cases hlt : k < n
    · have HSk := HS'.out wr _ _ (bb HW.out (bb HB2.out HB.out)) (HO2.out.below HB.out) k hlt
      have HXk := HX.out k
      obtain ⟨y, hy⟩ : ∃ y, d k = y := ⟨_, rfl⟩
      rw [HD'.out k, hy] at HSk
      rw [hy] at HXk
      have HXk' : Hid (ucells ((List.range (k + 1)).map d) = ucells ((List.range k).map d) ++ [.int .u64 (y : Int)]) := HXk
      have hkm : k ≤ 4096 := Nat.le_trans hk HN.out.2
      have HRow : Hid (∀ m, (wr.drewN m).ownsRow w2.heap.size 22 1 u12 k (ucells ((List.range k).map d))) := fun m => row_below HO.out (below_drewN wr m)
      have HBr : Hid (∀ m, Below w2.heap.size w2 (wr.drewN m)) := fun m => below_dN HB.out m
      clear hy HXk HO HB
      go_wp2_with (first
        | (go_at_call 28; with_reducible refine AnsW.use0 HSk fun n1 => ?_)
        | (at_builtin; refine Hid.out ?_))
      unfold Hid
      have hO2 := World.ownsRow.alloc (HRow.out n1) (.cells #[.int .u64 (y : Int)] 22)
      have hnews := one_new (wr.drewN n1) (.int .u64 (y : Int)) 22
      have hBa : Below w2.heap.size w2 ((wr.drewN n1).alloc (.cells #[.int .u64 (y : Int)] 22)) := bb (HBr.out n1) (below_alloc _ _)
      refine (wpList_append_own _ rfl _ _ 26 rfl w2.heap.size 22 ii _ 1 8 Tryz.underlying26 hii hzi hsi hbi rfl (by omega) _ k _ rfl hO2 ⟨(wr.drewN n1).heap.size, 0, none⟩ 1 1 [.int .u64 (y : Int)] rfl rfl hnews (by simp [Value.oneCell']) (by unfold maxLen; omega) (by omega) hBa.size ?_)
      intro v' w5 hO3 hG _
      have HO3 : Hid (w5.ownsRow w2.heap.size 22 1 v' (k + 1) (ucells ((List.range (k + 1)).map d))) := by unfold Hid; rw [HXk'.out]; exact hO3
      have HB5 : Hid (Below w2.heap.size w2 w5) := hBa.grown hG hBa.size (fun k hk => (hO2.lt k hk).1)
      clear hO3 hG hO2 hBa hnews hkm HRow HBr
      go_wp2
      go_roundw
      case rel => exact ⟨k + 1, by go_num, by omega, by unfold Hid; exact HO3.out, HB5⟩
      case measure => simp [intOf]; omega
    · obtain rfl : k = n := by omega
      obtain ⟨A1, C5, rfl⟩ : ∃ A1 C5, u12 = .slice A1 k C5 := by
        rcases HO.out.2 with ⟨hv, h0⟩ | ⟨g, cap, cur, hv, _⟩
        · exact ⟨none, 0, by rw [hv, h0]⟩
        · exact ⟨_, _, hv⟩
      have HO4 : Hid (OwnU wr w.heap.size A1 C5 ((List.range k).map d)) := by
        have : OwnU wr w2.heap.size A1 C5 ((List.range k).map d) := by unfold OwnU; simp only [List.length_map, List.length_range]; exact HO.out
        exact this.base HB2.out.size
      have HB6 : Hid (Below w.heap.size w wr) := bb HB2.out HB.out
      clear HO HB
      go_wp2
      go_ret
      exact ⟨A1, C5, rfl, HO4.out, HB6.out⟩
set_option maxHeartbeats 4000000 in
theorem drun_inv (W : World) (p g r : Int) (A : Option Addr) (n C : Nat) (s d : Nat → Nat) (ts : List Nat) (iv : Nat) (h1 : 1 ≤ n) (hn : n ≤ 4096) (hts : ts.length = n) (htl : ∀ y ∈ ts, y < 18446744073709551616)
    (HR : Ans 26 #[.int .u64 p, .int .u64 g, .int .i64 (n : Int), .bool true] (.tuple #[.int .u64 r, .int .i64 0]))
    (HT : OwnR W 27 #[.int .u64 p, .int .u64 r, .int .i64 (n : Int)] ts)
    (HS : ∀ w B D, Below W.heap.size W w → UAt w B D ts → ∀ k, k < n → AnsW w 28 #[.int .u64 p, .slice B n D, .slice A n C, .int .i64 (k : Int)] (.int .u64 ((s k : Nat) : Int)))
    (HV : Ans 30 #[.int .u64 (n : Int), .int .u64 p] (.int .u64 (iv : Int)))
    (HQ : ∀ k, k < n → Ans 29 #[.int .u64 ((s k : Nat) : Int), .int .u64 (iv : Int), .int .u64 p] (.int .u64 ((d k : Nat) : Int))) : OwnR W 10 #[.int .u64 p, .int .u64 g, .slice A n C, .bool true] ((List.range n).map d) := by
  intro w hw
  obtain ⟨ii, hii, hzi, hsi, hbi⟩ := info_parts infoWd
  have HT1 : ∀ (x : Nat) {R : Ending → World → Prop}, (∀ g C1 w', OwnU w' w.heap.size (some ⟨g, 0, none⟩) C1 ts → Below w.heap.size w w' → R (.returned (.slice (some ⟨g, 0, none⟩) n C1)) w') → Calls Tryz.prog 27 #[.int .u64 p, .int .u64 r, .int .i64 (n : Int)] (w.drewN x) R :=
    fun x R k => OwnR.useG HT hts h1 (below_dN hw x) fun g C1 w' q1 q2 => k g C1 w' (q1.base (Nat.le_refl _)) (bb (below_drewN w x) q2)
  have HS' : Hid (∀ w B D, Below W.heap.size W w → UAt w B D ts → ∀ k, k < n → AnsW w 28 #[.int .u64 p, .slice B n D, .slice A n C, .int .i64 (k : Int)] (.int .u64 ((s k : Nat) : Int))) := HS
  have HQ' : Hid (∀ k, k < n → Ans 29 #[.int .u64 ((s k : Nat) : Int), .int .u64 (iv : Int), .int .u64 p] (.int .u64 ((d k : Nat) : Int))) := HQ
  have HN : Hid (1 ≤ n ∧ n ≤ 4096) := ⟨h1, hn⟩
  have HTL : Hid (∀ y ∈ ts, y < 18446744073709551616) := htl
  have HW : Hid (Below W.heap.size W w) := hw
  have hlenn : (n : Int) ≤ 9223372036854775807 := by omega
  rw [show ((List.range n).map d).length = n by simp]
  have HX : Hid (∀ k, ucells ((List.range (k + 1)).map d) = ucells ((List.range k).map d) ++ [.int .u64 ((d k : Nat) : Int)]) := fun k => rng_snoc d k
  have H0 : Hid (ucells ((List.range 0).map d) = []) := rfl
  clear HT HS HQ hts htl h1 hn hw
  go_enter Tryz.func10, Tryz.ntmps10
  go_wp2_with (first
    | (go_at_call 26; with_reducible refine Ans.use HR _ fun m1 => ?_)
    | (go_at_call 27; with_reducible refine HT1 _ fun gt C1 w2 hO2 hB2 => ?_))
  have HO2 : Hid (UAt w2 (some ⟨gt, 0, none⟩) C1 ts) := hO2.words HTL.out
  have HB2 : Hid (Below w.heap.size w w2) := hB2
  clear HR HT1 hO2 hB2
  go_loopw [12, 31] (fun out v wr => ∃ k : Nat, v = .int .i64 (k : Int) ∧ k ≤ n ∧ Hid (wr.ownsRow w2.heap.size 22 1 out k (ucells ((List.range k).map d))) ∧ Hid (Below w2.heap.size w2 wr)) (fun _ v _ => n - (intOf v).toNat)
  case atStart => exact ⟨0, rfl, by omega, by unfold Hid; rw [H0.out]; exact World.ownsRow_nil _ _ _ _, Below.refl _ _⟩
  case round =>
    obtain ⟨k, rfl, hk, HO, HB⟩ := hrel
    by_cases hlt : k < n
    · have HSk := HS'.out wr _ _ (bb HW.out (bb HB2.out HB.out)) (HO2.out.below HB.out) k hlt
      have HQk := HQ'.out k hlt
      have HXk := HX.out k
      obtain ⟨y, hy⟩ : ∃ y, d k = y := ⟨_, rfl⟩
      obtain ⟨sk, hsk⟩ : ∃ sk, s k = sk := ⟨_, rfl⟩
      rw [hsk] at HSk HQk
      rw [hy] at HXk HQk
      clear hsk
      have HXk' : Hid (ucells ((List.range (k + 1)).map d) = ucells ((List.range k).map d) ++ [.int .u64 (y : Int)]) := HXk
      have hkm : k ≤ 4096 := Nat.le_trans hk HN.out.2
      have HRow : Hid (∀ m, (wr.drewN m).ownsRow w2.heap.size 22 1 u12 k (ucells ((List.range k).map d))) := fun m => row_below HO.out (below_drewN wr m)
      have HBr : Hid (∀ m, Below w2.heap.size w2 (wr.drewN m)) := fun m => below_dN HB.out m
      clear hy HXk HO HB
      go_wp2_with (first
        | (go_at_call 28; with_reducible refine AnsW.use0 HSk fun n1 => ?_)
        | (go_at_call 30; with_reducible refine Ans.use HV _ fun n2 => ?_)
        | (go_at_call 29; with_reducible refine Ans.use HQk _ fun n3 => ?_)
        | (at_builtin; refine Hid.out ?_))
      unfold Hid
      have hO2 := World.ownsRow.alloc (HRow.out (n1 + n2 + n3)) (.cells #[.int .u64 (y : Int)] 22)
      have hnews := one_new (wr.drewN (n1 + n2 + n3)) (.int .u64 (y : Int)) 22
      have hBa : Below w2.heap.size w2 ((wr.drewN (n1 + n2 + n3)).alloc (.cells #[.int .u64 (y : Int)] 22)) := bb (HBr.out (n1 + n2 + n3)) (below_alloc _ _)
      refine (wpList_append_own _ rfl _ _ 26 rfl w2.heap.size 22 ii _ 1 8 Tryz.underlying26 hii hzi hsi hbi rfl (by omega) _ k _ rfl hO2 ⟨(wr.drewN (n1 + n2 + n3)).heap.size, 0, none⟩ 1 1 [.int .u64 (y : Int)] rfl rfl hnews (by simp [Value.oneCell']) (by unfold maxLen; omega) (by omega) hBa.size ?_)
      intro v' w5 hO3 hG _
      have HO3 : Hid (w5.ownsRow w2.heap.size 22 1 v' (k + 1) (ucells ((List.range (k + 1)).map d))) := by unfold Hid; rw [HXk'.out]; exact hO3
      have HB5 : Hid (Below w2.heap.size w2 w5) := hBa.grown hG hBa.size (fun k hk => (hO2.lt k hk).1)
      clear hO3 hG hO2 hBa hnews hkm HRow HBr
      go_wp2
      go_roundw
      case rel => exact ⟨k + 1, by go_num, by omega, by unfold Hid; exact HO3.out, HB5⟩
      case measure => simp [intOf]; omega
    · obtain rfl : k = n := by omega
      obtain ⟨A1, C5, rfl⟩ : ∃ A1 C5, u12 = .slice A1 k C5 := by
        rcases HO.out.2 with ⟨hv, h0⟩ | ⟨g, cap, cur, hv, _⟩
        · exact ⟨none, 0, by rw [hv, h0]⟩
        · exact ⟨_, _, hv⟩
      have HO4 : Hid (OwnU wr w.heap.size A1 C5 ((List.range k).map d)) := by
        have : OwnU wr w2.heap.size A1 C5 ((List.range k).map d) := by unfold OwnU; simp only [List.length_map, List.length_range]; exact HO.out
        exact this.base HB2.out.size
      have HB6 : Hid (Below w.heap.size w wr) := bb HB2.out HB.out
      clear HO HB
      go_wp2
      go_ret
      exact ⟨A1, C5, rfl, HO4.out, HB6.out⟩
theorem drun_any {W : World} {x : En} (hF : Fld x) {A : Option Addr} {C : Nat} {xs : List Nat} (hU : UAt W A C xs) (h1 : 1 ≤ xs.length) (hn : xs.length ≤ 4096) (hd : (x.p - 1) % xs.length = 0) (i : Bool) : OwnR W 10 #[.int .u64 (x.p : Int), .int .u64 (x.g : Int), .slice A xs.length C, .bool i] (dT x i xs) := by
  obtain ⟨h3, hodd, hlt⟩ := hF.num
  have ho := twR_ord hF h1 hd i
  have hr := twR_lt hF xs.length i
  have HR := dRoot_yes hF xs.length h1 hn hd i
  have HT := dTable_any W (twR x xs.length i) x.p xs.length (by omega) (by omega) (by omega) hn
  have HS : ∀ w B D, Below W.heap.size W w → UAt w B D (pws (twR x xs.length i) x.p xs.length) → ∀ k, k < xs.length → AnsW w 28 #[.int .u64 (x.p : Int), .slice B xs.length D, .slice A xs.length C, .int .i64 (k : Int)] (.int .u64 ((tS (twR x xs.length i) xs.length (atL xs) k % x.p : Nat) : Int)) :=
    fun w B D hw hT k hk => dsum_any (by omega) hlt (hU.below hw) rfl hT ho h1 hn k hk
  have hsm : ∀ y ∈ pws (twR x xs.length i) x.p xs.length, y < 18446744073709551616 := fun y hy => by have := pws_lt (show 0 < x.p by omega) y hy; omega
  cases i
  · exact drun_fwd W _ _ _ A xs.length C (fun k => tS (twR x xs.length false) xs.length (atL xs) k % x.p) (dV x false xs) _ h1 hn (pws_len _ _ _) hsm HR HT HS (fun k => rfl)
  · have hq := Nat.mod_lt (xs.length ^ (x.p - 2)) (show 0 < x.p by omega)
    exact drun_inv W _ _ _ A xs.length C (fun k => tS (twR x xs.length true) xs.length (atL xs) k % x.p) (dV x true xs) _ (invN x xs.length) h1 hn (pws_len _ _ _) hsm HR HT HS
      (rinv_any xs.length x.p (by omega) (by omega) (by omega))
      (fun k _ => rmul_any _ _ _ (by have := Nat.mod_lt (tS (twR x xs.length true) xs.length (atL xs) k) (show 0 < x.p by omega); omega) (by unfold invN; omega) (by omega) (by omega))
end Go.Proofs.YtpjfapibjihbbaaGreatDoor

/-
  What dft.Check and dft.Good, and the document's, answer. No condition but that the field and the list lie there.
-/
import Derived.Test.YtphpllachnhfbaaGreatTw3
import Derived.Test.YtphpllachnhfbaaGreatDt1
import Derived.Test.YtphpllachnhfbaaGreatF29
namespace Go.Proofs.YtphpllachnhfbaaGreat
set_option linter.unusedVariables false
open Go.RowKit

/-- What is wrong with a list of n, of at most so many. -/
def ckD (p : Nat) (n most : Int) : Int := if n < 1 then 1 else if most < n then 13 else if (p - 1) % n.toNat = 0 then 0 else 4
theorem ckD_arg {p : Nat} {n most : Int} (h : n < 1) : ckD p n most = 1 := by unfold ckD; rw [if_pos h]
theorem ckD_long {p : Nat} {n most : Int} (h : 1 ≤ n) (h2 : most < n) : ckD p n most = 13 := by unfold ckD; rw [if_neg (by omega), if_pos h2]
theorem ckD_no {p n : Nat} {most : Int} (h : 1 ≤ n) (h2 : (n : Int) ≤ most) (h3 : (p - 1) % n ≠ 0) : ckD p (n : Int) most = 4 := by
  unfold ckD; rw [if_neg (by omega), if_neg (by omega), Int.toNat_natCast, if_neg h3]
theorem ckD_yes {p n : Nat} {most : Int} (h : 1 ≤ n) (h2 : (n : Int) ≤ most) (h3 : (p - 1) % n = 0) : ckD p (n : Int) most = 0 := by
  unfold ckD; rw [if_neg (by omega), if_neg (by omega), Int.toNat_natCast, if_pos h3]
theorem ckD_ok {p n : Nat} {most : Int} (h : ckD p (n : Int) most = 0) : 1 ≤ n ∧ (n : Int) ≤ most ∧ (p - 1) % n = 0 := by
  by_cases h1 : (n : Int) < 1
  · rw [ckD_arg h1] at h; cases h
  · by_cases h2 : most < (n : Int)
    · rw [ckD_long (by omega) h2] at h; cases h
    · by_cases h3 : (p - 1) % n = 0
      · exact ⟨by omega, by omega, h3⟩
      · rw [ckD_no (by omega) (by omega) h3] at h; cases h
theorem ck_nil (w : World) (z m : Int) : AnsW w 17 #[.pointer none, .int .i64 z, .int .i64 m] (.int .i64 2) := by
  intro n
  go_enter Tryz.func17, Tryz.ntmps17
  go_wp2
  go_ret
  exact ⟨rfl, 0, rfl⟩
theorem ck_arg (w : World) (a : Addr) (z m : Int) (h : z < 1) : AnsW w 17 #[.pointer (some a), .int .i64 z, .int .i64 m] (.int .i64 1) := by
  intro n
  go_enter Tryz.func17, Tryz.ntmps17
  go_wp2
  go_ret
  exact ⟨rfl, 0, rfl⟩
theorem ck_long (w : World) (a : Addr) (z m : Int) (h : 1 ≤ z) (h2 : m < z) : AnsW w 17 #[.pointer (some a), .int .i64 z, .int .i64 m] (.int .i64 13) := by
  intro n
  go_enter Tryz.func17, Tryz.ntmps17
  go_wp2
  go_ret
  exact ⟨rfl, 0, rfl⟩
theorem ck_no (w : World) (a : Addr) (z m : Int) (h : 1 ≤ z) (h2 : z ≤ m) (HD : AnsW w 36 #[.pointer (some a), .int .i64 z] (.bool false)) : AnsW w 17 #[.pointer (some a), .int .i64 z, .int .i64 m] (.int .i64 4) := by
  intro n
  go_enter Tryz.func17, Tryz.ntmps17
  go_wp2_with (go_at_call 36; with_reducible refine AnsW.use HD _ fun n1 => ?_)
  go_ret
  exact ⟨rfl, _, rfl⟩
theorem ck_yes (w : World) (a : Addr) (z m : Int) (h : 1 ≤ z) (h2 : z ≤ m) (HD : AnsW w 36 #[.pointer (some a), .int .i64 z] (.bool true)) : AnsW w 17 #[.pointer (some a), .int .i64 z, .int .i64 m] (.int .i64 0) := by
  intro n
  go_enter Tryz.func17, Tryz.ntmps17
  go_wp2_with (go_at_call 36; with_reducible refine AnsW.use HD _ fun n1 => ?_)
  go_ret
  exact ⟨rfl, _, rfl⟩
theorem dftck_any {w : World} {b : Nat} {x : En} (F : FieldAt w b x) (z m : Int) (hz : z < 9223372036854775808) : AnsW w 17 #[pt b, .int .i64 z, .int .i64 m] (.int .i64 (ckD x.p z m)) := by
  by_cases h1 : z < 1
  · rw [ckD_arg h1]; exact ck_arg w _ z m h1
  · by_cases h2 : m < z
    · rw [ckD_long (by omega) h2]; exact ck_long w _ z m (by omega) h2
    · obtain ⟨n, rfl⟩ := Int.eq_ofNat_of_zero_le (show 0 ≤ z by omega)
      have HD := fDiv_any F (n : Int) hz
      by_cases h3 : (x.p - 1) % n = 0
      · rw [ckD_yes (by omega) (by omega) h3]
        exact ck_yes w _ n m (by omega) (by omega) (HD.to (by rw [dvB_nat (by omega) h3]))
      · rw [ckD_no (by omega) (by omega) h3]
        exact ck_no w _ n m (by omega) (by omega) (HD.to (by unfold dvB; rw [Int.toNat_natCast, decide_eq_false h3, Bool.and_false]))

/-! ### The document's Check -/
theorem dck_arg (p z m : Int) (h : z < 1) : Ans 14 #[.int .u64 p, .int .i64 z, .int .i64 m] (.int .i64 1) := by
  intro w
  go_enter Tryz.func14, Tryz.ntmps14
  go_wp2
  go_ret
  exact ⟨rfl, 0, rfl⟩
theorem dck_long (p z m : Int) (h : 1 ≤ z) (h2 : m < z) : Ans 14 #[.int .u64 p, .int .i64 z, .int .i64 m] (.int .i64 13) := by
  intro w
  go_enter Tryz.func14, Tryz.ntmps14
  go_wp2
  go_ret
  exact ⟨rfl, 0, rfl⟩
theorem dck_no (p z m r : Int) (p0 : 2 ≤ p) (p1 : p < 18446744073709551616) (h : 1 ≤ z) (h2 : z ≤ m) (h3 : z < 9223372036854775808) (hz : (z == 0) = false) (hr : (p - 1) % z = r) (h0 : (r != 0) = true) : Ans 14 #[.int .u64 p, .int .i64 z, .int .i64 m] (.int .i64 4) := by
  intro w
  go_enter Tryz.func14, Tryz.ntmps14
  go_wp2
  go_ret
  exact ⟨rfl, 0, rfl⟩
theorem dck_yes (p z m : Int) (p0 : 2 ≤ p) (p1 : p < 18446744073709551616) (h : 1 ≤ z) (h2 : z ≤ m) (h3 : z < 9223372036854775808) (hz : (z == 0) = false) (hr : (p - 1) % z = 0) : Ans 14 #[.int .u64 p, .int .i64 z, .int .i64 m] (.int .i64 0) := by
  intro w
  go_enter Tryz.func14, Tryz.ntmps14
  go_wp2
  go_ret
  exact ⟨rfl, 0, rfl⟩
theorem dcheck_any (p : Nat) (h2 : 2 ≤ p) (hp : p < 18446744073709551616) (z m : Int) (hz : z < 9223372036854775808) : Ans 14 #[.int .u64 (p : Int), .int .i64 z, .int .i64 m] (.int .i64 (ckD p z m)) := by
  by_cases h1 : z < 1
  · rw [ckD_arg h1]; exact dck_arg p z m h1
  · by_cases h2' : m < z
    · rw [ckD_long (by omega) h2']; exact dck_long p z m (by omega) h2'
    · obtain ⟨n, rfl⟩ := Int.eq_ofNat_of_zero_le (show 0 ≤ z by omega)
      have e : (p : Int) - 1 = ((p - 1 : Nat) : Int) := by omega
      have hz0 : ((n : Int) == 0) = false := by simp; omega
      by_cases h3 : (p - 1) % n = 0
      · rw [ckD_yes (by omega) (by omega) h3]
        exact dck_yes p n m (by omega) (by omega) (by omega) (by omega) hz hz0 (by rw [e]; exact_mod_cast h3)
      · rw [ckD_no (by omega) (by omega) h3]
        exact dck_no p n m (((p - 1) % n : Nat) : Int) (by omega) (by omega) (by omega) (by omega) hz hz0 (by rw [e]; rfl) (by simp; omega)

/-! ### Good -/
/-- Whether all are residues. -/
def goodB (p : Nat) (xs : List Nat) : Bool := xs.all fun x => decide (x < p)
theorem goodB_iff {p : Nat} {xs : List Nat} : goodB p xs = true ↔ ∀ y ∈ xs, y < p := by unfold goodB; simp
theorem good_nil (W : World) (v : Value) : AnsW W 18 #[.pointer none, v] (.bool false) := by
  intro n
  go_enter Tryz.func18, Tryz.ntmps18
  go_wp2
  go_ret
  exact ⟨rfl, 0, rfl⟩
set_option maxHeartbeats 1000000 in
theorem good_walk (W : World) (fb p : Nat) (A : Option Addr) (C : Nat) (xs : List Nat) (hU : UAt W A C xs) (HG : ∀ c : Nat, AnsW W 37 #[pt fb, .int .u64 (c : Int)] (.bool (decide (c < p)))) : AnsW W 18 #[pt fb, .slice A xs.length C] (.bool (goodB p xs)) := by
  intro j0
  have HR : Hid (goodB p xs = true ↔ ∀ y ∈ xs, y < p) := goodB_iff
  obtain ⟨R, hR⟩ : ∃ R, goodB p xs = R := ⟨_, rfl⟩
  have hlen := hU.len
  obtain ⟨n, en⟩ : ∃ n, xs.length = n := ⟨_, rfl⟩
  have HEN : Hid (xs.length = n) := en
  have HU : Hid (UAt W A C xs) := hU
  have HG' : Hid (∀ c : Nat, AnsW W 37 #[pt fb, .int .u64 (c : Int)] (.bool (decide (c < p)))) := HG
  rw [hR] at HR ⊢
  rw [en] at hlen ⊢
  clear hR en hU HG
  go_enter Tryz.func18, Tryz.ntmps18
  go_wp2
  go_loopw [11] (fun v wr => ∃ k j : Nat, v = .int .i64 (k : Int) ∧ k ≤ n ∧ Hid (∀ i y, i < k → xs[i]? = some y → y < p) ∧ wr = W.drewN (j0 + j)) (fun v _ => n - (intOf v).toNat)
  case atStart => exact ⟨0, 0, rfl, by omega, fun i y hi => absurd hi (by omega), rfl⟩
  case round =>
    obtain ⟨k, j, rfl, hk, HI, rfl⟩ := hrel
    by_cases hlt : k < n
    · obtain ⟨x, hx⟩ : ∃ x, xs[k]? = some x := ⟨_, List.getElem?_eq_getElem (by rw [HEN.out]; exact hlt)⟩
      obtain ⟨b, o, rfl, hb, c0, _⟩ := HU.out.get k x hx
      have HGk := HG'.out x
      by_cases he : x < p
      · rw [decide_eq_true he] at HGk
        have HI' : Hid (∀ i y, i < k + 1 → xs[i]? = some y → y < p) := by
          unfold Hid
          intro i y hi hy
          by_cases e : i = k
          · rw [e, hx] at hy; cases hy; exact he
          · exact HI.out i y (by omega) hy
        clear hx HI he hb
        go_wp2_with (go_at_call 37; with_reducible refine AnsW.use HGk _ fun n1 => ?_)
        go_roundw
        case rel => exact ⟨k + 1, j + n1, by go_num, by omega, HI', by rw [Nat.add_assoc]⟩
        case measure => simp [intOf]; omega
      · rw [decide_eq_false he] at HGk
        have HF : Hid (R = false) := by
          unfold Hid
          rw [Bool.eq_false_iff]
          intro h
          exact he (HR.out.1 h x (List.mem_of_getElem? hx))
        clear hx HI he hb
        go_wp2_with (go_at_call 37; with_reducible refine AnsW.use HGk _ fun n1 => ?_)
        go_ret
        exact ⟨ret_b HF.out.symm, j + n1, by rw [Nat.add_assoc]⟩
    · obtain rfl : k = n := by omega
      have HF : Hid (R = true) := HR.out.2 fun y hy => by
        obtain ⟨i, hi, rfl⟩ := List.getElem_of_mem hy
        exact HI.out i _ (by rw [← HEN.out]; exact hi) (List.getElem?_eq_getElem hi)
      clear HI
      go_wp2
      go_ret
      exact ⟨ret_b HF.out.symm, j, rfl⟩
theorem dftgood_any {W : World} {b : Nat} {x : En} (F : FieldAt W b x) {A : Option Addr} {C : Nat} {xs : List Nat} (hU : UAt W A C xs) : AnsW W 18 #[pt b, .slice A xs.length C] (.bool (goodB x.p xs)) :=
  good_walk W b x.p A C xs hU fun c => (fGood_any F c).to (by congr 2; simp)
set_option maxHeartbeats 1000000 in
theorem dgood_any (W : World) (p : Nat) (A : Option Addr) (C : Nat) (xs : List Nat) (hU : UAt W A C xs) : AnsW W 15 #[.int .u64 (p : Int), .slice A xs.length C] (.bool (goodB p xs)) := by
  intro j0
  have HR : Hid (goodB p xs = true ↔ ∀ y ∈ xs, y < p) := goodB_iff
  obtain ⟨R, hR⟩ : ∃ R, goodB p xs = R := ⟨_, rfl⟩
  have hlen := hU.len
  obtain ⟨n, en⟩ : ∃ n, xs.length = n := ⟨_, rfl⟩
  have HEN : Hid (xs.length = n) := en
  have HU : Hid (UAt W A C xs) := hU
  rw [hR] at HR ⊢
  rw [en] at hlen ⊢
  clear hR en hU
  go_enter Tryz.func15, Tryz.ntmps15
  go_wp2
  go_loopw [9] (fun v wr => ∃ k : Nat, v = .int .i64 (k : Int) ∧ k ≤ n ∧ Hid (∀ i y, i < k → xs[i]? = some y → y < p) ∧ wr = W.drewN j0) (fun v _ => n - (intOf v).toNat)
  case atStart => exact ⟨0, rfl, by omega, fun i y hi => absurd hi (by omega), rfl⟩
  case round =>
    obtain ⟨k, rfl, hk, HI, rfl⟩ := hrel
    by_cases hlt : k < n
    · obtain ⟨x, hx⟩ : ∃ x, xs[k]? = some x := ⟨_, List.getElem?_eq_getElem (by rw [HEN.out]; exact hlt)⟩
      obtain ⟨b, o, rfl, hb, c0, _⟩ := HU.out.get k x hx
      by_cases he : x < p
      · have HI' : Hid (∀ i y, i < k + 1 → xs[i]? = some y → y < p) := by
          unfold Hid
          intro i y hi hy
          by_cases e : i = k
          · rw [e, hx] at hy; cases hy; exact he
          · exact HI.out i y (by omega) hy
        have t1 : ¬ (p : Int) ≤ (x : Int) := by omega
        have t2 : (x : Int) < (p : Int) := by omega
        clear hx HI he hb
        go_wp2
        go_roundw
        case rel => exact ⟨k + 1, by go_num, by omega, HI', by first | rfl | trivial⟩
        case measure => simp [intOf]; omega
      · have HF : Hid (R = false) := by
          unfold Hid
          rw [Bool.eq_false_iff]
          intro h
          exact he (HR.out.1 h x (List.mem_of_getElem? hx))
        have t1 : (p : Int) ≤ (x : Int) := by omega
        clear hx HI he hb
        go_wp2
        go_ret
        exact ⟨ret_b HF.out.symm, 0, rfl⟩
    · obtain rfl : k = n := by omega
      have HF : Hid (R = true) := HR.out.2 fun y hy => by
        obtain ⟨i, hi, rfl⟩ := List.getElem_of_mem hy
        exact HI.out i _ (by rw [← HEN.out]; exact hi) (List.getElem?_eq_getElem hi)
      clear HI
      go_wp2
      go_ret
      exact ⟨ret_b HF.out.symm, 0, rfl⟩
end Go.Proofs.YtphpllachnhfbaaGreat

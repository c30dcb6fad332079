/-
  The walk of SievePrimes: of all numbers.
-/
import Derived.Test.YtafmmkhegkceiaaSv14
namespace Go.Proofs.Ytafmmkhegkceiaa
set_option linter.unusedVariables false
open Go.RowKit

theorem mem_prmsTo {z : Int} {x : Nat} : x ∈ prmsTo z ↔ (x : Int) ≤ z ∧ x ≤ 65536 ∧ Prm x := by
  unfold prmsTo
  by_cases h : z < 2
  · rw [if_pos h]
    constructor
    · intro h; simp at h
    · rintro ⟨h1, _, h2⟩; have := h2.1; omega
  · rw [if_neg h, mem_prms]
    constructor
    · rintro ⟨h1, h2⟩; exact ⟨by omega, by omega, h2⟩
    · rintro ⟨h1, h2, h3⟩; exact ⟨by omega, h3⟩
theorem prmsTo_sorted (z : Int) : (prmsTo z).Pairwise (· < ·) := by
  unfold prmsTo
  split
  · exact List.Pairwise.nil
  · exact prms_sorted _
theorem prmsTo_step {z : Int} {k x y : Nat} (h1 : (prmsTo z)[k]? = some x) (h2 : (prmsTo z)[k + 1]? = some y) : x < y := by
  obtain ⟨a, rfl⟩ := List.getElem?_eq_some_iff.1 h1
  obtain ⟨b, rfl⟩ := List.getElem?_eq_some_iff.1 h2
  exact List.pairwise_iff_getElem.1 (prmsTo_sorted z) k (k + 1) a b (by omega)
/-- Met among the first k. -/
def Met (l : List Nat) (n : Int) (k : Nat) (b : Bool) : Prop := b = true ↔ ∃ (i x : Nat), i < k ∧ l[i]? = some x ∧ (x : Int) = n
theorem Met.start (l : List Nat) (n : Int) : Met l n 0 false := ⟨fun h => (by cases h), fun ⟨i, x, h, _⟩ => (by omega)⟩
theorem Met.hit {l : List Nat} {n : Int} {k x : Nat} {b : Bool} (h : Met l n k b) (hx : l[k]? = some x) (e : (x : Int) = n) : Met l n (k + 1) true := ⟨fun _ => ⟨k, x, by omega, hx, e⟩, fun _ => rfl⟩
theorem Met.on {l : List Nat} {n : Int} {k : Nat} (h : Met l n k true) : Met l n (k + 1) true := ⟨fun _ => by
  obtain ⟨i, x, a, b, c⟩ := h.1 rfl
  exact ⟨i, x, by omega, b, c⟩, fun _ => rfl⟩
theorem Met.miss {l : List Nat} {n : Int} {k x : Nat} (h : Met l n k false) (hx : l[k]? = some x) (e : ¬ (x : Int) = n) : Met l n (k + 1) false := ⟨fun h => (by cases h), fun ⟨i, y, a, b, c⟩ => by
  by_cases hi : i < k
  · exact h.2 ⟨i, y, hi, b, c⟩
  · obtain rfl : i = k := by omega
    rw [hx] at b; cases b; exact absurd c e⟩
theorem Met.mem {l : List Nat} {n : Int} {k : Nat} {b : Bool} (h : Met l n k b) (hk : l.length ≤ k) : b = true ↔ ∃ x ∈ l, (x : Int) = n := by
  refine Iff.trans h ⟨?_, ?_⟩
  · rintro ⟨i, x, _, a, c⟩; exact ⟨x, List.mem_of_getElem? a, c⟩
  · rintro ⟨x, hx, c⟩
    obtain ⟨i, hi, rfl⟩ := List.getElem_of_mem hx
    exact ⟨i, _, by omega, List.getElem?_eq_getElem hi, c⟩
set_option maxRecDepth 100000 in
set_option maxHeartbeats 4000000 in
theorem primes_law (z n : Int) (hz : z ≤ 9223372036854775807) (hz0 : -9223372036854775808 ≤ z) (hn : n ≤ 9223372036854775807) (hn0 : -9223372036854775808 ≤ n) : AnsM 3 #[.int .i64 z, .int .i64 n] (.bool true) := by
  intro w
  have HA := alive_any
  have HP := primes_any z hz
  obtain ⟨l, hl⟩ : ∃ l, prmsTo z = l := ⟨_, rfl⟩
  have HLd : Hid (prmsTo z = l) := hl
  rw [hl] at HP
  clear hl
  obtain ⟨L, hL⟩ : ∃ L, l.length = L := ⟨_, rfl⟩
  have HL : Hid (l.length = L) := hL
  clear hL
  go_enter Try.func3, Try.ntmps3
  go_wp2_with (first
    | (go_at_call 8; with_reducible refine AnsM.use HA fun w1 hB1 => ?_)
    | (go_at_call 9; with_reducible refine IntsAns.use HP fun A C w2 hI hB2 => ?_; rw [HL.out]))
  have hB12 : Below w.heap.size w w2 := bb hB1 hB2
  have hLm : (L : Int) ≤ 9223372036854775807 := by have := hI.cap; have := hI.max; rw [HL.out] at *; unfold maxLen at this; omega
  have HI : Hid (IntsAt w2 A C l) := hI
  clear hB1 hB2 hI HP HA
  go_loopw [6, 15] (fun b v wr => ∃ (k : Nat) (t : Bool), v = .int .i64 (k : Int) ∧ b = .bool t ∧ k ≤ L ∧ Hid (Met l n k t) ∧ wr = w2) (fun _ v _ => L - (intOf v).toNat)
  case atStart => exact ⟨0, false, rfl, rfl, by omega, Met.start l n, rfl⟩
  case round =>
    obtain ⟨k, t, rfl, rfl, hk, HM, rfl⟩ := hrel
    by_cases hlt : k < L
    · obtain ⟨x, hx⟩ : ∃ x, l[k]? = some x := ⟨_, List.getElem?_eq_getElem (by rw [HL.out]; exact hlt)⟩
      obtain ⟨b, o, hA, hbl, c0⟩ := HI.out.get k x hx
      subst hA
      have HX : Hid (l[k]? = some x) := hx
      obtain ⟨t', ht', HM'⟩ : ∃ t' : Bool, (t = true ∨ t = false ∧ ((x : Int) == n) = t') ∧ (t = true → t' = true) ∧ Met l n (k + 1) t' := by
        cases t with
        | true => exact ⟨true, Or.inl rfl, fun _ => rfl, HM.out.on⟩
        | false =>
          by_cases e : (x : Int) = n
          · exact ⟨true, Or.inr ⟨rfl, by rw [beq_iff_eq]; exact e⟩, fun h => (by cases h), HM.out.hit hx e⟩
          · exact ⟨false, Or.inr ⟨rfl, by rw [beq_eq_false_iff_ne]; exact e⟩, fun h => (by cases h), HM.out.miss hx e⟩
      have HM2 : Hid ((t = true → t' = true) ∧ Met l n (k + 1) t') := HM'
      have HT : Hid (t = true ∨ t = false ∧ ((x : Int) == n) = t') := ht'
      clear hx ht' HM' HM
      by_cases hk0 : k = 0
      · subst hk0
        have c0' : wr.cell? ⟨b, o, none⟩ = some (.int .i64 (x : Int)) := c0
        clear c0
        cases t with
        | true =>
          obtain rfl : t' = true := HM2.out.1 rfl
          go_wp2
          go_roundw
          case rel => exact ⟨1, true, rfl, rfl, by omega, HM2.out.2, by first | rfl | trivial⟩
          case measure => simp [intOf]; omega
        | false =>
          have hxn : ((x : Int) == n) = t' := by rcases HT.out with h | h; cases h; exact h.2
          go_wp2
          go_roundw
          case rel => exact ⟨1, t', rfl, by first | rfl | (rw [hxn]), by omega, HM2.out.2, by first | rfl | trivial⟩
          case measure => simp [intOf]; omega
      · obtain ⟨j, rfl⟩ : ∃ j, k = j + 1 := ⟨k - 1, by omega⟩
        obtain ⟨y, hy⟩ : ∃ y, l[j]? = some y := ⟨_, List.getElem?_eq_getElem (by rw [HL.out]; omega)⟩
        obtain ⟨b', o', hA', hbl', c1⟩ := HI.out.get j y hy
        cases hA'
        have hyx : y < x := prmsTo_step (z := z) (by rw [HLd.out]; exact hy) (by rw [HLd.out]; exact HX.out)
        obtain ⟨k, hk'⟩ : ∃ k, j + 1 = k := ⟨_, rfl⟩
        have HK : Hid (j + 1 = k) := hk'
        rw [hk'] at c0 hlt hk ⊢
        have hjk : (k : Int) - 1 = (j : Int) := by omega
        have hkpos : 0 < k := by omega
        have hjL : j < L := by omega
        clear hy hk' hk0
        cases t with
        | true =>
          obtain rfl : t' = true := HM2.out.1 rfl
          go_wp2
          go_roundw
          case rel => exact ⟨k + 1, true, by go_num, rfl, by omega, (by rw [← HK.out]; exact HM2.out.2), by first | rfl | trivial⟩
          case measure => simp [intOf]; omega
        | false =>
          have hxn : ((x : Int) == n) = t' := by rcases HT.out with h | h; cases h; exact h.2
          go_wp2
          go_roundw
          case rel => exact ⟨k + 1, t', by go_num, by first | rfl | (rw [hxn]), by omega, (by rw [← HK.out]; exact HM2.out.2), by first | rfl | trivial⟩
          case measure => simp [intOf]; omega
    · obtain rfl : k = L := by omega
      have hiff : t = true ↔ ((2 ≤ n ∧ n ≤ z) ∧ n ≤ 65536) ∧ Prm n.toNat := by
        rw [HM.out.mem (by rw [HL.out]; exact Nat.le_refl _), ← HLd.out]
        constructor
        · rintro ⟨x, hx, rfl⟩
          obtain ⟨a, b, c⟩ := mem_prmsTo.1 hx
          have := c.1
          exact ⟨⟨⟨by omega, a⟩, by omega⟩, by simpa using c⟩
        · rintro ⟨⟨⟨a, b⟩, c⟩, d⟩
          exact ⟨n.toNat, mem_prmsTo.2 ⟨by omega, by omega, d⟩, by omega⟩
      have HF : Hid (t = true ↔ ((2 ≤ n ∧ n ≤ z) ∧ n ≤ 65536) ∧ Prm n.toNat) := hiff
      clear hiff HM HI
      by_cases h1 : 2 ≤ n
      · by_cases h2 : n ≤ z
        · by_cases h3 : n ≤ 65536
          · obtain ⟨m, rfl⟩ := Int.eq_ofNat_of_zero_le (show 0 ≤ n by omega)
            have HR := rprime_any m (by omega)
            have ht : prm32 m = t := by
              rw [Bool.eq_iff_iff, HF.out]
              unfold prm32
              rw [Bool.and_eq_true, prmB_iff, decide_eq_true_iff]
              constructor
              · rintro ⟨a, _⟩; exact ⟨⟨⟨h1, h2⟩, h3⟩, by simpa using a⟩
              · rintro ⟨_, a⟩; exact ⟨by simpa using a, by omega⟩
            rw [ht] at HR
            have e1 : IntKind.u64.wrap (m : Int) = (m : Int) := by rw [IntKind.wrap_u64]; omega
            clear ht HF
            go_wp2_with (go_at_call 10; with_reducible refine Ans.use HR _ fun n1 => ?_)
            go_ret
            exact ⟨rbool (by simp), bb hB12 (below_drewN _ _)⟩
          · obtain rfl : t = false := by
              cases t with
              | false => rfl
              | true => exact absurd (HF.out.1 rfl).1.2 h3
            go_wp2
            go_ret
            exact ⟨rfl, hB12⟩
        · obtain rfl : t = false := by
            cases t with
            | false => rfl
            | true => exact absurd (HF.out.1 rfl).1.1.2 h2
          go_wp2
          go_ret
          exact ⟨rfl, hB12⟩
      · obtain rfl : t = false := by
          cases t with
          | false => rfl
          | true => exact absurd (HF.out.1 rfl).1.1.1 h1
        go_wp2
        go_ret
        exact ⟨rfl, hB12⟩
/-- SievePrimes, of all numbers. -/
theorem primes_holds (z n : Int) (hz : -9223372036854775808 ≤ z ∧ z ≤ 9223372036854775807) (hn : -9223372036854775808 ≤ n ∧ n ≤ 9223372036854775807) : AnsM 3 #[.int .i64 z, .int .i64 n] (.bool true) := primes_law z n hz.2 hz.1 hn.2 hn.1
end Go.Proofs.Ytafmmkhegkceiaa

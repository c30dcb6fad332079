/-
  Contracts of what looks through a row: slices.IndexFunc and ContainsFunc at entries, with the literal of known; known.
-/
import Derived.Test.YtafmmkhegkceiaaPf1
namespace Go.Proofs.Ytafmmkhegkceiaa
set_option linter.unusedVariables false
open Go.RowKit

def idxV (r : Option Nat) : Value := match r with
  | none => .int .i64 (-1)
  | some k => .int .i64 (k : Int)
theorem found {α : Type} {l : List α} {t : α → Bool} {k : Nat} {x : α} (hx : l[k]? = some x) (ht : t x = true) (hb : ∀ j y, j < k → l[j]? = some y → t y = false) : l.findIdx? t = some k := by
  obtain ⟨hk, rfl⟩ := List.getElem?_eq_some_iff.1 hx
  refine List.findIdx?_eq_some_iff_getElem.2 ⟨hk, ht, fun j hj => ?_⟩
  rw [hb j _ hj (List.getElem?_eq_getElem (by omega))]; simp
theorem found_none {α : Type} {l : List α} {t : α → Bool} (hb : ∀ j y, j < l.length → l[j]? = some y → t y = false) : l.findIdx? t = none := by
  refine List.findIdx?_eq_none_iff.2 fun x hx => ?_
  obtain ⟨j, hj, rfl⟩ := List.getElem_of_mem hx
  exact hb j _ hj (List.getElem?_eq_getElem hj)

/-! ### known's literal -/
theorem known_lit (W : World) (p g q : Int) (s : Value) (b : Nat) (hc : W.cell? ⟨b, 0, none⟩ = some (.int .u64 q)) (hb : b < W.heap.size) (hs : ∃ A n C, s = .slice A n C) :
    AnsB W 75 #[.agg #[.int .u64 p, .int .u64 g, s], .pointer (some ⟨b, 0, none⟩)] (.bool (p == q)) := by
  obtain ⟨A, n, C, rfl⟩ := hs
  intro w hw
  obtain ⟨k1, k2⟩ := bcell hw
  have k := k1 b 0 hb
  rw [hc] at k
  clear k1 k2
  have hne : w.heap.size ≠ b := by have := hw.size; omega
  have hbw : b < w.heap.size := by have := hw.size; omega
  go_enter Try.func75, Try.ntmps75
  go_wp2
  go_ret
  exact ⟨rfl, below_alloc _ _⟩

set_option maxHeartbeats 1000000 in
/-- IndexFunc at entries, with proof.known$1. -/
theorem indexE_known (W : World) (A : Option Addr) (C : Nat) (es : List En) (hE : EntsAt W A C es) (q : Nat) (bq : Nat) (hc : W.cell? ⟨bq, 0, none⟩ = some (.int .u64 (q : Int))) (hbq : bq < W.heap.size) :
    AnsB W 32 #[.slice A es.length C, .func (.func 75) #[] #[.pointer (some ⟨bq, 0, none⟩)]] (idxV (es.findIdx? fun x => x.p == q)) := by
  intro w hw
  have hlen : (es.length : Int) ≤ 9223372036854775807 := by have := hE.cap; have := hE.max; unfold maxLen at this; omega
  obtain ⟨L, hL⟩ : ∃ L, es.length = L := ⟨_, rfl⟩
  rw [hL] at hlen
  have HL : Hid (es.length = L) := hL
  rw [hL]
  clear hL
  go_enter Try.func32, Try.ntmps32
  go_wp2
  go_loopw [8] (fun v wr => ∃ k : Nat, v = .int .i64 k ∧ k ≤ L ∧ Hid (∀ j y, j < k → es[j]? = some y → (y.p == q) = false) ∧ Below w.heap.size w wr) (fun v _ => L - (intOf v).toNat)
  case atStart => exact ⟨0, rfl, by omega, fun j y hj => absurd hj (by omega), Below.refl _ _⟩
  case round =>
    obtain ⟨k, rfl, hk, HI, hB⟩ := hrel
    by_cases hlt : k < L
    · have hlt' : k < es.length := by rw [HL.out]; exact hlt
      obtain ⟨x, hx⟩ : ∃ x, es[k]? = some x := ⟨_, List.getElem?_eq_getElem hlt'⟩
      obtain ⟨b, o, A', C', rfl, hb, c0, c1, c2, hP, hp, hg⟩ := hE.get k x hx
      obtain ⟨f1, f2⟩ := bcell (hw.trans (hB.mono hw.size))
      have c0' := (f1 b (o + k * 3) hb).trans c0
      have c1' := (f1 b (o + k * 3 + 1) hb).trans c1
      have c2' := (f1 b (o + k * 3 + 2) hb).trans c2
      have HX : Hid (es[k]? = some x) := hx
      have HC := known_lit W x.p x.g q (.slice A' x.fs.length C') bq hc hbq ⟨_, _, _, rfl⟩
      have hBW := hw.trans (hB.mono hw.size)
      obtain ⟨p, hp'⟩ : ∃ p : Int, (x.p : Int) = p := ⟨_, rfl⟩
      obtain ⟨g, hg'⟩ : ∃ g : Int, (x.g : Int) = g := ⟨_, rfl⟩
      obtain ⟨fl, hfl⟩ : ∃ fl : Nat, x.fs.length = fl := ⟨_, rfl⟩
      rw [hp'] at c0' HC
      rw [hg'] at c1' HC
      rw [hfl] at c2' HC
      by_cases ht : x.p = q
      · have hpq : (p == (q : Int)) = true := by rw [← hp', ht]; simp
        rw [hpq] at HC
        have HE : Hid (idxV (es.findIdx? fun x => x.p == q) = .int .i64 (k : Int)) := by
          unfold Hid; rw [found (t := fun x : En => x.p == q) hx (by simp [ht]) HI.out]; rfl
        clear c0 c1 c2 f1 f2 hp' hg' hfl hx HI ht hP hpq
        go_wp2_with (go_at_call 75; with_reducible refine AnsB.use HC hBW fun w2 hb2 => ?_)
        go_ret
        exact ⟨congrArg Ending.returned HE.out.symm, hB.trans (hb2.mono hB.size)⟩
      · have hpq : (p == (q : Int)) = false := by rw [← hp']; simp; omega
        rw [hpq] at HC
        have HS : Hid (∀ j y, j < k + 1 → es[j]? = some y → (y.p == q) = false) := by
          intro j y hj hy
          by_cases h : j < k
          · exact HI.out j y h hy
          · obtain rfl : j = k := by omega
            rw [hx] at hy; cases hy; simp [ht]
        clear c0 c1 c2 f1 f2 hp' hg' hfl hx HI ht hP hpq
        go_wp2_with (go_at_call 75; with_reducible refine AnsB.use HC hBW fun w2 hb2 => ?_)
        go_roundw
        case rel => exact ⟨k + 1, by go_num, by omega, HS, hB.trans (hb2.mono hB.size)⟩
        case measure => simp [intOf]; omega
    · obtain rfl : k = L := by omega
      have HE : Hid (idxV (es.findIdx? fun x => x.p == q) = .int .i64 (-1)) := by
        unfold Hid; rw [found_none (t := fun x : En => x.p == q) (by rw [HL.out]; exact HI.out)]; rfl
      clear HI
      go_wp2
      go_ret
      exact ⟨congrArg Ending.returned HE.out.symm, hB⟩

theorem containsE_walk (W : World) (s f : Value) (r : Option Nat) (HI : AnsB W 32 #[s, f] (idxV r)) :
    AnsB W 74 #[s, f] (.bool r.isSome) := by
  intro w hw
  cases r with
  | none =>
    have HI' : AnsB W 32 #[s, f] (.int .i64 (-1)) := HI
    go_enter Try.func74, Try.ntmps74
    go_wp2_with (go_at_call 32; with_reducible refine AnsB.use HI' hw fun w2 hb2 => ?_)
    go_ret
    exact ⟨rfl, hb2⟩
  | some k =>
    have HI' : AnsB W 32 #[s, f] (.int .i64 (k : Int)) := HI
    have hk : decide ((0 : Int) ≤ (k : Int)) = true := by simp
    go_enter Try.func74, Try.ntmps74
    go_wp2_with (go_at_call 32; with_reducible refine AnsB.use HI' hw fun w2 hb2 => ?_)
    go_ret
    exact ⟨by simp, hb2⟩

/-! ### known -/
/-- What may be a factor at a place. -/
def knownB (es : List En) (i q : Nat) : Bool := if i = 0 then q == 2 else es.any fun x => x.p == q
theorem known_walk0 (W : World) (s : Value) (hs : ∃ A n C, s = .slice A n C) (q : Int) : AnsB W 54 #[s, .int .i64 0, .int .u64 q] (.bool (q == 2)) := by
  obtain ⟨A, n, C, rfl⟩ := hs
  intro w hw
  go_enter Try.func54, Try.ntmps54
  go_wp2
  go_ret
  exact ⟨rfl, below_alloc _ _⟩
theorem known_walk1 (W : World) (s : Value) (hs : ∃ A n C, s = .slice A n C) (i q : Int) (h : (i == 0) = false) (r : Bool)
    (HC : ∀ w b, Below W.heap.size W w → b < w.heap.size → w.cell? ⟨b, 0, none⟩ = some (.int .u64 q) → AnsB w 74 #[s, .func (.func 75) #[] #[.pointer (some ⟨b, 0, none⟩)]] (.bool r)) :
    AnsB W 54 #[s, .int .i64 i, .int .u64 q] (.bool r) := by
  obtain ⟨A, n, C, rfl⟩ := hs
  intro w hw
  have hbw : Below W.heap.size W (w.alloc (.cells #[.int .u64 q] 26)) := hw.alloc hw.size _
  have HC' := HC (w.alloc (.cells #[.int .u64 q] 26)) w.heap.size hbw (by simp) (cell_new _ _ _)
  go_enter Try.func54, Try.ntmps54
  go_wp2_with (go_at_call 74; with_reducible refine AnsB.use HC' (Below.refl _ _) fun w2 hb2 => ?_)
  go_ret
  exact ⟨rfl, (below_alloc _ _).trans (hb2.mono (by simp))⟩
theorem known_any (W : World) (A : Option Addr) (C : Nat) (es : List En) (hE : EntsAt W A C es) (i q : Nat) :
    AnsB W 54 #[.slice A es.length C, .int .i64 (i : Int), .int .u64 (q : Int)] (.bool (knownB es i q)) := by
  by_cases h : i = 0
  · subst h
    have := known_walk0 W (.slice A es.length C) ⟨_, _, _, rfl⟩ (q : Int)
    refine AnsB.to this ?_
    unfold knownB; rw [if_pos rfl]
    congr 1
    rw [Bool.eq_iff_iff]; simp; omega
  · unfold knownB; rw [if_neg h]
    refine known_walk1 W _ ⟨_, _, _, rfl⟩ (i : Int) (q : Int) (by simp; omega) _ fun w b hw hb hc => ?_
    have := containsE_walk w _ _ _ (indexE_known w A C es (hE.below hw) q b hc hb)
    refine AnsB.to this ?_
    rw [List.findIdx?_isSome]
end Go.Proofs.Ytafmmkhegkceiaa

/-
  Contracts of proof's small functions.
-/
import Derived.Test.YtpjfapibjihbbaaGreatDoorF1
namespace Go.Proofs.YtpjfapibjihbbaaGreatDoor
set_option linter.unusedVariables false
open Go.RowKit

theorem climbs0 (w : World) (A : Option Addr) (C : Nat) (p : Int) : AnsB w 76 #[.slice A 0 C, .int .u64 p] (.bool true) := by
  intro w1 hw
  go_enter Tryz.func76, Tryz.ntmps76
  go_wp2
  go_ret
  exact ⟨rfl, Below.refl _ _⟩
theorem climbs1 (w : World) (b o L n C : Nat) (p q : Int) (h0 : ((L : Int) == 0) = false) (hn : (L : Int) - 1 = n) (hl : (n : Int) < L) (hm : (L : Int) ≤ 9223372036854775807) (hc : w.cell? ⟨b, o + n * 3, none⟩ = some (.int .u64 q)) (hb : b < w.heap.size) : AnsB w 76 #[.slice (some ⟨b, o, none⟩) L C, .int .u64 p] (.bool (decide (q < p))) := by
  intro w1 hw
  obtain ⟨k1, k2⟩ := bcell hw
  have k := k1 b (o + n * 3) hb
  rw [hc] at k
  clear k1 k2
  go_enter Tryz.func76, Tryz.ntmps76
  go_wp2
  go_ret
  exact ⟨rfl, Below.refl _ _⟩

/-! ### without -/
theorem without_walk0 (W : World) (n q e : Int) (h : e < 1) : AnsB W 94 #[.int .u64 n, .agg #[.int .u64 q, .int .i64 e]] (.tuple #[.int .u64 0, .bool false]) := by
  intro w hw
  go_enter Tryz.func94, Tryz.ntmps94
  go_wp2
  go_ret2
  exact ⟨rfl, below_alloc _ _⟩
theorem without_walk1 (W : World) (n q e : Int) (h1 : 1 ≤ e) (h : 62 < e) : AnsB W 94 #[.int .u64 n, .agg #[.int .u64 q, .int .i64 e]] (.tuple #[.int .u64 0, .bool false]) := by
  intro w hw
  go_enter Tryz.func94, Tryz.ntmps94
  go_wp2
  go_ret2
  exact ⟨rfl, below_alloc _ _⟩
def woV (r : Option Nat) : Value := match r with
  | none => .tuple #[.int .u64 0, .bool false]
  | some r => .tuple #[.int .u64 (r : Int), .bool true]
set_option maxHeartbeats 1000000 in
theorem without_walk2 (W : World) (n q : Nat) (e : Int) (hn : n < 18446744073709551616) (hq0 : 0 < q) (hq : q < 18446744073709551616) (h1 : 1 ≤ e) (h2 : e ≤ 62) : AnsB W 94 #[.int .u64 n, .agg #[.int .u64 q, .int .i64 e]] (woV (without n q e)) := by
  intro w hw
  have hq1 : ((q : Int) == 0) = false := by simp; omega
  go_enter Tryz.func94, Tryz.ntmps94
  go_wp2
  go_loop [0, 16] (fun s k => ∃ m i : Nat, s = .int .u64 m ∧ k = .int .i64 i ∧ (i : Int) ≤ e ∧ m < 18446744073709551616 ∧ Hid (m * q ^ i = n)) (fun _ k => e.toNat - (intOf k).toNat)
  case atStart => exact ⟨n, 0, rfl, rfl, by omega, hn, by unfold Hid; rw [Nat.pow_zero, Nat.mul_one]⟩
  case round =>
    obtain ⟨m, i, rfl, rfl, hi, hm, HI⟩ := hrel
    by_cases hlt : (i : Int) < e
    · obtain ⟨r, hr⟩ : ∃ r, m % q = r := ⟨_, rfl⟩
      have hr' : (m : Int) % (q : Int) = (r : Int) := by rw [← hr]; simp
      by_cases h0 : r = 0
      · subst h0
        obtain ⟨d, hd⟩ : ∃ d, m / q = d := ⟨_, rfl⟩
        have hd' : (m : Int) / (q : Int) = (d : Int) := by rw [← hd]; simp
        have hdm : d ≤ m := hd ▸ Nat.div_le_self _ _
        have HS : Hid (d * q ^ (i + 1) = n) := by
          unfold Hid
          rw [Nat.pow_succ, Nat.mul_comm (q ^ i), ← Nat.mul_assoc, ← HI.out]
          congr 1
          rw [← hd]; exact Nat.div_mul_cancel (Nat.dvd_of_mod_eq_zero hr)
        clear hr hd HI
        go_wp2
        go_round
        case rel => exact ⟨d, i + 1, rfl, by go_num, by omega, by omega, HS⟩
        case measure => simp [intOf]; omega
      · have hr0 : ((r : Int) == 0) = false := by simp; omega
        have HE : Hid (woV (without n q e) = .tuple #[.int .u64 0, .bool false]) := by
          unfold Hid; rw [without_stop n q m i e h1 hlt hq0 HI.out (by omega)]; rfl
        clear hr HI
        go_wp2
        go_ret2
        exact ⟨congrArg Ending.returned HE.out.symm, below_alloc _ _⟩
    · have HE : Hid (woV (without n q e) = .tuple #[.int .u64 (m : Int), .bool true]) := by
        unfold Hid
        rw [without_done n q m e h1 h2 hq0 (by rw [← HI.out]; congr 2; omega)]; rfl
      clear HI
      go_wp2
      go_ret2
      exact ⟨congrArg Ending.returned HE.out.symm, below_alloc _ _⟩
/-- without. -/
theorem without_any (W : World) (n q : Nat) (e : Int) (hn : n < 18446744073709551616) (hq0 : 0 < q) (hq : q < 18446744073709551616) : AnsB W 94 #[.int .u64 n, .agg #[.int .u64 q, .int .i64 e]] (woV (without n q e)) := by
  by_cases h1 : 1 ≤ e
  · by_cases h2 : e ≤ 62
    · exact without_walk2 W n q e hn hq0 hq h1 h2
    · rw [without_bad n q e (by omega)]; exact without_walk1 W n q e h1 (by omega)
  · rw [without_bad n q e (by omega)]; exact without_walk0 W n q e (by omega)
end Go.Proofs.YtpjfapibjihbbaaGreatDoor
/-
  Contracts of what looks through a row: slices.IndexFunc and ContainsFunc at entries, with the literal of known; known.
-/
namespace Go.Proofs.YtpjfapibjihbbaaGreatDoor
set_option linter.unusedVariables false
open Go.RowKit

def idxV (r : Option Nat) : Value := match r with
  | none => .int .i64 (-1)
  | some k => .int .i64 (k : Int)
theorem found {α : Type} {l : List α} {t : α → Bool} {k : Nat} {x : α} (hx : l[k]? = some x) (ht : t x = true) (hb : ∀ j y, j < k → l[j]? = some y → t y = false) : l.findIdx? t = some k := by
  obtain ⟨hk, rfl⟩ := List.getElem?_eq_some_iff.1 hx
  refine List.findIdx?_eq_some_iff_getElem.2 ⟨hk, ht, fun j hj => ?_⟩
  rw [hb j _ hj (List.getElem?_eq_getElem (by omega))]; simp
theorem found_none {α : Type} {l : List α} {t : α → Bool} (hb : ∀ j y, j < l.length → l[j]? = some y → t y = false) : l.findIdx? t = none := by
  refine List.findIdx?_eq_none_iff.2 fun x hx => ?_
  obtain ⟨j, hj, rfl⟩ := List.getElem_of_mem hx
  exact hb j _ hj (List.getElem?_eq_getElem hj)

/-! ### known's literal -/
theorem known_lit (W : World) (p g q : Int) (s : Value) (b : Nat) (hc : W.cell? ⟨b, 0, none⟩ = some (.int .u64 q)) (hb : b < W.heap.size) (hs : ∃ A n C, s = .slice A n C) :
    AnsB W 126 #[.agg #[.int .u64 p, .int .u64 g, s], .pointer (some ⟨b, 0, none⟩)] (.bool (p == q)) := by
  obtain ⟨A, n, C, rfl⟩ := hs
  intro w hw
  obtain ⟨k1, k2⟩ := bcell hw
  have k := k1 b 0 hb
  rw [hc] at k
  clear k1 k2
  have hne : w.heap.size ≠ b := by have := hw.size; omega
  have hbw : b < w.heap.size := by have := hw.size; omega
  go_enter Tryz.func126, Tryz.ntmps126
  go_wp2
  go_ret
  exact ⟨rfl, below_alloc _ _⟩

set_option maxHeartbeats 1000000 in
/-- IndexFunc at entries, with proof.known$1. -/
theorem indexE_known (W : World) (A : Option Addr) (C : Nat) (es : List En) (hE : EntsAt W A C es) (q : Nat) (bq : Nat) (hc : W.cell? ⟨bq, 0, none⟩ = some (.int .u64 (q : Int))) (hbq : bq < W.heap.size) :
    AnsB W 58 #[.slice A es.length C, .func (.func 126) #[] #[.pointer (some ⟨bq, 0, none⟩)]] (idxV (es.findIdx? fun x => x.p == q)) := by
  intro w hw
  have hlen : (es.length : Int) ≤ 9223372036854775807 := by have := hE.cap; have := hE.max; unfold maxLen at this; omega
  obtain ⟨L, hL⟩ : ∃ L, es.length = L := ⟨_, rfl⟩
  rw [hL] at hlen
  have HL : Hid (es.length = L) := hL
  rw [hL]
  clear hL
  go_enter Tryz.func58, Tryz.ntmps58
  go_wp2
  go_loopw [8] (fun v wr => ∃ k : Nat, v = .int .i64 k ∧ k ≤ L ∧ Hid (∀ j y, j < k → es[j]? = some y → (y.p == q) = false) ∧ Below w.heap.size w wr) (fun v _ => L - (intOf v).toNat)
  case atStart => exact ⟨0, rfl, by omega, fun j y hj => absurd hj (by omega), Below.refl _ _⟩
  case round =>
    obtain ⟨k, rfl, hk, HI, hB⟩ := hrel
    by_cases hlt : k < L
    · have hlt' : k < es.length := by rw [HL.out]; exact hlt
      obtain ⟨x, hx⟩ : ∃ x, es[k]? = some x := ⟨_, List.getElem?_eq_getElem hlt'⟩
      obtain ⟨b, o, A', C', rfl, hb, c0, c1, c2, hP, hp, hg⟩ := hE.get k x hx
      obtain ⟨f1, f2⟩ := bcell (hw.trans (hB.mono hw.size))
      have c0' := (f1 b (o + k * 3) hb).trans c0
      have c1' := (f1 b (o + k * 3 + 1) hb).trans c1
      have c2' := (f1 b (o + k * 3 + 2) hb).trans c2
      have HX : Hid (es[k]? = some x) := hx
      have HC := known_lit W x.p x.g q (.slice A' x.fs.length C') bq hc hbq ⟨_, _, _, rfl⟩
      have hBW := hw.trans (hB.mono hw.size)
      obtain ⟨p, hp'⟩ : ∃ p : Int, (x.p : Int) = p := ⟨_, rfl⟩
      obtain ⟨g, hg'⟩ : ∃ g : Int, (x.g : Int) = g := ⟨_, rfl⟩
      obtain ⟨fl, hfl⟩ : ∃ fl : Nat, x.fs.length = fl := ⟨_, rfl⟩
      rw [hp'] at c0' HC
      rw [hg'] at c1' HC
      rw [hfl] at c2' HC
      by_cases ht : x.p = q
      · have hpq : (p == (q : Int)) = true := by rw [← hp', ht]; simp
        rw [hpq] at HC
        have HE : Hid (idxV (es.findIdx? fun x => x.p == q) = .int .i64 (k : Int)) := by
          unfold Hid; rw [found (t := fun x : En => x.p == q) hx (by simp [ht]) HI.out]; rfl
        clear c0 c1 c2 f1 f2 hp' hg' hfl hx HI ht hP hpq
        go_wp2_with (go_at_call 126; with_reducible refine AnsB.use HC hBW fun w2 hb2 => ?_)
        go_ret
        exact ⟨congrArg Ending.returned HE.out.symm, hB.trans (hb2.mono hB.size)⟩
      · have hpq : (p == (q : Int)) = false := by rw [← hp']; simp; omega
        rw [hpq] at HC
        have HS : Hid (∀ j y, j < k + 1 → es[j]? = some y → (y.p == q) = false) := by
          intro j y hj hy
          by_cases h : j < k
          · exact HI.out j y h hy
          · obtain rfl : j = k := by omega
            rw [hx] at hy; cases hy; simp [ht]
        clear c0 c1 c2 f1 f2 hp' hg' hfl hx HI ht hP hpq
        go_wp2_with (go_at_call 126; with_reducible refine AnsB.use HC hBW fun w2 hb2 => ?_)
        go_roundw
        case rel => exact ⟨k + 1, by go_num, by omega, HS, hB.trans (hb2.mono hB.size)⟩
        case measure => simp [intOf]; omega
    · obtain rfl : k = L := by omega
      have HE : Hid (idxV (es.findIdx? fun x => x.p == q) = .int .i64 (-1)) := by
        unfold Hid; rw [found_none (t := fun x : En => x.p == q) (by rw [HL.out]; exact HI.out)]; rfl
      clear HI
      go_wp2
      go_ret
      exact ⟨congrArg Ending.returned HE.out.symm, hB⟩

theorem containsE_walk (W : World) (s f : Value) (r : Option Nat) (HI : AnsB W 58 #[s, f] (idxV r)) :
    AnsB W 125 #[s, f] (.bool r.isSome) := by
  intro w hw
  cases r with
  | none =>
    have HI' : AnsB W 58 #[s, f] (.int .i64 (-1)) := HI
    go_enter Tryz.func125, Tryz.ntmps125
    go_wp2_with (go_at_call 58; with_reducible refine AnsB.use HI' hw fun w2 hb2 => ?_)
    go_ret
    exact ⟨rfl, hb2⟩
  | some k =>
    have HI' : AnsB W 58 #[s, f] (.int .i64 (k : Int)) := HI
    have hk : decide ((0 : Int) ≤ (k : Int)) = true := by simp
    go_enter Tryz.func125, Tryz.ntmps125
    go_wp2_with (go_at_call 58; with_reducible refine AnsB.use HI' hw fun w2 hb2 => ?_)
    go_ret
    exact ⟨by simp, hb2⟩

/-! ### known -/
/-- What may be a factor at a place. -/
def knownB (es : List En) (i q : Nat) : Bool := if i = 0 then q == 2 else es.any fun x => x.p == q
theorem known_walk0 (W : World) (s : Value) (hs : ∃ A n C, s = .slice A n C) (q : Int) : AnsB W 93 #[s, .int .i64 0, .int .u64 q] (.bool (q == 2)) := by
  obtain ⟨A, n, C, rfl⟩ := hs
  intro w hw
  go_enter Tryz.func93, Tryz.ntmps93
  go_wp2
  go_ret
  exact ⟨rfl, below_alloc _ _⟩
theorem known_walk1 (W : World) (s : Value) (hs : ∃ A n C, s = .slice A n C) (i q : Int) (h : (i == 0) = false) (r : Bool)
    (HC : ∀ w b, Below W.heap.size W w → b < w.heap.size → w.cell? ⟨b, 0, none⟩ = some (.int .u64 q) → AnsB w 125 #[s, .func (.func 126) #[] #[.pointer (some ⟨b, 0, none⟩)]] (.bool r)) :
    AnsB W 93 #[s, .int .i64 i, .int .u64 q] (.bool r) := by
  obtain ⟨A, n, C, rfl⟩ := hs
  intro w hw
  have hbw : Below W.heap.size W (w.alloc (.cells #[.int .u64 q] 22)) := hw.alloc hw.size _
  have HC' := HC (w.alloc (.cells #[.int .u64 q] 22)) w.heap.size hbw (by simp) (cell_new _ _ _)
  go_enter Tryz.func93, Tryz.ntmps93
  go_wp2_with (go_at_call 125; with_reducible refine AnsB.use HC' (Below.refl _ _) fun w2 hb2 => ?_)
  go_ret
  exact ⟨rfl, (below_alloc _ _).trans (hb2.mono (by simp))⟩
theorem known_any (W : World) (A : Option Addr) (C : Nat) (es : List En) (hE : EntsAt W A C es) (i q : Nat) :
    AnsB W 93 #[.slice A es.length C, .int .i64 (i : Int), .int .u64 (q : Int)] (.bool (knownB es i q)) := by
  by_cases h : i = 0
  · subst h
    have := known_walk0 W (.slice A es.length C) ⟨_, _, _, rfl⟩ (q : Int)
    refine AnsB.to this ?_
    unfold knownB; rw [if_pos rfl]
    congr 1
    rw [Bool.eq_iff_iff]; simp; omega
  · unfold knownB; rw [if_neg h]
    refine known_walk1 W _ ⟨_, _, _, rfl⟩ (i : Int) (q : Int) (by simp; omega) _ fun w b hw hb hc => ?_
    have := containsE_walk w _ _ _ (indexE_known w A C es (hE.below hw) q b hc hb)
    refine AnsB.to this ?_
    rw [List.findIdx?_isSome]
end Go.Proofs.YtpjfapibjihbbaaGreatDoor
/-
  The contract of proof's factored.
-/
namespace Go.Proofs.YtpjfapibjihbbaaGreatDoor
set_option linter.unusedVariables false
open Go.RowKit

/-- The factors, one behind the other: what is left in the end is 1. -/
def facLoop (es : List En) : Nat → Nat → Nat → List Pw → Bool
  | _, left, _, [] => left == 1
  | i, left, last, f :: fs => if f.q ≤ last then false else if knownB es i f.q = false then false else match without left f.q f.e with
    | none => false
    | some r => facLoop es (i + 1) r f.q fs
def factoredB (es : List En) (x : En) : Bool := if x.fs.length < 1 ∨ 16 < x.fs.length then false else facLoop es 0 (x.p - 1) 0 x.fs
theorem fac_low (es : List En) (i left last : Nat) (f : Pw) (fs : List Pw) (h : f.q ≤ last) : facLoop es i left last (f :: fs) = false := by
  rw [facLoop, if_pos h]
theorem fac_unknown (es : List En) (i left last : Nat) (f : Pw) (fs : List Pw) (h : ¬ f.q ≤ last) (hk : knownB es i f.q = false) : facLoop es i left last (f :: fs) = false := by
  rw [facLoop, if_neg h, if_pos hk]
theorem fac_none (es : List En) (i left last : Nat) (f : Pw) (fs : List Pw) (h : ¬ f.q ≤ last) (hk : knownB es i f.q = true) (hw : without left f.q f.e = none) : facLoop es i left last (f :: fs) = false := by
  rw [facLoop, if_neg h, if_neg (by simp [hk]), hw]
theorem fac_some (es : List En) (i left last r : Nat) (f : Pw) (fs : List Pw) (h : ¬ f.q ≤ last) (hk : knownB es i f.q = true) (hw : without left f.q f.e = some r) : facLoop es i left last (f :: fs) = facLoop es (i + 1) r f.q fs := by
  rw [facLoop, if_neg h, if_neg (by simp [hk]), hw]
theorem drop_cons {α : Type} {l : List α} {k : Nat} {x : α} (h : l[k]? = some x) : l.drop k = x :: l.drop (k + 1) := by
  obtain ⟨hk, rfl⟩ := List.getElem?_eq_some_iff.1 h
  exact List.drop_eq_getElem_cons hk
theorem without_le {n q r : Nat} {e : Int} (h : without n q e = some r) : r ≤ n := by
  unfold without at h
  split at h
  · cases h
  · split at h
    · cases h; exact Nat.div_le_self _ _
    · cases h

theorem ret_bool {a b : Bool} (h : a = b) : Ending.returned (.bool a) = .returned (.bool b) := by rw [h]
/-- A cell of a block that was there stays. -/
theorem keep_cell {w w' : World} (hb : Below w.heap.size w w') {b o : Nat} {v : Value} (hl : b < w.heap.size) (h : w.cell? ⟨b, o, none⟩ = some v) : w'.cell? ⟨b, o, none⟩ = some v := by
  rw [(bcell hb).1 b o hl]; exact h
theorem two_cells (w : World) (a b : Value) (t : TypeId) : (w.alloc (.cells #[a, b] t)).cell? ⟨w.heap.size, 0, none⟩ = some a ∧ (w.alloc (.cells #[a, b] t)).cell? ⟨w.heap.size, 1, none⟩ = some b := by
  constructor <;> (rw [World.cell?_alloc_at _ _ _ _ rfl]; rfl)
theorem three_cells (w : World) (a b c : Value) (t : TypeId) : (w.alloc (.cells #[a, b, c] t)).cell? ⟨w.heap.size, 0, none⟩ = some a ∧ (w.alloc (.cells #[a, b, c] t)).cell? ⟨w.heap.size, 1, none⟩ = some b ∧ (w.alloc (.cells #[a, b, c] t)).cell? ⟨w.heap.size, 2, none⟩ = some c := by
  refine ⟨?_, ?_, ?_⟩ <;> (rw [World.cell?_alloc_at _ _ _ _ rfl]; rfl)

set_option maxHeartbeats 1000000 in
theorem factored_walk (W : World) (A : Option Addr) (C : Nat) (es : List En) (hE : EntsAt W A C es) (x : En) (A' : Option Addr) (C' : Nat) (hP : PowsAt W A' C' x.fs) (hp : 1 ≤ x.p) (hpl : x.p < 18446744073709551616) (h1 : 1 ≤ x.fs.length) (h2 : x.fs.length ≤ 16) :
    AnsB W 77 #[.slice A es.length C, .agg #[.int .u64 (x.p : Int), .int .u64 (x.g : Int), .slice A' x.fs.length C']] (.bool (facLoop es 0 (x.p - 1) 0 x.fs)) := by
  intro w hw
  obtain ⟨L, hL⟩ : ∃ L, x.fs.length = L := ⟨_, rfl⟩
  have HL : Hid (x.fs.length = L) := hL
  rw [hL] at h1 h2 ⊢
  clear hL
  obtain ⟨sv, hsv⟩ : ∃ sv : Value, Value.slice A es.length C = sv := ⟨_, rfl⟩
  have HK := fun w' (hw' : Below W.heap.size W w') => known_any w' A C es (hE.below hw')
  rw [hsv] at HK ⊢
  clear hsv
  obtain ⟨p, hp'⟩ : ∃ p : Int, (x.p : Int) = p := ⟨_, rfl⟩
  have HP : Hid ((x.p : Int) = p) := hp'
  obtain ⟨g, hg'⟩ : ∃ g : Int, (x.g : Int) = g := ⟨_, rfl⟩
  have p1 : 1 ≤ p := by omega
  have p2 : p < 18446744073709551616 := by omega
  rw [hp', hg']
  clear hp' hg'
  go_enter Tryz.func77, Tryz.ntmps77
  go_wp2
  go_loopw [6, 7, 27] (fun s t v wr => ∃ left last k : Nat, s = .int .u64 left ∧ t = .int .u64 last ∧ v = .int .i64 k ∧ k ≤ L ∧ left < 18446744073709551616 ∧ last < 18446744073709551616 ∧ Hid (facLoop es k left last (x.fs.drop k) = facLoop es 0 (x.p - 1) 0 x.fs) ∧ Below w.heap.size w wr) (fun _ _ v _ => L - (intOf v).toNat)
  case atStart => exact ⟨x.p - 1, 0, 0, by rw [← HP.out]; go_num, rfl, rfl, by omega, by omega, by omega, by unfold Hid; rw [List.drop_zero], below_alloc _ _⟩
  case round =>
    obtain ⟨left, last, k, rfl, rfl, rfl, hk, hle, hla, HI, hB⟩ := hrel
    by_cases hlt : k < L
    · have hlt' : k < x.fs.length := by rw [HL.out]; exact hlt
      obtain ⟨f, hf⟩ : ∃ f, x.fs[k]? = some f := ⟨_, List.getElem?_eq_getElem hlt'⟩
      obtain ⟨b, o, rfl, hb, c0, c1, hfq, hfe, hfe'⟩ := hP.get k f hf
      obtain ⟨f1, f2⟩ := bcell (hw.trans (hB.mono hw.size))
      have c0' := (f1 b (o + k * 2) hb).trans c0
      have c1' := (f1 b (o + k * 2 + 1) hb).trans c1
      clear f1 f2 c0 c1
      obtain ⟨q, hq⟩ : ∃ q : Nat, f.q = q := ⟨_, rfl⟩
      obtain ⟨e, he⟩ : ∃ e : Int, f.e = e := ⟨_, rfl⟩
      rw [hq] at c0' hfq
      rw [he] at c1'
      have HX : Hid (x.fs.drop k = f :: x.fs.drop (k + 1)) := drop_cons hf
      have hBW : Below W.heap.size W wr := hw.trans (hB.mono hw.size)
      obtain ⟨t0, t1⟩ := two_cells wr (.int .u64 (q : Int)) (.int .i64 e) 93
      obtain ⟨V, hV⟩ : ∃ V, wr.alloc (.cells #[.int .u64 (q : Int), .int .i64 e] 93) = V := ⟨_, rfl⟩
      have hVs : wr.heap.size < V.heap.size := by rw [← hV]; simp
      have hBV : Below wr.heap.size wr V := hV ▸ below_alloc _ _
      rw [hV] at t0 t1
      have HK1 := (HK wr hBW k q).on hBV
      clear hf hlt' hfe hfe'
      by_cases hlow : q ≤ last
      · have HE : Hid (facLoop es 0 (x.p - 1) 0 x.fs = false) := by
          unfold Hid; rw [← HI.out, HX.out, fac_low _ _ _ _ _ _ (by omega)]
        have hlow' : (q : Int) ≤ (last : Int) := by omega
        clear HI HX
        go_wp2
        go_ret
        exact ⟨ret_bool HE.out.symm, bb hB (hV ▸ hBV)⟩
      · have hlow' : ¬ (q : Int) ≤ (last : Int) := by omega
        have hBWV : Below W.heap.size W V := hBW.trans (hBV.mono hBW.size)
        cases hkn : knownB es k q with
        | false =>
          rw [hkn] at HK1
          have HE : Hid (facLoop es 0 (x.p - 1) 0 x.fs = false) := by
            unfold Hid; rw [← HI.out, HX.out, fac_unknown _ _ _ _ _ _ (by omega) (by rw [hq]; exact hkn)]
          clear HI HX hkn
          go_wp2_with (go_at_call 93; with_reducible refine AnsB.use HK1 (Below.refl _ _) fun w2 hb2 => ?_)
          go_ret
          exact ⟨ret_bool HE.out.symm, bb (bb hB hBV) hb2⟩
        | true =>
          rw [hkn] at HK1
          cases hwo : without left q e with
          | none =>
            have HO := without_any V left q e hle (by omega) hfq
            rw [hwo] at HO
            replace HO : AnsB V 94 #[.int .u64 (left : Int), .agg #[.int .u64 (q : Int), .int .i64 e]] (.tuple #[.int .u64 0, .bool false]) := HO
            have HE : Hid (facLoop es 0 (x.p - 1) 0 x.fs = false) := by
              unfold Hid; rw [← HI.out, HX.out, fac_none _ _ _ _ _ _ (by omega) (by rw [hq]; exact hkn) (by rw [hq, he]; exact hwo)]
            clear HI HX hkn hwo
            go_wp2_with (first | (go_at_call 93; with_reducible refine AnsB.use HK1 (Below.refl _ _) fun w2 hb2 => ?_; have d0 := keep_cell hb2 hVs t0; have d1 := keep_cell hb2 hVs t1) | (go_at_call 94; with_reducible refine AnsB.use HO hb2 fun w3 hb3 => ?_))
            go_ret
            exact ⟨ret_bool HE.out.symm, bb (bb (bb hB hBV) hb2) hb3⟩
          | some r =>
            have HO := without_any V left q e hle (by omega) hfq
            have hr := without_le hwo
            rw [hwo] at HO
            replace HO : AnsB V 94 #[.int .u64 (left : Int), .agg #[.int .u64 (q : Int), .int .i64 e]] (.tuple #[.int .u64 (r : Int), .bool true]) := HO
            have HS : Hid (facLoop es (k + 1) r q (x.fs.drop (k + 1)) = facLoop es 0 (x.p - 1) 0 x.fs) := by
              unfold Hid; rw [← HI.out, HX.out, fac_some _ _ _ _ r _ _ (by omega) (by rw [hq]; exact hkn) (by rw [hq, he]; exact hwo), hq]
            clear HI HX hkn hwo
            go_wp2_with (first | (go_at_call 93; with_reducible refine AnsB.use HK1 (Below.refl _ _) fun w2 hb2 => ?_; have d0 := keep_cell hb2 hVs t0; have d1 := keep_cell hb2 hVs t1) | (go_at_call 94; with_reducible refine AnsB.use HO hb2 fun w3 hb3 => ?_; have d2 := keep_cell hb3 (Nat.lt_of_lt_of_le hVs hb2.size) d0))
            go_quiet ((fail))
            go_wp2
            go_roundw
            case rel => exact ⟨r, q, k + 1, rfl, rfl, by go_num, by omega, by omega, by omega, HS, bb (bb (bb (bb hB hBV) hb2) hb3) (below_drewN _ _)⟩
            case measure => simp [intOf]; omega
    · obtain rfl : k = L := by omega
      have HE : Hid (facLoop es 0 (x.p - 1) 0 x.fs = (left == 1)) := by
        unfold Hid; rw [← HI.out, List.drop_eq_nil_of_le (by rw [HL.out]; exact Nat.le_refl _)]; rfl
      clear HI
      go_wp2
      go_ret
      exact ⟨ret_bool (by rw [HE.out, Bool.eq_iff_iff]; simp; omega), hB⟩
theorem factored_few (W : World) (s : Value) (hs : ∃ A n C, s = .slice A n C) (p g : Int) (A' : Option Addr) (L C' : Nat) (h : L < 1) : AnsB W 77 #[s, .agg #[.int .u64 p, .int .u64 g, .slice A' L C']] (.bool false) := by
  obtain ⟨A, n, C, rfl⟩ := hs
  intro w hw
  go_enter Tryz.func77, Tryz.ntmps77
  go_wp2
  go_ret
  exact ⟨rfl, below_alloc _ _⟩
theorem factored_many (W : World) (s : Value) (hs : ∃ A n C, s = .slice A n C) (p g : Int) (A' : Option Addr) (L C' : Nat) (h1 : 1 ≤ L) (h : 16 < L) : AnsB W 77 #[s, .agg #[.int .u64 p, .int .u64 g, .slice A' L C']] (.bool false) := by
  obtain ⟨A, n, C, rfl⟩ := hs
  intro w hw
  go_enter Tryz.func77, Tryz.ntmps77
  go_wp2
  go_ret
  exact ⟨rfl, below_alloc _ _⟩
/-- factored. -/
theorem factored_any (W : World) (A : Option Addr) (C : Nat) (es : List En) (hE : EntsAt W A C es) (x : En) (A' : Option Addr) (C' : Nat) (hP : PowsAt W A' C' x.fs) (hp : 1 ≤ x.p) (hpl : x.p < 18446744073709551616) :
    AnsB W 77 #[.slice A es.length C, .agg #[.int .u64 (x.p : Int), .int .u64 (x.g : Int), .slice A' x.fs.length C']] (.bool (factoredB es x)) := by
  unfold factoredB
  by_cases h1 : x.fs.length < 1
  · rw [if_pos (Or.inl h1)]; exact factored_few W _ ⟨_, _, _, rfl⟩ _ _ _ _ _ h1
  · by_cases h2 : 16 < x.fs.length
    · rw [if_pos (Or.inr h2)]; exact factored_many W _ ⟨_, _, _, rfl⟩ _ _ _ _ _ (by omega) h2
    · rw [if_neg (by omega)]; exact factored_walk W A C es hE x A' C' hP hp hpl (by omega) (by omega)
end Go.Proofs.YtpjfapibjihbbaaGreatDoor

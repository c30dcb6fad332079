/-
  The contract of proof's factored.
-/
import Derived.Test.YtafmmkhegkceiaaPf2
namespace Go.Proofs.Ytafmmkhegkceiaa
set_option linter.unusedVariables false
open Go.RowKit

/-- The factors, one behind the other: what is left in the end is 1. -/
def facLoop (es : List En) : Nat → Nat → Nat → List Pw → Bool
  | _, left, _, [] => left == 1
  | i, left, last, f :: fs => if f.q ≤ last then false else if knownB es i f.q = false then false else match without left f.q f.e with
    | none => false
    | some r => facLoop es (i + 1) r f.q fs
def factoredB (es : List En) (x : En) : Bool := if x.fs.length < 1 ∨ 16 < x.fs.length then false else facLoop es 0 (x.p - 1) 0 x.fs
theorem fac_low (es : List En) (i left last : Nat) (f : Pw) (fs : List Pw) (h : f.q ≤ last) : facLoop es i left last (f :: fs) = false := by
  rw [facLoop, if_pos h]
theorem fac_unknown (es : List En) (i left last : Nat) (f : Pw) (fs : List Pw) (h : ¬ f.q ≤ last) (hk : knownB es i f.q = false) : facLoop es i left last (f :: fs) = false := by
  rw [facLoop, if_neg h, if_pos hk]
theorem fac_none (es : List En) (i left last : Nat) (f : Pw) (fs : List Pw) (h : ¬ f.q ≤ last) (hk : knownB es i f.q = true) (hw : without left f.q f.e = none) : facLoop es i left last (f :: fs) = false := by
  rw [facLoop, if_neg h, if_neg (by simp [hk]), hw]
theorem fac_some (es : List En) (i left last r : Nat) (f : Pw) (fs : List Pw) (h : ¬ f.q ≤ last) (hk : knownB es i f.q = true) (hw : without left f.q f.e = some r) : facLoop es i left last (f :: fs) = facLoop es (i + 1) r f.q fs := by
  rw [facLoop, if_neg h, if_neg (by simp [hk]), hw]
theorem drop_cons {α : Type} {l : List α} {k : Nat} {x : α} (h : l[k]? = some x) : l.drop k = x :: l.drop (k + 1) := by
  obtain ⟨hk, rfl⟩ := List.getElem?_eq_some_iff.1 h
  exact List.drop_eq_getElem_cons hk
theorem without_le {n q r : Nat} {e : Int} (h : without n q e = some r) : r ≤ n := by
  unfold without at h
  split at h
  · cases h
  · split at h
    · cases h; exact Nat.div_le_self _ _
    · cases h

theorem ret_bool {a b : Bool} (h : a = b) : Ending.returned (.bool a) = .returned (.bool b) := by rw [h]
/-- A cell of a block that was there stays. -/
theorem keep_cell {w w' : World} (hb : Below w.heap.size w w') {b o : Nat} {v : Value} (hl : b < w.heap.size) (h : w.cell? ⟨b, o, none⟩ = some v) : w'.cell? ⟨b, o, none⟩ = some v := by
  rw [(bcell hb).1 b o hl]; exact h
theorem two_cells (w : World) (a b : Value) (t : TypeId) : (w.alloc (.cells #[a, b] t)).cell? ⟨w.heap.size, 0, none⟩ = some a ∧ (w.alloc (.cells #[a, b] t)).cell? ⟨w.heap.size, 1, none⟩ = some b := by
  constructor <;> (rw [World.cell?_alloc_at _ _ _ _ rfl]; rfl)
theorem three_cells (w : World) (a b c : Value) (t : TypeId) : (w.alloc (.cells #[a, b, c] t)).cell? ⟨w.heap.size, 0, none⟩ = some a ∧ (w.alloc (.cells #[a, b, c] t)).cell? ⟨w.heap.size, 1, none⟩ = some b ∧ (w.alloc (.cells #[a, b, c] t)).cell? ⟨w.heap.size, 2, none⟩ = some c := by
  refine ⟨?_, ?_, ?_⟩ <;> (rw [World.cell?_alloc_at _ _ _ _ rfl]; rfl)

set_option maxHeartbeats 1000000 in
theorem factored_walk (W : World) (A : Option Addr) (C : Nat) (es : List En) (hE : EntsAt W A C es) (x : En) (A' : Option Addr) (C' : Nat) (hP : PowsAt W A' C' x.fs) (hp : 1 ≤ x.p) (hpl : x.p < 18446744073709551616) (h1 : 1 ≤ x.fs.length) (h2 : x.fs.length ≤ 16) :
    AnsB W 45 #[.slice A es.length C, .agg #[.int .u64 (x.p : Int), .int .u64 (x.g : Int), .slice A' x.fs.length C']] (.bool (facLoop es 0 (x.p - 1) 0 x.fs)) := by
  intro w hw
  obtain ⟨L, hL⟩ : ∃ L, x.fs.length = L := ⟨_, rfl⟩
  have HL : Hid (x.fs.length = L) := hL
  rw [hL] at h1 h2 ⊢
  clear hL
  obtain ⟨sv, hsv⟩ : ∃ sv : Value, Value.slice A es.length C = sv := ⟨_, rfl⟩
  have HK := fun w' (hw' : Below W.heap.size W w') => known_any w' A C es (hE.below hw')
  rw [hsv] at HK ⊢
  clear hsv
  obtain ⟨p, hp'⟩ : ∃ p : Int, (x.p : Int) = p := ⟨_, rfl⟩
  have HP : Hid ((x.p : Int) = p) := hp'
  obtain ⟨g, hg'⟩ : ∃ g : Int, (x.g : Int) = g := ⟨_, rfl⟩
  have p1 : 1 ≤ p := by omega
  have p2 : p < 18446744073709551616 := by omega
  rw [hp', hg']
  clear hp' hg'
  go_enter Try.func45, Try.ntmps45
  go_wp2
  go_loopw [6, 7, 27] (fun s t v wr => ∃ left last k : Nat, s = .int .u64 left ∧ t = .int .u64 last ∧ v = .int .i64 k ∧ k ≤ L ∧ left < 18446744073709551616 ∧ last < 18446744073709551616 ∧ Hid (facLoop es k left last (x.fs.drop k) = facLoop es 0 (x.p - 1) 0 x.fs) ∧ Below w.heap.size w wr) (fun _ _ v _ => L - (intOf v).toNat)
  case atStart => exact ⟨x.p - 1, 0, 0, by rw [← HP.out]; go_num, rfl, rfl, by omega, by omega, by omega, by unfold Hid; rw [List.drop_zero], below_alloc _ _⟩
  case round =>
    obtain ⟨left, last, k, rfl, rfl, rfl, hk, hle, hla, HI, hB⟩ := hrel
    by_cases hlt : k < L
    · have hlt' : k < x.fs.length := by rw [HL.out]; exact hlt
      obtain ⟨f, hf⟩ : ∃ f, x.fs[k]? = some f := ⟨_, List.getElem?_eq_getElem hlt'⟩
      obtain ⟨b, o, rfl, hb, c0, c1, hfq, hfe, hfe'⟩ := hP.get k f hf
      obtain ⟨f1, f2⟩ := bcell (hw.trans (hB.mono hw.size))
      have c0' := (f1 b (o + k * 2) hb).trans c0
      have c1' := (f1 b (o + k * 2 + 1) hb).trans c1
      clear f1 f2 c0 c1
      obtain ⟨q, hq⟩ : ∃ q : Nat, f.q = q := ⟨_, rfl⟩
      obtain ⟨e, he⟩ : ∃ e : Int, f.e = e := ⟨_, rfl⟩
      rw [hq] at c0' hfq
      rw [he] at c1'
      have HX : Hid (x.fs.drop k = f :: x.fs.drop (k + 1)) := drop_cons hf
      have hBW : Below W.heap.size W wr := hw.trans (hB.mono hw.size)
      obtain ⟨t0, t1⟩ := two_cells wr (.int .u64 (q : Int)) (.int .i64 e) 33
      obtain ⟨V, hV⟩ : ∃ V, wr.alloc (.cells #[.int .u64 (q : Int), .int .i64 e] 33) = V := ⟨_, rfl⟩
      have hVs : wr.heap.size < V.heap.size := by rw [← hV]; simp
      have hBV : Below wr.heap.size wr V := hV ▸ below_alloc _ _
      rw [hV] at t0 t1
      have HK1 := (HK wr hBW k q).on hBV
      clear hf hlt' hfe hfe'
      by_cases hlow : q ≤ last
      · have HE : Hid (facLoop es 0 (x.p - 1) 0 x.fs = false) := by
          unfold Hid; rw [← HI.out, HX.out, fac_low _ _ _ _ _ _ (by omega)]
        have hlow' : (q : Int) ≤ (last : Int) := by omega
        clear HI HX
        go_wp2
        go_ret
        exact ⟨ret_bool HE.out.symm, bb hB (hV ▸ hBV)⟩
      · have hlow' : ¬ (q : Int) ≤ (last : Int) := by omega
        have hBWV : Below W.heap.size W V := hBW.trans (hBV.mono hBW.size)
        cases hkn : knownB es k q with
        | false =>
          rw [hkn] at HK1
          have HE : Hid (facLoop es 0 (x.p - 1) 0 x.fs = false) := by
            unfold Hid; rw [← HI.out, HX.out, fac_unknown _ _ _ _ _ _ (by omega) (by rw [hq]; exact hkn)]
          clear HI HX hkn
          go_wp2_with (go_at_call 54; with_reducible refine AnsB.use HK1 (Below.refl _ _) fun w2 hb2 => ?_)
          go_ret
          exact ⟨ret_bool HE.out.symm, bb (bb hB hBV) hb2⟩
        | true =>
          rw [hkn] at HK1
          cases hwo : without left q e with
          | none =>
            have HO := without_any V left q e hle (by omega) hfq
            rw [hwo] at HO
            replace HO : AnsB V 55 #[.int .u64 (left : Int), .agg #[.int .u64 (q : Int), .int .i64 e]] (.tuple #[.int .u64 0, .bool false]) := HO
            have HE : Hid (facLoop es 0 (x.p - 1) 0 x.fs = false) := by
              unfold Hid; rw [← HI.out, HX.out, fac_none _ _ _ _ _ _ (by omega) (by rw [hq]; exact hkn) (by rw [hq, he]; exact hwo)]
            clear HI HX hkn hwo
            go_wp2_with (first | (go_at_call 54; with_reducible refine AnsB.use HK1 (Below.refl _ _) fun w2 hb2 => ?_; have d0 := keep_cell hb2 hVs t0; have d1 := keep_cell hb2 hVs t1) | (go_at_call 55; with_reducible refine AnsB.use HO hb2 fun w3 hb3 => ?_))
            go_ret
            exact ⟨ret_bool HE.out.symm, bb (bb (bb hB hBV) hb2) hb3⟩
          | some r =>
            have HO := without_any V left q e hle (by omega) hfq
            have hr := without_le hwo
            rw [hwo] at HO
            replace HO : AnsB V 55 #[.int .u64 (left : Int), .agg #[.int .u64 (q : Int), .int .i64 e]] (.tuple #[.int .u64 (r : Int), .bool true]) := HO
            have HS : Hid (facLoop es (k + 1) r q (x.fs.drop (k + 1)) = facLoop es 0 (x.p - 1) 0 x.fs) := by
              unfold Hid; rw [← HI.out, HX.out, fac_some _ _ _ _ r _ _ (by omega) (by rw [hq]; exact hkn) (by rw [hq, he]; exact hwo), hq]
            clear HI HX hkn hwo
            go_wp2_with (first | (go_at_call 54; with_reducible refine AnsB.use HK1 (Below.refl _ _) fun w2 hb2 => ?_; have d0 := keep_cell hb2 hVs t0; have d1 := keep_cell hb2 hVs t1) | (go_at_call 55; with_reducible refine AnsB.use HO hb2 fun w3 hb3 => ?_; have d2 := keep_cell hb3 (Nat.lt_of_lt_of_le hVs hb2.size) d0))
            go_quiet ((fail))
            go_wp2
            go_roundw
            case rel => exact ⟨r, q, k + 1, rfl, rfl, by go_num, by omega, by omega, by omega, HS, bb (bb (bb (bb hB hBV) hb2) hb3) (below_drewN _ _)⟩
            case measure => simp [intOf]; omega
    · obtain rfl : k = L := by omega
      have HE : Hid (facLoop es 0 (x.p - 1) 0 x.fs = (left == 1)) := by
        unfold Hid; rw [← HI.out, List.drop_eq_nil_of_le (by rw [HL.out]; exact Nat.le_refl _)]; rfl
      clear HI
      go_wp2
      go_ret
      exact ⟨ret_bool (by rw [HE.out, Bool.eq_iff_iff]; simp; omega), hB⟩
theorem factored_few (W : World) (s : Value) (hs : ∃ A n C, s = .slice A n C) (p g : Int) (A' : Option Addr) (L C' : Nat) (h : L < 1) : AnsB W 45 #[s, .agg #[.int .u64 p, .int .u64 g, .slice A' L C']] (.bool false) := by
  obtain ⟨A, n, C, rfl⟩ := hs
  intro w hw
  go_enter Try.func45, Try.ntmps45
  go_wp2
  go_ret
  exact ⟨rfl, below_alloc _ _⟩
theorem factored_many (W : World) (s : Value) (hs : ∃ A n C, s = .slice A n C) (p g : Int) (A' : Option Addr) (L C' : Nat) (h1 : 1 ≤ L) (h : 16 < L) : AnsB W 45 #[s, .agg #[.int .u64 p, .int .u64 g, .slice A' L C']] (.bool false) := by
  obtain ⟨A, n, C, rfl⟩ := hs
  intro w hw
  go_enter Try.func45, Try.ntmps45
  go_wp2
  go_ret
  exact ⟨rfl, below_alloc _ _⟩
/-- factored. -/
theorem factored_any (W : World) (A : Option Addr) (C : Nat) (es : List En) (hE : EntsAt W A C es) (x : En) (A' : Option Addr) (C' : Nat) (hP : PowsAt W A' C' x.fs) (hp : 1 ≤ x.p) (hpl : x.p < 18446744073709551616) :
    AnsB W 45 #[.slice A es.length C, .agg #[.int .u64 (x.p : Int), .int .u64 (x.g : Int), .slice A' x.fs.length C']] (.bool (factoredB es x)) := by
  unfold factoredB
  by_cases h1 : x.fs.length < 1
  · rw [if_pos (Or.inl h1)]; exact factored_few W _ ⟨_, _, _, rfl⟩ _ _ _ _ _ h1
  · by_cases h2 : 16 < x.fs.length
    · rw [if_pos (Or.inr h2)]; exact factored_many W _ ⟨_, _, _, rfl⟩ _ _ _ _ _ (by omega) h2
    · rw [if_neg (by omega)]; exact factored_walk W A C es hE x A' C' hP hp hpl (by omega) (by omega)
end Go.Proofs.Ytafmmkhegkceiaa

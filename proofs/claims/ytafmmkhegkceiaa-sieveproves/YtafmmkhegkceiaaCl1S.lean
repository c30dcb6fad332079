/-
  The contracts of slices.Clone at factors, of IndexFunc with Claim's literal, of Claim.
-/
import Derived.Test.YtafmmkhegkceiaaPf6
import Derived.Test.YtafmmkhegkceiaaPfR
namespace Go.Proofs.Ytafmmkhegkceiaa
set_option linter.unusedVariables false
open Go.RowKit

/-! ### Claim's literal -/
theorem claim_lit (W : World) (p g q : Int) (s : Value) (b : Nat) (hc : W.cell? ⟨b, 0, none⟩ = some (.int .u64 q)) (hb : b < W.heap.size) (hs : ∃ A n C, s = .slice A n C) :
    AnsB W 33 #[.agg #[.int .u64 p, .int .u64 g, s], .pointer (some ⟨b, 0, none⟩)] (.bool (p == q)) := by
  obtain ⟨A, n, C, rfl⟩ := hs
  intro w hw
  obtain ⟨k1, k2⟩ := bcell hw
  have k := k1 b 0 hb
  rw [hc] at k
  clear k1 k2
  have hne : w.heap.size ≠ b := by have := hw.size; omega
  have hbw : b < w.heap.size := by have := hw.size; omega
  go_enter Try.func33, Try.ntmps33
  go_wp2
  go_ret
  exact ⟨rfl, below_alloc _ _⟩

set_option maxHeartbeats 1000000 in
/-- IndexFunc at entries, with proof.Claim$1. -/
theorem indexE_claim (W : World) (A : Option Addr) (C : Nat) (es : List En) (hE : EntsAt W A C es) (q : Nat) (bq : Nat) (hc : W.cell? ⟨bq, 0, none⟩ = some (.int .u64 (q : Int))) (hbq : bq < W.heap.size) :
    AnsB W 32 #[.slice A es.length C, .func (.func 33) #[] #[.pointer (some ⟨bq, 0, none⟩)]] (idxV (es.findIdx? fun x => x.p == q)) := by
  intro w hw
  have hlen : (es.length : Int) ≤ 9223372036854775807 := by have := hE.cap; have := hE.max; unfold maxLen at this; omega
  obtain ⟨L, hL⟩ : ∃ L, es.length = L := ⟨_, rfl⟩
  rw [hL] at hlen
  have HL : Hid (es.length = L) := hL
  rw [hL]
  clear hL
  go_enter Try.func32, Try.ntmps32
  go_wp2
  go_loopw [8] (fun v wr => ∃ k : Nat, v = .int .i64 k ∧ k ≤ L ∧ Hid (∀ j y, j < k → es[j]? = some y → (y.p == q) = false) ∧ Below w.heap.size w wr) (fun v _ => L - (intOf v).toNat)
  case atStart => exact ⟨0, rfl, by omega, fun j y hj => absurd hj (by omega), Below.refl _ _⟩
  case round =>
    obtain ⟨k, rfl, hk, HI, hB⟩ := hrel
    by_cases hlt : k < L
    · have hlt' : k < es.length := by rw [HL.out]; exact hlt
      obtain ⟨x, hx⟩ : ∃ x, es[k]? = some x := ⟨_, List.getElem?_eq_getElem hlt'⟩
      obtain ⟨b, o, A', C', rfl, hb, c0, c1, c2, hP, hp, hg⟩ := hE.get k x hx
      obtain ⟨f1, f2⟩ := bcell (hw.trans (hB.mono hw.size))
      have c0' := (f1 b (o + k * 3) hb).trans c0
      have c1' := (f1 b (o + k * 3 + 1) hb).trans c1
      have c2' := (f1 b (o + k * 3 + 2) hb).trans c2
      have HX : Hid (es[k]? = some x) := hx
      have HC := claim_lit W x.p x.g q (.slice A' x.fs.length C') bq hc hbq ⟨_, _, _, rfl⟩
      have hBW := hw.trans (hB.mono hw.size)
      obtain ⟨p, hp'⟩ : ∃ p : Int, (x.p : Int) = p := ⟨_, rfl⟩
      obtain ⟨g, hg'⟩ : ∃ g : Int, (x.g : Int) = g := ⟨_, rfl⟩
      obtain ⟨fl, hfl⟩ : ∃ fl : Nat, x.fs.length = fl := ⟨_, rfl⟩
      rw [hp'] at c0' HC
      rw [hg'] at c1' HC
      rw [hfl] at c2' HC
      by_cases ht : x.p = q
      · have hpq : (p == (q : Int)) = true := by rw [← hp', ht]; simp
        rw [hpq] at HC
        have HE : Hid (idxV (es.findIdx? fun x => x.p == q) = .int .i64 (k : Int)) := by
          unfold Hid; rw [found (t := fun x : En => x.p == q) hx (by simp [ht]) HI.out]; rfl
        clear c0 c1 c2 f1 f2 hp' hg' hfl hx HI ht hP hpq
        go_wp2_with (go_at_call 33; with_reducible refine AnsB.use HC hBW fun w2 hb2 => ?_)
        go_ret
        exact ⟨congrArg Ending.returned HE.out.symm, hB.trans (hb2.mono hB.size)⟩
      · have hpq : (p == (q : Int)) = false := by rw [← hp']; simp; omega
        rw [hpq] at HC
        have HS : Hid (∀ j y, j < k + 1 → es[j]? = some y → (y.p == q) = false) := by
          intro j y hj hy
          by_cases h : j < k
          · exact HI.out j y h hy
          · obtain rfl : j = k := by omega
            rw [hx] at hy; cases hy; simp [ht]
        clear c0 c1 c2 f1 f2 hp' hg' hfl hx HI ht hP hpq
        go_wp2_with (go_at_call 33; with_reducible refine AnsB.use HC hBW fun w2 hb2 => ?_)
        go_roundw
        case rel => exact ⟨k + 1, by go_num, by omega, HS, hB.trans (hb2.mono hB.size)⟩
        case measure => simp [intOf]; omega
    · obtain rfl : k = L := by omega
      have HE : Hid (idxV (es.findIdx? fun x => x.p == q) = .int .i64 (-1)) := by
        unfold Hid; rw [found_none (t := fun x : En => x.p == q) (by rw [HL.out]; exact HI.out)]; rfl
      clear HI
      go_wp2
      go_ret
      exact ⟨congrArg Ending.returned HE.out.symm, hB⟩


/-! ### Clone -/
def CloneAns (W : World) (v : Value) (fs : List Pw) : Prop := ∀ w, Below W.heap.size W w → Calls Try.prog 34 #[v] w fun e w' => ∃ A' C', e = .returned (.slice A' fs.length C') ∧ PowsAt w' A' C' fs ∧ (∀ b o, A' = some ⟨b, o, none⟩ → w.heap.size ≤ b) ∧ Below w.heap.size w w'
theorem CloneAns.use {W : World} {v : Value} {fs : List Pw} (h : CloneAns W v fs) {w : World} (hw : Below W.heap.size W w) {R : Ending → World → Prop} (k : ∀ A' C' w', PowsAt w' A' C' fs → (∀ b o, A' = some ⟨b, o, none⟩ → w.heap.size ≤ b) → Below w.heap.size w w' → R (.returned (.slice A' fs.length C')) w') : Calls Try.prog 34 #[v] w R :=
  (h w hw).mono fun _ _ ⟨A', C', he, h1, h2, h3⟩ => by subst he; exact k _ _ _ h1 h2 h3
def pcells (fs : List Pw) : List Value := fs.flatMap fun f => [.int .u64 (f.q : Int), .int .i64 f.e]
theorem pcells_len : ∀ (fs : List Pw), (pcells fs).length = fs.length * 2
  | [] => rfl
  | f :: fs => by
    have := pcells_len fs
    show (_ :: _ :: pcells fs).length = _
    simp only [List.length_cons]; omega
theorem pcells_get : ∀ (fs : List Pw) (i : Nat) (f : Pw), fs[i]? = some f → (pcells fs)[i * 2]? = some (.int .u64 (f.q : Int)) ∧ (pcells fs)[i * 2 + 1]? = some (.int .i64 f.e)
  | [], i, f, h => by simp at h
  | x :: fs, 0, f, h => by cases h; exact ⟨rfl, rfl⟩
  | x :: fs, i + 1, f, h => by
    obtain ⟨a, b⟩ := pcells_get fs i f (by simpa using h)
    have e1 : (i + 1) * 2 = i * 2 + 2 := by omega
    have e2 : (i + 1) * 2 + 1 = i * 2 + 1 + 2 := by omega
    rw [e2, e1]
    exact ⟨a, b⟩
theorem pcells_at : ∀ (fs : List Pw) (j : Nat) (u : Value), (pcells fs)[j]? = some u → ∃ f, fs[j / 2]? = some f ∧ ((j % 2 = 0 ∧ u = .int .u64 (f.q : Int)) ∨ (j % 2 = 1 ∧ u = .int .i64 f.e))
  | [], j, u, h => by simp [pcells] at h
  | x :: fs, 0, u, h => by cases h; exact ⟨x, rfl, Or.inl ⟨rfl, rfl⟩⟩
  | x :: fs, 1, u, h => by cases h; exact ⟨x, rfl, Or.inr ⟨rfl, rfl⟩⟩
  | x :: fs, j + 2, u, h => by
    obtain ⟨f, a, b⟩ := pcells_at fs j u h
    exact ⟨f, by rw [show (j + 2) / 2 = j / 2 + 1 by omega]; simpa using a, by rw [show (j + 2) % 2 = j % 2 by omega]; exact b⟩
theorem clone_nil (W : World) (n C : Nat) (fs : List Pw) (hP : PowsAt W none C fs) : CloneAns W (.slice none fs.length C) fs := by
  have : fs = [] := by
    cases fs with
    | nil => rfl
    | cons f fs => obtain ⟨_, _, h, _⟩ := hP.get 0 f rfl; cases h
  subst this
  intro w hw
  have hq : ∀ (w : World) (a : Option Addr) (n c : Nat), (binOp .eql 28 (.slice a n c) (.slice none 0 0)).run Try.prog w = .ok (.bool a.isNone) w := fun w a n c => by simp only [binOp]; simp [Op.equal, Op.maxDepth, Lib.run_equalIn_slice_nil w 9999 _ _ a n c 0 0 Try.underlying28]
  go_enter Try.func34, Try.ntmps34
  go_wp2
  go_ret
  exact ⟨none, 0, rfl, ⟨by simp, by unfold maxLen; omega, fun i f hf => by simp at hf⟩, (fun b o h => by cases h), Below.refl _ _⟩
set_option maxHeartbeats 1000000 in
theorem clone_some (W : World) (a : Addr) (C : Nat) (fs : List Pw) (hP : PowsAt W (some a) C fs) (hfs : fs.length * 16 ≤ 140737488355328) : CloneAns W (.slice (some a) fs.length C) fs := by
  intro w hw
  obtain ⟨i1, hi1, hz1, hs1, hb1⟩ := info_parts infoPw
  have hok : ∀ f ∈ fs, f.ok := fun f hf => by
    obtain ⟨j, hj, rfl⟩ := List.getElem_of_mem hf
    obtain ⟨_, _, _, _, _, _, k⟩ := hP.get j _ (List.getElem?_eq_getElem hj)
    exact k
  have hnews : ∀ j u, (pcells fs)[j]? = some u → (w.alloc (.cells #[] 33)).cell? (a.add j) = some u := by
    intro j u hu
    obtain ⟨f, hf, hc⟩ := pcells_at fs j u hu
    obtain ⟨b, o, ha, hb, c0, c1, _⟩ := hP.get (j / 2) f hf
    cases ha
    have hBW := bb hw (below_alloc w (.cells #[] 33))
    rw [Addr.add_lit]
    rcases hc with ⟨h, rfl⟩ | ⟨h, rfl⟩
    · rw [show o + j = o + j / 2 * 2 by omega]; exact keep_cell hBW hb c0
    · rw [show o + j = o + j / 2 * 2 + 1 by omega]; exact keep_cell hBW hb c1
  have hone : ∀ u ∈ pcells fs, u.oneCell' = true := by
    intro u hu
    obtain ⟨j, hj, rfl⟩ := List.getElem_of_mem hu
    obtain ⟨f, _, hc⟩ := pcells_at fs j _ (List.getElem?_eq_getElem hj)
    rcases hc with ⟨_, h⟩ | ⟨_, h⟩ <;> rw [h] <;> rfl
  have hO := World.ownsRow_made (base := w.heap.size) (e := 33) (size := 2) w #[] 0 (Nat.le_refl _) (by unfold maxLen; omega) rfl
  obtain ⟨L, hL⟩ : ∃ L, fs.length = L := ⟨_, rfl⟩
  have HL : Hid (fs.length = L) := hL
  have hpl : (pcells fs).length = L * 2 := by rw [pcells_len, hL]
  rw [hL] at hfs ⊢
  clear hL
  have hq : ∀ (w : World) (a : Option Addr) (n c : Nat), (binOp .eql 28 (.slice a n c) (.slice none 0 0)).run Try.prog w = .ok (.bool a.isNone) w := fun w a n c => by simp only [binOp]; simp [Op.equal, Op.maxDepth, Lib.run_equalIn_slice_nil w 9999 _ _ a n c 0 0 Try.underlying28]
  go_enter Try.func34, Try.ntmps34
  go_wp2_with (at_builtin; refine Hid.out ?_)
  unfold Hid
  refine (wpList_append_own _ rfl _ _ 28 rfl w.heap.size 33 i1 _ 2 16 Try.underlying28 hi1 hz1 hs1 hb1 rfl (by omega) _ 0 _ rfl hO a L C (pcells fs) rfl hpl hnews hone (by unfold maxLen; omega) (by omega) (by simp) ?_)
  intro v' w2 hO3 hG _
  have hB2 : Below w.heap.size w w2 := (below_alloc w (.cells #[] 33)).grown hG (by simp) (fun n hn => (hO.lt n hn).1)
  have hPr : PRow w2 w.heap.size v' fs.length fs := by
    rw [HL.out]
    refine ⟨pcells fs, by rw [Nat.zero_add, List.nil_append] at hO3; exact hO3, fun i f _ hf => pcells_get fs i f hf⟩
  obtain ⟨A', C', hv, hP'⟩ := hPr.to hok
  rw [HL.out] at hv
  subst hv
  have HB : Hid (∀ b o, A' = some ⟨b, o, none⟩ → w.heap.size ≤ b) := fun b o hA => (hO3.lt b (by rw [hA]; rfl)).1
  have HP : Hid (PowsAt w2 A' C' fs) := hP'
  clear hO3 hG hO hnews hone hPr hP'
  go_wp2
  go_ret
  exact ⟨A', C', rfl, HP.out, HB.out, hB2⟩
theorem clone_any (W : World) (A : Option Addr) (C : Nat) (fs : List Pw) (hP : PowsAt W A C fs) (hfs : fs.length * 16 ≤ 140737488355328) : CloneAns W (.slice A fs.length C) fs := by
  cases A with
  | none => exact clone_nil W 0 C fs hP
  | some a => exact clone_some W a C fs hP hfs
end Go.Proofs.Ytafmmkhegkceiaa

/-
  The contracts of slices.Clone at factors, of IndexFunc with Claim's literal, of Claim.
-/
import Derived.Test.YtpjfapibjihbbaaGreatDoorF4
namespace Go.Proofs.YtpjfapibjihbbaaGreatDoor
set_option linter.unusedVariables false
open Go.RowKit

/-! ### Claim's literal -/
theorem claim_lit (W : World) (p g q : Int) (s : Value) (b : Nat) (hc : W.cell? ⟨b, 0, none⟩ = some (.int .u64 q)) (hb : b < W.heap.size) (hs : ∃ A n C, s = .slice A n C) :
    AnsB W 59 #[.agg #[.int .u64 p, .int .u64 g, s], .pointer (some ⟨b, 0, none⟩)] (.bool (p == q)) := by
  obtain ⟨A, n, C, rfl⟩ := hs
  intro w hw
  obtain ⟨k1, k2⟩ := bcell hw
  have k := k1 b 0 hb
  rw [hc] at k
  clear k1 k2
  have hne : w.heap.size ≠ b := by have := hw.size; omega
  have hbw : b < w.heap.size := by have := hw.size; omega
  go_enter Tryz.func59, Tryz.ntmps59
  go_wp2
  go_ret
  exact ⟨rfl, below_alloc _ _⟩

set_option maxHeartbeats 1000000 in
/-- IndexFunc at entries, with proof.Claim$1. -/
theorem indexE_claim (W : World) (A : Option Addr) (C : Nat) (es : List En) (hE : EntsAt W A C es) (q : Nat) (bq : Nat) (hc : W.cell? ⟨bq, 0, none⟩ = some (.int .u64 (q : Int))) (hbq : bq < W.heap.size) :
    AnsB W 58 #[.slice A es.length C, .func (.func 59) #[] #[.pointer (some ⟨bq, 0, none⟩)]] (idxV (es.findIdx? fun x => x.p == q)) := by
  intro w hw
  have hlen : (es.length : Int) ≤ 9223372036854775807 := by have := hE.cap; have := hE.max; unfold maxLen at this; omega
  obtain ⟨L, hL⟩ : ∃ L, es.length = L := ⟨_, rfl⟩
  rw [hL] at hlen
  have HL : Hid (es.length = L) := hL
  rw [hL]
  clear hL
  go_enter Tryz.func58, Tryz.ntmps58
  go_wp2
  go_loopw [8] (fun v wr => ∃ k : Nat, v = .int .i64 k ∧ k ≤ L ∧ Hid (∀ j y, j < k → es[j]? = some y → (y.p == q) = false) ∧ Below w.heap.size w wr) (fun v _ => L - (intOf v).toNat)
  case atStart => exact ⟨0, rfl, by omega, fun j y hj => absurd hj (by omega), Below.refl _ _⟩
  case round =>
    obtain ⟨k, rfl, hk, HI, hB⟩ := hrel
    by_cases hlt : k < L
    · have hlt' : k < es.length := by rw [HL.out]; exact hlt
      obtain ⟨x, hx⟩ : ∃ x, es[k]? = some x := ⟨_, List.getElem?_eq_getElem hlt'⟩
      obtain ⟨b, o, A', C', rfl, hb, c0, c1, c2, hP, hp, hg⟩ := hE.get k x hx
      obtain ⟨f1, f2⟩ := bcell (hw.trans (hB.mono hw.size))
      have c0' := (f1 b (o + k * 3) hb).trans c0
      have c1' := (f1 b (o + k * 3 + 1) hb).trans c1
      have c2' := (f1 b (o + k * 3 + 2) hb).trans c2
      have HX : Hid (es[k]? = some x) := hx
      have HC := claim_lit W x.p x.g q (.slice A' x.fs.length C') bq hc hbq ⟨_, _, _, rfl⟩
      have hBW := hw.trans (hB.mono hw.size)
      obtain ⟨p, hp'⟩ : ∃ p : Int, (x.p : Int) = p := ⟨_, rfl⟩
      obtain ⟨g, hg'⟩ : ∃ g : Int, (x.g : Int) = g := ⟨_, rfl⟩
      obtain ⟨fl, hfl⟩ : ∃ fl : Nat, x.fs.length = fl := ⟨_, rfl⟩
      rw [hp'] at c0' HC
      rw [hg'] at c1' HC
      rw [hfl] at c2' HC
      by_cases ht : x.p = q
      · have hpq : (p == (q : Int)) = true := by rw [← hp', ht]; simp
        rw [hpq] at HC
        have HE : Hid (idxV (es.findIdx? fun x => x.p == q) = .int .i64 (k : Int)) := by
          unfold Hid; rw [found (t := fun x : En => x.p == q) hx (by simp [ht]) HI.out]; rfl
        clear c0 c1 c2 f1 f2 hp' hg' hfl hx HI ht hP hpq
        go_wp2_with (go_at_call 59; with_reducible refine AnsB.use HC hBW fun w2 hb2 => ?_)
        go_ret
        exact ⟨congrArg Ending.returned HE.out.symm, hB.trans (hb2.mono hB.size)⟩
      · have hpq : (p == (q : Int)) = false := by rw [← hp']; simp; omega
        rw [hpq] at HC
        have HS : Hid (∀ j y, j < k + 1 → es[j]? = some y → (y.p == q) = false) := by
          intro j y hj hy
          by_cases h : j < k
          · exact HI.out j y h hy
          · obtain rfl : j = k := by omega
            rw [hx] at hy; cases hy; simp [ht]
        clear c0 c1 c2 f1 f2 hp' hg' hfl hx HI ht hP hpq
        go_wp2_with (go_at_call 59; with_reducible refine AnsB.use HC hBW fun w2 hb2 => ?_)
        go_roundw
        case rel => exact ⟨k + 1, by go_num, by omega, HS, hB.trans (hb2.mono hB.size)⟩
        case measure => simp [intOf]; omega
    · obtain rfl : k = L := by omega
      have HE : Hid (idxV (es.findIdx? fun x => x.p == q) = .int .i64 (-1)) := by
        unfold Hid; rw [found_none (t := fun x : En => x.p == q) (by rw [HL.out]; exact HI.out)]; rfl
      clear HI
      go_wp2
      go_ret
      exact ⟨congrArg Ending.returned HE.out.symm, hB⟩


/-! ### Clone -/
def CloneAns (W : World) (v : Value) (fs : List Pw) : Prop := ∀ w, Below W.heap.size W w → Calls Tryz.prog 60 #[v] w fun e w' => ∃ A' C', e = .returned (.slice A' fs.length C') ∧ PowsAt w' A' C' fs ∧ (∀ b o, A' = some ⟨b, o, none⟩ → w.heap.size ≤ b) ∧ Below w.heap.size w w'
theorem CloneAns.use {W : World} {v : Value} {fs : List Pw} (h : CloneAns W v fs) {w : World} (hw : Below W.heap.size W w) {R : Ending → World → Prop} (k : ∀ A' C' w', PowsAt w' A' C' fs → (∀ b o, A' = some ⟨b, o, none⟩ → w.heap.size ≤ b) → Below w.heap.size w w' → R (.returned (.slice A' fs.length C')) w') : Calls Tryz.prog 60 #[v] w R :=
  (h w hw).mono fun _ _ ⟨A', C', he, h1, h2, h3⟩ => by subst he; exact k _ _ _ h1 h2 h3
def pcells (fs : List Pw) : List Value := fs.flatMap fun f => [.int .u64 (f.q : Int), .int .i64 f.e]
theorem pcells_len : ∀ (fs : List Pw), (pcells fs).length = fs.length * 2
  | [] => rfl
  | f :: fs => by
    have := pcells_len fs
    show (_ :: _ :: pcells fs).length = _
    simp only [List.length_cons]; omega
theorem pcells_get : ∀ (fs : List Pw) (i : Nat) (f : Pw), fs[i]? = some f → (pcells fs)[i * 2]? = some (.int .u64 (f.q : Int)) ∧ (pcells fs)[i * 2 + 1]? = some (.int .i64 f.e)
  | [], i, f, h => by simp at h
  | x :: fs, 0, f, h => by cases h; exact ⟨rfl, rfl⟩
  | x :: fs, i + 1, f, h => by
    obtain ⟨a, b⟩ := pcells_get fs i f (by simpa using h)
    have e1 : (i + 1) * 2 = i * 2 + 2 := by omega
    have e2 : (i + 1) * 2 + 1 = i * 2 + 1 + 2 := by omega
    rw [e2, e1]
    exact ⟨a, b⟩
theorem pcells_at : ∀ (fs : List Pw) (j : Nat) (u : Value), (pcells fs)[j]? = some u → ∃ f, fs[j / 2]? = some f ∧ ((j % 2 = 0 ∧ u = .int .u64 (f.q : Int)) ∨ (j % 2 = 1 ∧ u = .int .i64 f.e))
  | [], j, u, h => by simp [pcells] at h
  | x :: fs, 0, u, h => by cases h; exact ⟨x, rfl, Or.inl ⟨rfl, rfl⟩⟩
  | x :: fs, 1, u, h => by cases h; exact ⟨x, rfl, Or.inr ⟨rfl, rfl⟩⟩
  | x :: fs, j + 2, u, h => by
    obtain ⟨f, a, b⟩ := pcells_at fs j u h
    exact ⟨f, by rw [show (j + 2) / 2 = j / 2 + 1 by omega]; simpa using a, by rw [show (j + 2) % 2 = j % 2 by omega]; exact b⟩
theorem clone_nil (W : World) (n C : Nat) (fs : List Pw) (hP : PowsAt W none C fs) : CloneAns W (.slice none fs.length C) fs := by
  have : fs = [] := by
    cases fs with
    | nil => rfl
    | cons f fs => obtain ⟨_, _, h, _⟩ := hP.get 0 f rfl; cases h
  subst this
  intro w hw
  have hq : ∀ (w : World) (a : Option Addr) (n c : Nat), (binOp .eql 76 (.slice a n c) (.slice none 0 0)).run Tryz.prog w = .ok (.bool a.isNone) w := fun w a n c => by simp only [binOp]; simp [Op.equal, Op.maxDepth, Lib.run_equalIn_slice_nil w 9999 _ _ a n c 0 0 Tryz.underlying76]
  go_enter Tryz.func60, Tryz.ntmps60
  go_wp2
  go_ret
  exact ⟨none, 0, rfl, ⟨by simp, by unfold maxLen; omega, fun i f hf => by simp at hf⟩, (fun b o h => by cases h), Below.refl _ _⟩
set_option maxHeartbeats 1000000 in
theorem clone_some (W : World) (a : Addr) (C : Nat) (fs : List Pw) (hP : PowsAt W (some a) C fs) (hfs : fs.length * 16 ≤ 140737488355328) : CloneAns W (.slice (some a) fs.length C) fs := by
  intro w hw
  obtain ⟨i1, hi1, hz1, hs1, hb1⟩ := info_parts infoPw
  have hok : ∀ f ∈ fs, f.ok := fun f hf => by
    obtain ⟨j, hj, rfl⟩ := List.getElem_of_mem hf
    obtain ⟨_, _, _, _, _, _, k⟩ := hP.get j _ (List.getElem?_eq_getElem hj)
    exact k
  have hnews : ∀ j u, (pcells fs)[j]? = some u → (w.alloc (.cells #[] 93)).cell? (a.add j) = some u := by
    intro j u hu
    obtain ⟨f, hf, hc⟩ := pcells_at fs j u hu
    obtain ⟨b, o, ha, hb, c0, c1, _⟩ := hP.get (j / 2) f hf
    cases ha
    have hBW := bb hw (below_alloc w (.cells #[] 93))
    rw [Addr.add_lit]
    rcases hc with ⟨h, rfl⟩ | ⟨h, rfl⟩
    · rw [show o + j = o + j / 2 * 2 by omega]; exact keep_cell hBW hb c0
    · rw [show o + j = o + j / 2 * 2 + 1 by omega]; exact keep_cell hBW hb c1
  have hone : ∀ u ∈ pcells fs, u.oneCell' = true := by
    intro u hu
    obtain ⟨j, hj, rfl⟩ := List.getElem_of_mem hu
    obtain ⟨f, _, hc⟩ := pcells_at fs j _ (List.getElem?_eq_getElem hj)
    rcases hc with ⟨_, h⟩ | ⟨_, h⟩ <;> rw [h] <;> rfl
  have hO := World.ownsRow_made (base := w.heap.size) (e := 93) (size := 2) w #[] 0 (Nat.le_refl _) (by unfold maxLen; omega) rfl
  obtain ⟨L, hL⟩ : ∃ L, fs.length = L := ⟨_, rfl⟩
  have HL : Hid (fs.length = L) := hL
  have hpl : (pcells fs).length = L * 2 := by rw [pcells_len, hL]
  rw [hL] at hfs ⊢
  clear hL
  have hq : ∀ (w : World) (a : Option Addr) (n c : Nat), (binOp .eql 76 (.slice a n c) (.slice none 0 0)).run Tryz.prog w = .ok (.bool a.isNone) w := fun w a n c => by simp only [binOp]; simp [Op.equal, Op.maxDepth, Lib.run_equalIn_slice_nil w 9999 _ _ a n c 0 0 Tryz.underlying76]
  go_enter Tryz.func60, Tryz.ntmps60
  go_wp2_with (at_builtin; refine Hid.out ?_)
  unfold Hid
  refine (wpList_append_own _ rfl _ _ 76 rfl w.heap.size 93 i1 _ 2 16 Tryz.underlying76 hi1 hz1 hs1 hb1 rfl (by omega) _ 0 _ rfl hO a L C (pcells fs) rfl hpl hnews hone (by unfold maxLen; omega) (by omega) (by simp) ?_)
  intro v' w2 hO3 hG _
  have hB2 : Below w.heap.size w w2 := (below_alloc w (.cells #[] 93)).grown hG (by simp) (fun n hn => (hO.lt n hn).1)
  have hPr : PRow w2 w.heap.size v' fs.length fs := by
    rw [HL.out]
    refine ⟨pcells fs, by rw [Nat.zero_add, List.nil_append] at hO3; exact hO3, fun i f _ hf => pcells_get fs i f hf⟩
  obtain ⟨A', C', hv, hP'⟩ := hPr.to hok
  rw [HL.out] at hv
  subst hv
  have HB : Hid (∀ b o, A' = some ⟨b, o, none⟩ → w.heap.size ≤ b) := fun b o hA => (hO3.lt b (by rw [hA]; rfl)).1
  have HP : Hid (PowsAt w2 A' C' fs) := hP'
  clear hO3 hG hO hnews hone hPr hP'
  go_wp2
  go_ret
  exact ⟨A', C', rfl, HP.out, HB.out, hB2⟩
theorem clone_any (W : World) (A : Option Addr) (C : Nat) (fs : List Pw) (hP : PowsAt W A C fs) (hfs : fs.length * 16 ≤ 140737488355328) : CloneAns W (.slice A fs.length C) fs := by
  cases A with
  | none => exact clone_nil W 0 C fs hP
  | some a => exact clone_some W a C fs hP hfs
end Go.Proofs.YtpjfapibjihbbaaGreatDoor
/-
  The contract of Claim.
-/
namespace Go.Proofs.YtpjfapibjihbbaaGreatDoor
set_option linter.unusedVariables false
open Go.RowKit

theorem frozen_new (w : World) (c : Array Value) (t : TypeId) (o : Nat) : (w.alloc (.cells c t)).frozen? ⟨w.heap.size, o, none⟩ = false := by
  rw [frozen?_alloc_cells]; simp [World.frozen?]
theorem keep_frozen {w w' : World} (hb : Below w.heap.size w w') {b o : Nat} (hl : b < w.heap.size) (h : w.frozen? ⟨b, o, none⟩ = false) : w'.frozen? ⟨b, o, none⟩ = false := by
  rw [(bcell hb).2 b o hl]; exact h
def noEntry : Value := .agg #[.int .u64 0, .int .u64 0, .slice none 0 0]
theorem PowsAt.set {w : World} {A : Option Addr} {C : Nat} {fs : List Pw} (h : PowsAt w A C fs) (p : Addr) (v : Value) (hn : ∀ b o, A = some ⟨b, o, none⟩ → b ≠ p.block) : PowsAt (w.setCell p v) A C fs := by
  refine ⟨h.cap, h.max, fun i f hf => ?_⟩
  obtain ⟨b, o, hA, hl, c0, c1, k⟩ := h.get i f hf
  have hb := hn b o hA
  refine ⟨b, o, hA, by simpa [World.setCell] using hl, ?_, ?_, k⟩
  · rw [World.cell?_of_block (w := w) (a := ⟨b, o + i * 2, none⟩) (Below.heap_setCell w p v b hb)]; exact c0
  · rw [World.cell?_of_block (w := w) (a := ⟨b, o + i * 2 + 1, none⟩) (Below.heap_setCell w p v b hb)]; exact c1
theorem claim_world (w : World) (q a b c : Value) : ∃ V, ((w.alloc (.cells #[q] 22)).alloc (.cells #[a, b, c] 78)) = V ∧ Below w.heap.size w V ∧ w.heap.size + 1 < V.heap.size ∧
    V.cell? ⟨w.heap.size, 0, none⟩ = some q ∧ V.cell? ⟨w.heap.size + 1, 0, none⟩ = some a ∧ V.cell? ⟨w.heap.size + 1, 1, none⟩ = some b ∧ V.cell? ⟨w.heap.size + 1, 2, none⟩ = some c ∧ V.frozen? ⟨w.heap.size + 1, 0, none⟩ = false ∧ V.frozen? ⟨w.heap.size + 1, 1, none⟩ = false ∧ V.frozen? ⟨w.heap.size + 1, 2, none⟩ = false := by
  have hs : (w.alloc (.cells #[q] 22)).heap.size = w.heap.size + 1 := by simp
  obtain ⟨a0, a1, a2⟩ := three_cells (w.alloc (.cells #[q] 22)) a b c 78
  have z := frozen_new (w.alloc (.cells #[q] 22)) #[a, b, c] 78
  rw [hs] at a0 a1 a2 z
  refine ⟨_, rfl, bb (below_alloc _ _) (below_alloc _ _), by simp, ?_, a0, a1, a2, z 0, z 1, z 2⟩
  rw [World.cell?_alloc_past _ _ _ (by simp)]; exact cell_new _ _ _

set_option maxHeartbeats 1000000 in
/-- There is none: the row isn't right, or no entry has that P. -/
theorem claim_no (W : World) (s : Value) (q i e : Int) (HC : AnsB W 40 #[s] (.tuple #[.int .i64 i, .int .i64 e]))
    (h : (e != 0) = true ∨ (e = 0 ∧ ∀ w b, Below W.heap.size W w → b < w.heap.size → w.cell? ⟨b, 0, none⟩ = some (.int .u64 q) → AnsB w 58 #[s, .func (.func 59) #[] #[.pointer (some ⟨b, 0, none⟩)]] (.int .i64 (-1)))) :
    AnsB W 41 #[s, .int .u64 q] (.tuple #[noEntry, .bool false]) := by
  intro w hw
  obtain ⟨V, hV, hBV, hs, v0, v1, v2, v3, f1, f2, f3⟩ := claim_world w (.int .u64 q) (.int .u64 0) (.int .u64 0) (.slice none 0 0)
  have hWV := bb hw hBV
  rcases h with h | ⟨rfl, h⟩
  · go_enter Tryz.func41, Tryz.ntmps41
    go_wp2_with (go_at_call 40; with_reducible refine AnsB.use HC hWV fun w1 hb1 => ?_; have y1 := keep_cell hb1 hs v1; have y2 := keep_cell hb1 hs v2; have y3 := keep_cell hb1 hs v3; have x1 := keep_frozen hb1 hs f1; have x2 := keep_frozen hb1 hs f2; have x3 := keep_frozen hb1 hs f3)
    exact bodyPost_ret (v := .tuple #[.agg #[.int .u64 0, .int .u64 0, .slice none 0 0], .bool false]) (by simp [results, Tryz.results41, go_sem, y1, y2, y3]) rfl ⟨rfl, (((bb hBV hb1).setCell (by simp) _).setCell (by simp) _).setCell (by simp) _⟩
  · go_enter Tryz.func41, Tryz.ntmps41
    go_wp2_with (first | (go_at_call 40; with_reducible refine AnsB.use HC hWV fun w1 hb1 => ?_; have HI := h w1 _ (bb hWV hb1) (by have := hb1.size; omega) (keep_cell hb1 (by omega) v0)) | (go_at_call 58; with_reducible refine AnsB.use HI (Below.refl _ _) fun w2 hb2 => ?_; have hB2 := bb hb1 hb2; have y1 := keep_cell hB2 hs v1; have y2 := keep_cell hB2 hs v2; have y3 := keep_cell hB2 hs v3; have x1 := keep_frozen hB2 hs f1; have x2 := keep_frozen hB2 hs f2; have x3 := keep_frozen hB2 hs f3))
    exact bodyPost_ret (v := .tuple #[.agg #[.int .u64 0, .int .u64 0, .slice none 0 0], .bool false]) (by simp [results, Tryz.results41, go_sem, y1, y2, y3]) rfl ⟨rfl, (((bb hBV hB2).setCell (by simp) _).setCell (by simp) _).setCell (by simp) _⟩
set_option maxHeartbeats 1000000 in
theorem claim_yes (W : World) (b o L C k : Nat) (q p g : Int) (A' : Option Addr) (fs : List Pw) (C' : Nat) (hk : (k : Int) < L) (hL : (L : Int) ≤ 9223372036854775807) (hb : b < W.heap.size)
    (c0 : W.cell? ⟨b, o + k * 3, none⟩ = some (.int .u64 p)) (c1 : W.cell? ⟨b, o + k * 3 + 1, none⟩ = some (.int .u64 g)) (c2 : W.cell? ⟨b, o + k * 3 + 2, none⟩ = some (.slice A' fs.length C'))
    (HC : AnsB W 40 #[.slice (some ⟨b, o, none⟩) L C] (.tuple #[.int .i64 0, .int .i64 0]))
    (h : ∀ w b2, Below W.heap.size W w → b2 < w.heap.size → w.cell? ⟨b2, 0, none⟩ = some (.int .u64 q) → AnsB w 58 #[.slice (some ⟨b, o, none⟩) L C, .func (.func 59) #[] #[.pointer (some ⟨b2, 0, none⟩)]] (.int .i64 (k : Int)))
    (HK : CloneAns W (.slice A' fs.length C') fs) (w : World) (hw : Below W.heap.size W w) :
    Calls Tryz.prog 41 #[.slice (some ⟨b, o, none⟩) L C, .int .u64 q] w fun e w' => ∃ A2 C2, e = .returned (.tuple #[.agg #[.int .u64 p, .int .u64 g, .slice A2 fs.length C2], .bool true]) ∧ PowsAt w' A2 C2 fs ∧ Below w.heap.size w w' := by
  obtain ⟨V, hV, hBV, hs, v0, v1, v2, v3, f1, f2, f3⟩ := claim_world w (.int .u64 q) (.int .u64 0) (.int .u64 0) (.slice none 0 0)
  have hWV := bb hw hBV
  obtain ⟨fl, hfl⟩ : ∃ fl, fs.length = fl := ⟨_, rfl⟩
  have HF : Hid (fs.length = fl) := hfl
  have HK' : ∀ w, Below W.heap.size W w → ∀ {R : Ending → World → Prop}, (∀ A2 C2 w', PowsAt w' A2 C2 fs → (∀ b o, A2 = some ⟨b, o, none⟩ → w.heap.size ≤ b) → Below w.heap.size w w' → R (.returned (.slice A2 fl C2)) w') → Calls Tryz.prog 60 #[.slice A' fl C'] w R := by
    intro w1 hw1 R kk
    have := CloneAns.use HK hw1 (R := R) (fun A2 C2 w' hP h0 hb => by rw [hfl]; exact kk A2 C2 w' hP h0 hb)
    rw [hfl] at this; exact this
  rw [hfl] at c2 ⊢
  clear hfl HK
  go_enter Tryz.func41, Tryz.ntmps41
  go_wp2_with (first | (go_at_call 40; with_reducible refine AnsB.use HC hWV fun w1 hb1 => ?_; have HI := h w1 _ (bb hWV hb1) (by have := hb1.size; omega) (keep_cell hb1 (by omega) v0)) | (go_at_call 58; with_reducible refine AnsB.use HI (Below.refl _ _) fun w2 hb2 => ?_; have hB2 := bb hb1 hb2; have y1 := keep_cell hB2 hs v1; have y2 := keep_cell hB2 hs v2; have y3 := keep_cell hB2 hs v3; have x1 := keep_frozen hB2 hs f1; have x2 := keep_frozen hB2 hs f2; have x3 := keep_frozen hB2 hs f3; have e0 := keep_cell (bb hWV hB2) hb c0; have e1 := keep_cell (bb hWV hB2) hb c1; have e2 := keep_cell (bb hWV hB2) hb c2; obtain ⟨g0, g1, g2⟩ := three_cells w2 (.int .u64 p) (.int .u64 g) (.slice A' fl C') 78; have n0 := frozen_new w2 #[.int .u64 p, .int .u64 g, .slice A' fl C'] 78 2; have hsz := (bb hBV hB2).size; have hw2s : w.heap.size + 1 < w2.heap.size := Nat.lt_of_lt_of_le hs hB2.size) | (go_at_call 60; with_reducible refine HK' _ (bb (bb hWV hB2) (below_alloc _ _)) fun A2 C2 w3 hP3 hA2 hb3 => ?_; have m0 := keep_cell hb3 (by simp) g0; have m1 := keep_cell hb3 (by simp) g1; have m2 := keep_cell hb3 (by simp) g2; have o2 := keep_frozen hb3 (by simp) n0; have hb3' := bb (below_alloc w2 (.cells #[.int .u64 p, .int .u64 g, .slice A' fl C'] 78)) hb3; have y1' := keep_cell hb3' hw2s y1; have y2' := keep_cell hb3' hw2s y2; have y3' := keep_cell hb3' hw2s y3; have x1' := keep_frozen hb3' hw2s x1; have x2' := keep_frozen hb3' hw2s x2; have x3' := keep_frozen hb3' hw2s x3; have hne : w2.heap.size ≠ w.heap.size + 1 := by omega))
  have hA3 : ∀ b o, A2 = some ⟨b, o, none⟩ → w2.heap.size + 1 ≤ b := fun b o h => by have := hA2 b o h; simpa using this
  exact bodyPost_ret (v := .tuple #[.agg #[.int .u64 p, .int .u64 g, .slice A2 fl C2], .bool true]) (by simp [results, Tryz.results41, go_sem, y1', y2', y3']) rfl ⟨A2, C2, rfl,
    (((hP3.set _ _ fun b o h => by have := hA3 b o h; show b ≠ w2.heap.size; omega).set _ _ fun b o h => by have := hA3 b o h; show b ≠ w.heap.size + 1; omega).set _ _ fun b o h => by have := hA3 b o h; show b ≠ w.heap.size + 1; omega).set _ _ fun b o h => by have := hA3 b o h; show b ≠ w.heap.size + 1; omega,
    ((((bb (bb hBV hB2) hb3').setCell (by simp; omega) _).setCell (by simp) _).setCell (by simp) _).setCell (by simp) _⟩
end Go.Proofs.YtpjfapibjihbbaaGreatDoor
/-
  A row whose entries are right, one behind the other: each P is a prime, by Lucas' test.
-/
namespace Go.Proofs.YtpjfapibjihbbaaGreatDoor
set_option linter.unusedVariables false

theorem without_prod {n q r : Nat} {e : Int} (h : without n q e = some r) : n = q ^ e.toNat * r := by
  unfold without at h
  split at h
  · cases h
  · split at h
    · next h1 =>
      cases h
      exact (Nat.mul_div_cancel' (Nat.dvd_of_mod_eq_zero h1)).symm
    · cases h
theorem known_prm {es : List En} (hE : ∀ y ∈ es, Prm y.p) {i q : Nat} (h : knownB es i q = true) : Prm q := by
  unfold knownB at h
  split at h
  · have : q = 2 := by simpa using h
    subst this; exact prm_two
  · obtain ⟨y, hy, hq⟩ := List.any_eq_true.1 h
    have : y.p = q := by simpa using hq
    exact this ▸ hE y hy
theorem fac_luc {es : List En} (hE : ∀ y ∈ es, Prm y.p) : ∀ (fs : List Pw) (i left last : Nat), facLoop es i left last fs = true → (∀ f ∈ fs, Prm f.q) ∧ prodOf (fs.map fun f => (f.q, f.e.toNat)) = left
  | [], _, left, _, h => by
    refine ⟨fun f hf => (by cases hf), ?_⟩
    have : left = 1 := by simpa [facLoop] using h
    rw [this]; rfl
  | x :: fs, i, left, last, h => by
    rw [facLoop] at h
    split at h
    · cases h
    · split at h
      · cases h
      · next hk =>
        split at h
        · cases h
        · next r hr =>
          obtain ⟨h1, h2⟩ := fac_luc hE fs _ _ _ h
          have hkn : knownB es i x.q = true := by simpa using hk
          refine ⟨fun f hf => ?_, ?_⟩
          · rcases List.mem_cons.1 hf with rfl | hf
            · exact known_prm hE hkn
            · exact h1 f hf
          · show x.q ^ x.e.toNat * prodOf (fs.map fun f => (f.q, f.e.toNat)) = left
            rw [h2]; exact (without_prod hr).symm
/-- An entry's factors, as Lucas' test has them. -/
def lucL (x : En) : List (Nat × Nat) := x.fs.map fun f => (f.q, f.e.toNat)
theorem right_luc {es : List En} (hE : ∀ y ∈ es, Prm y.p) {x : En} (h : rightB es x = true) : Luc x.p x.g (lucL x) := by
  unfold rightB at h
  simp only [Bool.and_eq_true, decide_eq_true_eq] at h
  obtain ⟨⟨g1, g2, g3⟩, _, hf, hg⟩ := h
  have hf' : facLoop es 0 (x.p - 1) 0 x.fs = true := by
    unfold factoredB at hf
    split at hf
    · cases hf
    · exact hf
  obtain ⟨hp, hprod⟩ := fac_luc hE x.fs 0 _ 0 hf'
  unfold generatesB at hg
  split at hg
  · cases hg
  · split at hg
    · next hone =>
      refine ⟨by omega, fun y hy => ?_, hprod, by simpa [oneAt] using hone, fun y hy => ?_⟩
      · obtain ⟨f, hf, rfl⟩ := List.mem_map.1 hy
        exact hp f hf
      · obtain ⟨f, hf, rfl⟩ := List.mem_map.1 hy
        have : ¬ (x.fs.any fun f => oneAt x ((x.p - 1) / f.q)) = true := by simpa using hg
        intro e
        exact this (List.any_eq_true.2 ⟨f, hf, by simpa [oneAt] using e⟩)
    · cases hg
theorem check_all {es : List En} (h : checkO es = none) : ∀ k, k < es.length → badAt es k = false := by
  intro k hk
  exact List.findIdx?_eq_none_iff.1 h k (List.mem_range.2 hk)
/-- In a row that is right each P is a prime, and G has the order P - 1. -/
theorem row_luc {es : List En} (h : checkO es = none) : ∀ (k : Nat) (x : En), es[k]? = some x → Luc x.p x.g (lucL x) := by
  intro k
  induction k using Nat.strongRecOn with
  | ind k ih =>
    intro x hx
    have hk : k < es.length := (List.getElem?_eq_some_iff.1 hx).1
    have hb := check_all h k hk
    rw [bad_some hx] at hb
    refine right_luc (es := es.take k) (fun y hy => ?_) (by simpa using hb)
    obtain ⟨j, hj, rfl⟩ := List.getElem_of_mem hy
    rw [List.length_take] at hj
    refine (ih j (by omega) _ ?_).prime
    rw [List.getElem_take]
    exact List.getElem?_eq_getElem (by omega)
end Go.Proofs.YtpjfapibjihbbaaGreatDoor
/-
  Fields: what lies in memory for a field; field.New.
-/
namespace Go.Proofs.YtpjfapibjihbbaaGreatDoor
set_option linter.unusedVariables false
open Go.RowKit

theorem Ctx.below {w w' : World} {b m g : Nat} (h : Ctx w b m g) (hb : Below w.heap.size w w') : Ctx w' b m g := by
  have hl : b < w.heap.size := block_lt_of_cell (a := ⟨b, 0, none⟩) h.c0
  exact ⟨h.odd, h.one, h.lt, h.gl, h.gg, keep_cell hb hl h.c0, keep_cell hb hl h.c1, keep_cell hb hl h.c2, keep_cell hb hl h.c3⟩
/-- A field lies there: its context, its prime's entry. -/
structure FieldAt (w : World) (b : Nat) (x : En) : Prop where
  ctx : ∃ c m, w.cell? ⟨b, 0, none⟩ = some (.pointer (some ⟨c, 0, none⟩)) ∧ Ctx w c x.p m
  g : w.cell? ⟨b, 2, none⟩ = some (.int .u64 (x.g : Int))
  fs : ∃ A C, w.cell? ⟨b, 3, none⟩ = some (.slice A x.fs.length C) ∧ PowsAt w A C x.fs
theorem FieldAt.lt {w : World} {b : Nat} {x : En} (h : FieldAt w b x) : b < w.heap.size := block_lt_of_cell (a := ⟨b, 2, none⟩) h.g
theorem FieldAt.below {w w' : World} {b : Nat} {x : En} (h : FieldAt w b x) (hb : Below w.heap.size w w') : FieldAt w' b x := by
  have hl := h.lt
  obtain ⟨c, m, h0, hC⟩ := h.ctx
  obtain ⟨A, C, h3, hP⟩ := h.fs
  exact ⟨⟨c, m, keep_cell hb hl h0, hC.below hb⟩, keep_cell hb hl h.g, ⟨A, C, keep_cell hb hl h3, hP.below hb⟩⟩

theorem four_cells (w : World) (a b c d : Value) (t : TypeId) : (w.alloc (.cells #[a, b, c, d] t)).cell? ⟨w.heap.size, 0, none⟩ = some a ∧ (w.alloc (.cells #[a, b, c, d] t)).cell? ⟨w.heap.size, 1, none⟩ = some b ∧ (w.alloc (.cells #[a, b, c, d] t)).cell? ⟨w.heap.size, 2, none⟩ = some c ∧ (w.alloc (.cells #[a, b, c, d] t)).cell? ⟨w.heap.size, 3, none⟩ = some d := by
  refine ⟨?_, ?_, ?_, ?_⟩ <;> (rw [World.cell?_alloc_at _ _ _ _ rfl]; rfl)
/-! ### Claim -/
def ClaimYes (W : World) (s : Value) (q : Int) (x : En) : Prop := ∀ w, Below W.heap.size W w → Calls Tryz.prog 41 #[s, .int .u64 q] w fun e w' => ∃ A2 C2, e = .returned (.tuple #[.agg #[.int .u64 (x.p : Int), .int .u64 (x.g : Int), .slice A2 x.fs.length C2], .bool true]) ∧ PowsAt w' A2 C2 x.fs ∧ Below w.heap.size w w'
theorem ClaimYes.use {W : World} {s : Value} {q : Int} {x : En} (h : ClaimYes W s q x) {w : World} (hw : Below W.heap.size W w) {R : Ending → World → Prop} (k : ∀ A2 C2 w', PowsAt w' A2 C2 x.fs → Below w.heap.size w w' → R (.returned (.tuple #[.agg #[.int .u64 (x.p : Int), .int .u64 (x.g : Int), .slice A2 x.fs.length C2], .bool true])) w') : Calls Tryz.prog 41 #[s, .int .u64 q] w R :=
  (h w hw).mono fun _ _ ⟨A2, C2, he, h1, h2⟩ => by subst he; exact k A2 C2 _ h1 h2
theorem claim_found (W : World) (A : Option Addr) (C : Nat) (es : List En) (hE : EntsAt W A C es) (ho : checkV es = .tuple #[.int .i64 0, .int .i64 0]) (q k : Nat) (x : En) (hx : es[k]? = some x) (hf : (es.findIdx? fun y => y.p == q) = some k) (hfs : x.fs.length * 16 ≤ 140737488355328) :
    ClaimYes W (.slice A es.length C) (q : Int) x := by
  have HC := check_any W A C es hE
  rw [ho] at HC
  have hcm := hE.max
  have hcl := hE.cap
  unfold maxLen at hcm
  have hk := (List.getElem?_eq_some_iff.1 hx).1
  have HI := fun w' bq (hw' : Below W.heap.size W w') hbq hc => indexE_claim w' A C es (hE.below hw') q bq hc hbq
  rw [hf] at HI
  obtain ⟨b, o, A', C', rfl, hbl, c0, c1, c2, hP, _, _⟩ := hE.get k _ hx
  intro w hw
  exact claim_yes W b o es.length C k (q : Int) (x.p : Int) (x.g : Int) A' x.fs C' (by omega) (by omega) hbl c0 c1 c2 HC (fun w' bq a1 a2 a3 => HI w' bq a1 a2 a3) (clone_any W A' C' x.fs hP hfs) w hw
theorem claim_none (W : World) (A : Option Addr) (C : Nat) (es : List En) (hE : EntsAt W A C es) (ho : checkV es = .tuple #[.int .i64 0, .int .i64 0]) (q : Nat) (hf : (es.findIdx? fun y => y.p == q) = none) :
    AnsB W 41 #[.slice A es.length C, .int .u64 (q : Int)] (.tuple #[noEntry, .bool false]) := by
  have HC := check_any W A C es hE
  rw [ho] at HC
  have HI := fun w' bq (hw' : Below W.heap.size W w') hbq hc => indexE_claim w' A C es (hE.below hw') q bq hc hbq
  rw [hf] at HI
  exact claim_no W _ (q : Int) 0 0 HC (Or.inr ⟨rfl, fun w b h1 h2 h3 => HI w b h1 h2 h3⟩)

/-! ### New -/
def FNew (W : World) (f : FuncId) (args : Array Value) (x : En) : Prop := ∀ w, Below W.heap.size W w → Calls Tryz.prog f args w fun e w' => ∃ b, e = .returned (.tuple #[.pointer (some ⟨b, 0, none⟩), .int .i64 0]) ∧ FieldAt w' b x ∧ Below w.heap.size w w'
theorem FNew.use {W : World} {f : FuncId} {args : Array Value} {x : En} (h : FNew W f args x) {w : World} (hw : Below W.heap.size W w) {R : Ending → World → Prop} (k : ∀ b w', FieldAt w' b x → Below w.heap.size w w' → R (.returned (.tuple #[.pointer (some ⟨b, 0, none⟩), .int .i64 0])) w') : Calls Tryz.prog f args w R :=
  (h w hw).mono fun _ _ ⟨b, he, h1, h2⟩ => by subst he; exact k b _ h1 h2
theorem new_err (W : World) (s : Value) (q i e : Int) (he : (e != 0) = true) (HC : AnsB W 40 #[s] (.tuple #[.int .i64 i, .int .i64 e])) :
    AnsB W 18 #[s, .int .u64 q] (.tuple #[.pointer none, .int .i64 e]) := by
  intro w hw
  go_enter Tryz.func18, Tryz.ntmps18
  go_wp2_with (go_at_call 40; with_reducible refine AnsB.use HC hw fun w1 hb1 => ?_)
  go_ret2
  exact ⟨rfl, hb1⟩
set_option maxHeartbeats 1000000 in
theorem new_none (W : World) (s : Value) (q : Int) (HC : AnsB W 40 #[s] (.tuple #[.int .i64 0, .int .i64 0]))
    (HL : AnsB W 41 #[s, .int .u64 q] (.tuple #[noEntry, .bool false])) :
    AnsB W 18 #[s, .int .u64 q] (.tuple #[.pointer none, .int .i64 14]) := by
  intro w hw
  unfold noEntry at HL
  go_enter Tryz.func18, Tryz.ntmps18
  go_wp2_with (first
    | (go_at_call 40; with_reducible refine AnsB.use HC hw fun w1 hb1 => ?_; have hB1 := bb hw hb1)
    | (go_at_call 41; with_reducible refine AnsB.use HL hB1 fun w2 hb2 => ?_))
  go_ret2
  exact ⟨rfl, bb (bb hb1 hb2) (below_alloc _ _)⟩
set_option maxHeartbeats 1000000 in
theorem new_yes (W : World) (s : Value) (q : Int) (x : En) (hp : Gd x.p) (HC : AnsB W 40 #[s] (.tuple #[.int .i64 0, .int .i64 0]))
    (HL : ClaimYes W s q x) : FNew W 18 #[s, .int .u64 q] x := by
  intro w hw
  have HN := new_b x.p hp
  obtain ⟨fl, hfl⟩ : ∃ fl, x.fs.length = fl := ⟨_, rfl⟩
  have HL' : ∀ w, Below W.heap.size W w → ∀ {R : Ending → World → Prop}, (∀ A2 C2 w', PowsAt w' A2 C2 x.fs → Below w.heap.size w w' → R (.returned (.tuple #[.agg #[.int .u64 (x.p : Int), .int .u64 (x.g : Int), .slice A2 fl C2], .bool true])) w') → Calls Tryz.prog 41 #[s, .int .u64 q] w R := by
    intro w hw R k
    exact ClaimYes.use HL hw (fun A2 C2 w' h1 h2 => by rw [hfl]; exact k A2 C2 w' h1 h2)
  obtain ⟨p, hpe⟩ : ∃ p : Int, (x.p : Int) = p := ⟨_, rfl⟩
  obtain ⟨g, hge⟩ : ∃ g : Int, (x.g : Int) = g := ⟨_, rfl⟩
  have HF : Hid (x.fs.length = fl) := hfl
  have HG : Hid ((x.g : Int) = g) := hge
  rw [hpe] at HL' HN
  rw [hge] at HL'
  clear HL hfl hpe hge hp
  go_enter Tryz.func18, Tryz.ntmps18
  go_wp2_with (first
    | (go_at_call 40; with_reducible refine AnsB.use HC hw fun w1 hb1 => ?_; have hB1 := bb hw hb1)
    | (go_at_call 41; with_reducible refine HL' _ hB1 fun A2 C2 w2 hP2 hb2 => ?_; obtain ⟨t0, t1, t2⟩ := three_cells w2 (.int .u64 p) (.int .u64 g) (.slice A2 fl C2) 78)
    | (go_at_call 42; with_reducible refine NewB.use HN _ fun c m w3 hC hb3 => ?_; have u0 := keep_cell hb3 (by simp) t0; have u1 := keep_cell hb3 (by simp) t1; have u2 := keep_cell hb3 (by simp) t2))
  go_ret2
  obtain ⟨v0, v1, v2, v3⟩ := four_cells w3 (.pointer (some ⟨c, 0, none⟩)) (.int .u64 p) (.int .u64 g) (.slice A2 fl C2) 90
  have ha : Below w3.heap.size w3 (w3.alloc (.cells #[.pointer (some ⟨c, 0, none⟩), .int .u64 p, .int .u64 g, .slice A2 fl C2] 90)) := below_alloc _ _
  have hb23 := bb (below_alloc w2 (.cells #[.int .u64 p, .int .u64 g, .slice A2 fl C2] 78)) hb3
  exact ⟨w3.heap.size, rfl, ⟨⟨c, m, v0, hC.below ha⟩, by rw [HG.out]; exact v2, ⟨A2, C2, by rw [HF.out]; exact v3, hP2.below (bb hb23 ha)⟩⟩, bb (bb hb1 hb2) (bb hb23 ha)⟩
end Go.Proofs.YtpjfapibjihbbaaGreatDoor

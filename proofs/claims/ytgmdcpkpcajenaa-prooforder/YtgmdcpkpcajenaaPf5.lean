/-
  The contract of proof's right.
-/
import Derived.Test.YtgmdcpkpcajenaaPf4
namespace Go.Proofs.Ytgmdcpkpcajenaa
set_option linter.unusedVariables false
open Go.RowKit

/-- A new context: a place where it lies; all that was there is as it was. -/
def NewB (x : Int) (m : Nat) : Prop := ∀ w, Calls Try.prog 25 #[.int .u64 x] w fun e w' => ∃ b g, e = .returned (.tuple #[.pointer (some ⟨b, 0, none⟩), .int .i64 0]) ∧ Ctx w' b m g ∧ Below w.heap.size w w'
theorem NewB.use {x : Int} {m : Nat} (h : NewB x m) (w : World) {R : Ending → World → Prop} (k : ∀ (b g : Nat) (W : World), Ctx W b m g → Below w.heap.size w W → R (.returned (.tuple #[.pointer (some ⟨b, 0, none⟩), .int .i64 0])) W) : Calls Try.prog 25 #[.int .u64 x] w R :=
  (h w).mono fun _ _ ⟨b, g, he, hc, hg⟩ => by subst he; exact k b g _ hc hg
theorem new_b (m : Nat) (h : Gd m) : NewB m m := by
  intro w
  obtain ⟨h1, h2, h3⟩ := h
  obtain ⟨g, hg, hgg, HG⟩ := against_any m (by omega) h1
  have HO := doubled_any 1 m 64 (by omega) h3 (by omega)
  rw [Nat.one_mul, show (2 : Nat) ^ 64 = 18446744073709551616 by decide] at HO
  have hol := Nat.mod_lt 18446744073709551616 (show 0 < m by omega)
  have HS := doubled_any (18446744073709551616 % m) m 64 hol h3 (by omega)
  rw [show (2 : Nat) ^ 64 = 18446744073709551616 by decide, Nat.mod_mul_mod] at HS
  refine (new_walk w m g _ _ (by omega) (by simp; omega) (by omega) HO HG HS).mono ?_
  rintro e w' ⟨rfl, n, rfl⟩
  obtain ⟨k0, k1, k2, k3⟩ := alloc4 w n (.int .u64 m) (.int .u64 g) (.int .u64 ((18446744073709551616 % m : Nat) : Int)) (.int .u64 ((18446744073709551616 * 18446744073709551616 % m : Nat) : Int)) 65
  exact ⟨w.heap.size, g, rfl, ⟨h1, h2, h3, hg, hgg, k0, k1, k2, k3⟩, bb (below_drewN _ _) (below_alloc _ _)⟩

/-- Is a number greater than the P right ahead? -/
def climbsB (es : List En) (p : Nat) : Bool := match es.getLast? with
  | none => true
  | some y => decide (y.p < p)
theorem climbs_any (W : World) (A : Option Addr) (C : Nat) (es : List En) (hE : EntsAt W A C es) (p : Nat) : AnsB W 26 #[.slice A es.length C, .int .u64 (p : Int)] (.bool (climbsB es p)) := by
  cases hl : es.length with
  | zero =>
    have : es = [] := List.eq_nil_of_length_eq_zero hl
    subst this
    exact climbs0 W A C p
  | succ n =>
    obtain ⟨y, hy⟩ : ∃ y, es[n]? = some y := ⟨_, List.getElem?_eq_getElem (by omega)⟩
    obtain ⟨b, o, A', C', rfl, hb, c0, _⟩ := hE.get n y hy
    have hm := hE.max
    have hc := hE.cap
    unfold maxLen at hm
    refine AnsB.to (climbs1 W b o (n + 1) n C p y.p (by simp; omega) (by omega) (by omega) (by omega) c0 hb) ?_
    have : es.getLast? = some y := by rw [List.getLast?_eq_getElem?, hl]; exact hy
    unfold climbsB; rw [this]
    congr 1
    rw [Bool.eq_iff_iff]; simp

set_option maxHeartbeats 1000000 in
theorem right_bad (W : World) (s : Value) (p g : Int) (f : Value) (hf : ∃ A n C, f = .slice A n C) (HN : Ans 25 #[.int .u64 p] (.tuple #[.pointer none, .int .i64 1])) :
    AnsB W 19 #[s, .agg #[.int .u64 p, .int .u64 g, f]] (.bool false) := by
  obtain ⟨A, n, C, rfl⟩ := hf
  intro w hw
  go_enter Try.func19, Try.ntmps19
  go_wp2_with (go_at_call 25; with_reducible refine Ans.use HN _ fun n1 => ?_)
  go_ret
  exact ⟨rfl, bb (below_alloc _ _) (below_drewN _ _)⟩
set_option maxHeartbeats 1000000 in
theorem right_walk (W : World) (s : Value) (p g : Int) (m : Nat) (A : Option Addr) (n C : Nat) (cb fb gb : Bool) (HN : NewB p m)
    (HC : AnsB W 26 #[s, .int .u64 p] (.bool cb))
    (HF : AnsB W 27 #[s, .agg #[.int .u64 p, .int .u64 g, .slice A n C]] (.bool fb))
    (HG : cb = true → fb = true → ∀ w b k, Below W.heap.size W w → Ctx w b m k → AnsB w 28 #[.pointer (some ⟨b, 0, none⟩), .agg #[.int .u64 p, .int .u64 g, .slice A n C]] (.bool gb)) :
    AnsB W 19 #[s, .agg #[.int .u64 p, .int .u64 g, .slice A n C]] (.bool (cb && (fb && gb))) := by
  intro w hw
  obtain ⟨t0, t1, t2⟩ := three_cells w (.int .u64 p) (.int .u64 g) (.slice A n C) 44
  obtain ⟨V, hV⟩ : ∃ V, w.alloc (.cells #[.int .u64 p, .int .u64 g, .slice A n C] 44) = V := ⟨_, rfl⟩
  have hVs : w.heap.size < V.heap.size := by rw [← hV]; simp
  have hBV : Below w.heap.size w V := hV ▸ below_alloc _ _
  rw [hV] at t0 t1 t2
  cases cb with
  | false =>
    go_enter Try.func19, Try.ntmps19
    go_wp2_with (first | (go_at_call 25; with_reducible refine NewB.use HN _ fun bk gk w1 CX hb1 => ?_; have d0 := keep_cell hb1 hVs t0) | (go_at_call 26; with_reducible refine AnsB.use HC (bb (bb hw hBV) hb1) fun w2 hb2 => ?_))
    go_ret
    exact ⟨rfl, bb (bb hBV hb1) hb2⟩
  | true =>
    cases fb with
    | false =>
      go_enter Try.func19, Try.ntmps19
      go_wp2_with (first | (go_at_call 25; with_reducible refine NewB.use HN _ fun bk gk w1 CX hb1 => ?_; have d0 := keep_cell hb1 hVs t0; have hb1' := bb hBV hb1) | (go_at_call 26; with_reducible refine AnsB.use HC (bb hw hb1') fun w2 hb2 => ?_; have e0 := keep_cell (bb hb1 hb2) hVs t0; have e1 := keep_cell (bb hb1 hb2) hVs t1; have e2 := keep_cell (bb hb1 hb2) hVs t2) | (go_at_call 27; with_reducible refine AnsB.use HF (bb hw (bb hb1' hb2)) fun w3 hb3 => ?_))
      go_ret
      exact ⟨rfl, bb (bb hb1' hb2) hb3⟩
    | true =>
      have HG' := HG rfl rfl
      clear HG
      go_enter Try.func19, Try.ntmps19
      go_wp2_with (first | (go_at_call 25; with_reducible refine NewB.use HN _ fun bk gk w1 CX hb1 => ?_; have d0 := keep_cell hb1 hVs t0; have hb1' := bb hBV hb1; have HG1 := HG' w1 bk gk (bb hw hb1') CX) | (go_at_call 26; with_reducible refine AnsB.use HC (bb hw hb1') fun w2 hb2 => ?_; have e0 := keep_cell (bb hb1 hb2) hVs t0; have e1 := keep_cell (bb hb1 hb2) hVs t1; have e2 := keep_cell (bb hb1 hb2) hVs t2) | (go_at_call 27; with_reducible refine AnsB.use HF (bb hw (bb hb1' hb2)) fun w3 hb3 => ?_; have e3 := keep_cell (bb (bb hb1 hb2) hb3) hVs t0; have e4 := keep_cell (bb (bb hb1 hb2) hb3) hVs t1; have e5 := keep_cell (bb (bb hb1 hb2) hb3) hVs t2) | (go_at_call 28; with_reducible refine AnsB.use HG1 (bb hb2 hb3) fun w4 hb4 => ?_))
      go_ret
      exact ⟨rfl, bb (bb (bb hb1' hb2) hb3) hb4⟩

theorem fac_pos (es : List En) : ∀ (fs : List Pw) (i left last : Nat), facLoop es i left last fs = true → ∀ f ∈ fs, last < f.q
  | [], _, _, _, _, f, hf => by cases hf
  | x :: fs, i, left, last, h, f, hf => by
    rw [facLoop] at h
    split at h
    · cases h
    · next h1 =>
      split at h
      · cases h
      · split at h
        · cases h
        · next r _ =>
          rcases List.mem_cons.1 hf with rfl | hf
          · omega
          · have := fac_pos es fs _ _ _ h f hf; omega

def gdDec (m : Nat) : Decidable (Gd m) := by unfold Gd; infer_instance
/-- An entry is right, behind those that are ahead of it. -/
def rightB (es : List En) (x : En) : Bool := @decide (Gd x.p) (gdDec x.p) && (climbsB es x.p && (factoredB es x && generatesB x))
/-- right. -/
theorem right_any (W : World) (A : Option Addr) (C : Nat) (es : List En) (hE : EntsAt W A C es) (x : En) (A' : Option Addr) (C' : Nat) (hP : PowsAt W A' C' x.fs) (hp : x.p < 18446744073709551616) (hg : x.g < 18446744073709551616) :
    AnsB W 19 #[.slice A es.length C, .agg #[.int .u64 (x.p : Int), .int .u64 (x.g : Int), .slice A' x.fs.length C']] (.bool (rightB es x)) := by
  unfold rightB
  by_cases h : Gd x.p
  · have e : @decide (Gd x.p) (gdDec x.p) = true := @decide_eq_true _ (gdDec x.p) h
    rw [e, Bool.true_and]
    have hp1 : 1 < x.p := h.2.1
    refine right_walk W _ _ _ x.p A' _ C' _ _ _ (new_b x.p h) (climbs_any W A C es hE x.p) (factored_any W A C es hE x A' C' hP (by omega) hp) ?_
    intro _ hfb w b k hw CX
    refine generates_any w b k x CX A' C' (hP.below hw) (fun f hf => ?_) hg
    refine ⟨?_, ?_⟩
    · have := hfb
      unfold factoredB at this
      split at this
      · cases this
      · exact Nat.lt_of_le_of_lt (Nat.zero_le _) (fac_pos es x.fs 0 _ 0 this f hf)
    · obtain ⟨i, hi, rfl⟩ := List.getElem_of_mem hf
      obtain ⟨_, _, _, _, _, _, hok⟩ := hP.get i _ (List.getElem?_eq_getElem hi)
      exact hok.1
  · have e : @decide (Gd x.p) (gdDec x.p) = false := @decide_eq_false _ (gdDec x.p) h
    rw [e, Bool.false_and]
    exact right_bad W _ _ _ _ ⟨_, _, _, rfl⟩ (new_bad x.p hp h)
end Go.Proofs.Ytgmdcpkpcajenaa

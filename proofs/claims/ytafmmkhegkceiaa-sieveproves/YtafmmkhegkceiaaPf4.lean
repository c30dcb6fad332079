/-
  The contract of proof's generates.
-/
import Derived.Test.YtafmmkhegkceiaaPf3
import Derived.Test.YtafmmkhegkceiaaMontC
namespace Go.Proofs.Ytafmmkhegkceiaa
set_option linter.unusedVariables false
open Go.RowKit

theorem ctx_below {w w' : World} {b m g : Nat} (C : Ctx w b m g) (hl : b < w.heap.size) (hb : Below w.heap.size w w') : Ctx w' b m g :=
  ⟨C.odd, C.one, C.lt, C.gl, C.gg, keep_cell hb hl C.c0, keep_cell hb hl C.c1, keep_cell hb hl C.c2, keep_cell hb hl C.c3⟩
theorem block_of_cell {w : World} {b o : Nat} {v : Value} (h : w.cell? ⟨b, o, none⟩ = some v) : b < w.heap.size := block_lt_of_cell (a := ⟨b, o, none⟩) h
theorem up_eq_one (a m : Nat) (h : m % 2 = 1) (h1 : 1 < m) : (up a m = 18446744073709551616 % m) ↔ a % m = 1 := by
  have e : 18446744073709551616 % m = up 1 m := by unfold up; rw [Nat.one_mul]
  rw [e]
  constructor
  · intro hh
    have := congrArg (fun z => dn z m) hh
    simp only [dn_up _ m h h1] at this
    rw [this, Nat.mod_eq_of_lt h1]
  · intro hh
    rw [← up_mod a, hh]

/-- Is a power of G 1? -/
def oneAt (x : En) (e : Nat) : Bool := x.g ^ e % x.p == 1

set_option maxHeartbeats 1000000 in
theorem gen_lit_walk (W : World) (q e gm all d r o : Int) (bx bc bg ba : Nat) (hq : (q == 0) = false) (q0 : 0 < q) (a0 : 0 ≤ all) (a1 : all < 18446744073709551616) (hd : all / q = d) (hd2 : Int.tdiv all q = d) (hq3 : ¬ q = 0) (hd3 : IntKind.u64.wrap d = d) (d0 : 0 ≤ d) (d1 : d < 18446744073709551616)
    (cc : W.cell? ⟨bc, 0, none⟩ = some (.pointer (some ⟨bx, 0, none⟩))) (cg : W.cell? ⟨bg, 0, none⟩ = some (.int .u64 gm)) (ca : W.cell? ⟨ba, 0, none⟩ = some (.int .u64 all))
    (HP : ∀ w, Below W.heap.size W w → AnsW w 57 #[.pointer (some ⟨bx, 0, none⟩), .int .u64 gm, .int .u64 d] (.int .u64 r))
    (HO : ∀ w, Below W.heap.size W w → AnsW w 58 #[.pointer (some ⟨bx, 0, none⟩)] (.int .u64 o)) :
    AnsB W 59 #[.agg #[.int .u64 q, .int .i64 e], .pointer (some ⟨bc, 0, none⟩), .pointer (some ⟨bg, 0, none⟩), .pointer (some ⟨ba, 0, none⟩)] (.bool (r == o)) := by
  intro w hw
  have hB : Below W.heap.size W (w.alloc (.cells #[.int .u64 q, .int .i64 e] 33)) := hw.alloc hw.size _
  have HP' := HP _ hB
  have HO' := HO _ hB
  have cc' := keep_cell hB (block_of_cell cc) cc
  have cg' := keep_cell hB (block_of_cell cg) cg
  have ca' := keep_cell hB (block_of_cell ca) ca
  obtain ⟨t0, t1⟩ := two_cells w (.int .u64 q) (.int .i64 e) 33
  obtain ⟨V, hV⟩ : ∃ V, w.alloc (.cells #[.int .u64 q, .int .i64 e] 33) = V := ⟨_, rfl⟩
  have hBV : Below w.heap.size w V := hV ▸ below_alloc _ _
  rw [hV] at t0 t1 HP' HO' cc' cg' ca'
  clear HP HO cc cg ca
  go_enter Try.func59, Try.ntmps59
  go_wp2
  go_quiet ((first | (go_at_call 57; with_reducible exact AnsW.quiet0 HP') | (go_at_call 58; with_reducible exact AnsW.quiet0 HO')))
  go_wp2
  go_ret
  exact ⟨rfl, bb hBV (below_drewN _ _)⟩

set_option maxHeartbeats 1000000 in
/-- IndexFunc at factors, with the literal of generates. -/
theorem indexP_gen (W : World) (A : Option Addr) (C : Nat) (fs : List Pw) (hP : PowsAt W A C fs) (cap : Array Value) (c0 c1 c2 : Value) (hcap : cap = #[c0, c1, c2]) (t : Pw → Bool)
    (HT : ∀ f ∈ fs, AnsB W 59 #[.agg #[.int .u64 (f.q : Int), .int .i64 f.e], c0, c1, c2] (.bool (t f))) :
    AnsB W 50 #[.slice A fs.length C, .func (.func 59) #[] cap] (idxV (fs.findIdx? t)) := by
  intro w hw
  subst hcap
  have hlen : (fs.length : Int) ≤ 9223372036854775807 := by have := hP.cap; have := hP.max; unfold maxLen at this; omega
  obtain ⟨L, hL⟩ : ∃ L, fs.length = L := ⟨_, rfl⟩
  rw [hL] at hlen
  have HL : Hid (fs.length = L) := hL
  rw [hL]
  clear hL
  go_enter Try.func50, Try.ntmps50
  go_wp2
  go_loopw [8] (fun v wr => ∃ k : Nat, v = .int .i64 k ∧ k ≤ L ∧ Hid (∀ j y, j < k → fs[j]? = some y → t y = false) ∧ Below w.heap.size w wr) (fun v _ => L - (intOf v).toNat)
  case atStart => exact ⟨0, rfl, by omega, fun j y hj => absurd hj (by omega), Below.refl _ _⟩
  case round =>
    obtain ⟨k, rfl, hk, HI, hB⟩ := hrel
    by_cases hlt : k < L
    · have hlt' : k < fs.length := by rw [HL.out]; exact hlt
      obtain ⟨f, hf⟩ : ∃ f, fs[k]? = some f := ⟨_, List.getElem?_eq_getElem hlt'⟩
      obtain ⟨b, o, rfl, hb, d0, d1, hok⟩ := hP.get k f hf
      have hBW : Below W.heap.size W wr := bb hw hB
      have d0' := keep_cell hBW hb d0
      have d1' := keep_cell hBW hb d1
      have HC := HT f (List.mem_of_getElem? hf)
      obtain ⟨q, hq⟩ : ∃ q : Int, (f.q : Int) = q := ⟨_, rfl⟩
      obtain ⟨e, he⟩ : ∃ e : Int, f.e = e := ⟨_, rfl⟩
      rw [hq] at d0' HC
      rw [he] at d1' HC
      cases ht : t f with
      | true =>
        rw [ht] at HC
        have HE : Hid (idxV (fs.findIdx? t) = .int .i64 (k : Int)) := by
          unfold Hid; rw [found hf ht HI.out]; rfl
        clear d0 d1 hq he hf HI ht hlt'
        go_wp2_with (go_at_call 59; with_reducible refine AnsB.use HC hBW fun w2 hb2 => ?_)
        go_ret
        exact ⟨congrArg Ending.returned HE.out.symm, bb hB hb2⟩
      | false =>
        rw [ht] at HC
        have HS : Hid (∀ j y, j < k + 1 → fs[j]? = some y → t y = false) := by
          intro j y hj hy
          by_cases h : j < k
          · exact HI.out j y h hy
          · obtain rfl : j = k := by omega
            rw [hf] at hy; cases hy; exact ht
        clear d0 d1 hq he hf HI ht hlt'
        go_wp2_with (go_at_call 59; with_reducible refine AnsB.use HC hBW fun w2 hb2 => ?_)
        go_roundw
        case rel => exact ⟨k + 1, by go_num, by omega, HS, bb hB hb2⟩
        case measure => simp [intOf]; omega
    · obtain rfl : k = L := by omega
      have HE : Hid (idxV (fs.findIdx? t) = .int .i64 (-1)) := by
        unfold Hid; rw [found_none (by rw [HL.out]; exact HI.out)]; rfl
      clear HI
      go_wp2
      go_ret
      exact ⟨congrArg Ending.returned HE.out.symm, hB⟩
theorem containsP_walk (W : World) (s f : Value) (r : Option Nat) (HI : AnsB W 50 #[s, f] (idxV r)) :
    AnsB W 38 #[s, f] (.bool r.isSome) := by
  intro w hw
  cases r with
  | none =>
    have HI' : AnsB W 50 #[s, f] (.int .i64 (-1)) := HI
    go_enter Try.func38, Try.ntmps38
    go_wp2_with (go_at_call 50; with_reducible refine AnsB.use HI' hw fun w2 hb2 => ?_)
    go_ret
    exact ⟨rfl, hb2⟩
  | some k =>
    have HI' : AnsB W 50 #[s, f] (.int .i64 (k : Int)) := HI
    go_enter Try.func38, Try.ntmps38
    go_wp2_with (go_at_call 50; with_reducible refine AnsB.use HI' hw fun w2 hb2 => ?_)
    go_ret
    exact ⟨by simp, hb2⟩

/-! ### generates -/
theorem gen_low (W : World) (c s : Value) (hs : ∃ A n C, s = .slice A n C) (hc : ∃ a, c = .pointer a) (p g : Int) (h : g < 2) : AnsB W 46 #[c, .agg #[.int .u64 p, .int .u64 g, s]] (.bool false) := by
  obtain ⟨A, n, C, rfl⟩ := hs
  obtain ⟨a, rfl⟩ := hc
  intro w hw
  go_enter Try.func46, Try.ntmps46
  go_wp2
  go_ret
  exact ⟨rfl, bb (below_alloc _ _) (below_alloc _ _)⟩
theorem gen_high (W : World) (c s : Value) (hs : ∃ A n C, s = .slice A n C) (hc : ∃ a, c = .pointer a) (p g : Int) (h2 : 2 ≤ g) (h : p ≤ g) : AnsB W 46 #[c, .agg #[.int .u64 p, .int .u64 g, s]] (.bool false) := by
  obtain ⟨A, n, C, rfl⟩ := hs
  obtain ⟨a, rfl⟩ := hc
  intro w hw
  go_enter Try.func46, Try.ntmps46
  go_wp2
  go_ret
  exact ⟨rfl, bb (below_alloc _ _) (below_alloc _ _)⟩
theorem gen_world (w : World) (c p g s a m : Value) (n : Nat) : ∃ X, (((((w.alloc (.cells #[c] 72)).alloc (.cells #[p, g, s] 45)).alloc (.cells #[a] 26)).drewN n).alloc (.cells #[m] 26)) = X ∧
    X.cell? ⟨w.heap.size, 0, none⟩ = some c ∧ X.cell? ⟨w.heap.size + 1, 2, none⟩ = some s ∧ X.cell? ⟨w.heap.size + 1 + 1, 0, none⟩ = some a ∧ X.cell? ⟨w.heap.size + 1 + 1 + 1, 0, none⟩ = some m ∧ Below w.heap.size w X ∧ X.heap.size = w.heap.size + 1 + 1 + 1 + 1 := by
  refine ⟨_, rfl, ?_, ?_, ?_, ?_, ?_, by simp⟩
  · rw [World.cell?_alloc_past _ _ _ (by simp <;> omega)]; show (((w.alloc (.cells #[c] 72)).alloc (.cells #[p, g, s] 45)).alloc (.cells #[a] 26)).cell? _ = _; rw [World.cell?_alloc_past _ _ _ (by simp <;> omega), World.cell?_alloc_past _ _ _ (by simp <;> omega)]; exact cell_new _ _ _
  · rw [World.cell?_alloc_past _ _ _ (by simp <;> omega)]; show (((w.alloc (.cells #[c] 72)).alloc (.cells #[p, g, s] 45)).alloc (.cells #[a] 26)).cell? _ = _; rw [World.cell?_alloc_past _ _ _ (by simp <;> omega), World.cell?_alloc_at _ _ _ _ (by simp <;> omega)]; rfl
  · rw [World.cell?_alloc_past _ _ _ (by simp <;> omega)]; show (((w.alloc (.cells #[c] 72)).alloc (.cells #[p, g, s] 45)).alloc (.cells #[a] 26)).cell? _ = _; rw [World.cell?_alloc_at _ _ _ _ (by simp <;> omega)]; rfl
  · rw [World.cell?_alloc_at _ _ _ _ (by simp <;> omega)]; rfl
  · exact bb (bb (bb (bb (below_alloc _ _) (below_alloc _ _)) (below_alloc _ _)) (below_drewN _ _)) (below_alloc _ _)

set_option maxHeartbeats 1000000 in
theorem gen_walk0 (W : World) (bx : Nat) (A : Option Addr) (L C : Nat) (p g gm r o : Int) (h2 : 2 ≤ g) (hl : g < p) (hp : p < 18446744073709551616) (hro : (r != o) = true)
    (HI : ∀ w, Below W.heap.size W w → AnsW w 56 #[.pointer (some ⟨bx, 0, none⟩), .int .u64 g] (.int .u64 gm))
    (HP : ∀ w, Below W.heap.size W w → AnsW w 57 #[.pointer (some ⟨bx, 0, none⟩), .int .u64 gm, .int .u64 (p - 1)] (.int .u64 r))
    (HO : ∀ w, Below W.heap.size W w → AnsW w 58 #[.pointer (some ⟨bx, 0, none⟩)] (.int .u64 o)) :
    AnsB W 46 #[.pointer (some ⟨bx, 0, none⟩), .agg #[.int .u64 p, .int .u64 g, .slice A L C]] (.bool false) := by
  intro w hw
  have hw3 : Below W.heap.size W (((w.alloc (.cells #[.pointer (some ⟨bx, 0, none⟩)] 72)).alloc (.cells #[.int .u64 p, .int .u64 g, .slice A L C] 45)).alloc (.cells #[.int .u64 (p - 1)] 26)) := bb (bb (bb hw (below_alloc _ _)) (below_alloc _ _)) (below_alloc _ _)
  have HI' := HI _ hw3
  clear HI hw3
  go_enter Try.func46, Try.ntmps46
  go_wp2_with (go_at_call 56; with_reducible refine AnsW.use0 HI' fun n => ?_)
  obtain ⟨X, hX, k0, k1, k2, k3, kb, ks⟩ := gen_world w (.pointer (some ⟨bx, 0, none⟩)) (.int .u64 p) (.int .u64 g) (.slice A L C) (.int .u64 (p - 1)) (.int .u64 gm) n
  have HP' := HP _ (bb hw kb)
  have HO' := HO _ (bb hw kb)
  rw [hX]
  clear hX HI' HP HO ks
  go_quiet ((first | (go_at_call 57; with_reducible exact AnsW.quiet0 HP') | (go_at_call 58; with_reducible exact AnsW.quiet0 HO')))
  go_wp2
  go_ret
  exact ⟨rfl, bb kb (below_drewN _ _)⟩
set_option maxHeartbeats 1000000 in
theorem gen_walk1 (W : World) (bx : Nat) (A : Option Addr) (L C : Nat) (p g gm r o : Int) (c : Bool) (h2 : 2 ≤ g) (hl : g < p) (hp : p < 18446744073709551616) (hro : (r != o) = false)
    (HI : ∀ w, Below W.heap.size W w → AnsW w 56 #[.pointer (some ⟨bx, 0, none⟩), .int .u64 g] (.int .u64 gm))
    (HP : ∀ w, Below W.heap.size W w → AnsW w 57 #[.pointer (some ⟨bx, 0, none⟩), .int .u64 gm, .int .u64 (p - 1)] (.int .u64 r))
    (HO : ∀ w, Below W.heap.size W w → AnsW w 58 #[.pointer (some ⟨bx, 0, none⟩)] (.int .u64 o))
    (HC : ∀ w bc bg ba, Below W.heap.size W w → w.cell? ⟨bc, 0, none⟩ = some (.pointer (some ⟨bx, 0, none⟩)) → w.cell? ⟨bg, 0, none⟩ = some (.int .u64 gm) → w.cell? ⟨ba, 0, none⟩ = some (.int .u64 (p - 1)) →
      AnsB w 38 #[.slice A L C, .func (.func 59) #[] #[.pointer (some ⟨bc, 0, none⟩), .pointer (some ⟨bg, 0, none⟩), .pointer (some ⟨ba, 0, none⟩)]] (.bool c)) :
    AnsB W 46 #[.pointer (some ⟨bx, 0, none⟩), .agg #[.int .u64 p, .int .u64 g, .slice A L C]] (.bool (!c)) := by
  intro w hw
  have hw3 : Below W.heap.size W (((w.alloc (.cells #[.pointer (some ⟨bx, 0, none⟩)] 72)).alloc (.cells #[.int .u64 p, .int .u64 g, .slice A L C] 45)).alloc (.cells #[.int .u64 (p - 1)] 26)) := bb (bb (bb hw (below_alloc _ _)) (below_alloc _ _)) (below_alloc _ _)
  have HI' := HI _ hw3
  clear HI hw3
  go_enter Try.func46, Try.ntmps46
  go_wp2_with (go_at_call 56; with_reducible refine AnsW.use0 HI' fun n => ?_)
  obtain ⟨X, hX, k0, k1, k2, k3, kb, ks⟩ := gen_world w (.pointer (some ⟨bx, 0, none⟩)) (.int .u64 p) (.int .u64 g) (.slice A L C) (.int .u64 (p - 1)) (.int .u64 gm) n
  have HP' := HP _ (bb hw kb)
  have HO' := HO _ (bb hw kb)
  have HC' := HC X _ _ _ (bb hw kb) k0 k3 k2
  rw [hX]
  clear hX HI' HP HO HC ks
  go_quiet ((first | (go_at_call 57; with_reducible exact AnsW.quiet0 HP') | (go_at_call 58; with_reducible exact AnsW.quiet0 HO')))
  go_wp2_with (go_at_call 38; with_reducible refine AnsB.use HC' (below_drewN _ _) fun w2 hb2 => ?_)
  go_ret
  exact ⟨rfl, bb (bb kb (below_drewN _ _)) hb2⟩

/-- What is asked of G. -/
def generatesB (x : En) : Bool := if x.g < 2 ∨ x.p ≤ x.g then false else if oneAt x (x.p - 1) then !(x.fs.any fun f => oneAt x ((x.p - 1) / f.q)) else false
/-- generates. -/
theorem generates_any (W : World) (bx m0 : Nat) (x : En) (CX : Ctx W bx x.p m0) (A : Option Addr) (C : Nat) (hP : PowsAt W A C x.fs) (hq : ∀ f ∈ x.fs, 0 < f.q ∧ f.q < 18446744073709551616) (hg : x.g < 18446744073709551616) :
    AnsB W 46 #[.pointer (some ⟨bx, 0, none⟩), .agg #[.int .u64 (x.p : Int), .int .u64 (x.g : Int), .slice A x.fs.length C]] (.bool (generatesB x)) := by
  have h1 := CX.one
  have h2 := CX.lt
  have hodd := CX.odd
  have hbx := block_of_cell CX.c0
  unfold generatesB
  by_cases hlow : x.g < 2
  · rw [if_pos (Or.inl hlow)]; exact gen_low W _ _ ⟨_, _, _, rfl⟩ ⟨_, rfl⟩ _ _ (by omega)
  · by_cases hhigh : x.p ≤ x.g
    · rw [if_pos (Or.inr hhigh)]; exact gen_high W _ _ ⟨_, _, _, rfl⟩ ⟨_, rfl⟩ _ _ (by omega) (by omega)
    · rw [if_neg (by omega)]
      have hup := up_lt x.g x.p (by omega)
      have key : ∀ e, (up (dn (up x.g x.p) x.p ^ e) x.p = 18446744073709551616 % x.p) ↔ oneAt x e = true := by
        intro e
        rw [up_eq_one _ _ hodd h1, dn_up _ _ hodd h1, ← Nat.pow_mod]
        unfold oneAt; simp
      have HI : ∀ w, Below W.heap.size W w → AnsW w 56 #[.pointer (some ⟨bx, 0, none⟩), .int .u64 (x.g : Int)] (.int .u64 ((up x.g x.p : Nat) : Int)) := fun w hw => in_any (ctx_below CX hbx hw) x.g hg
      have HP : ∀ (e : Nat), e < 18446744073709551616 → ∀ w, Below W.heap.size W w → AnsW w 57 #[.pointer (some ⟨bx, 0, none⟩), .int .u64 ((up x.g x.p : Nat) : Int), .int .u64 (e : Int)] (.int .u64 ((up (dn (up x.g x.p) x.p ^ e) x.p : Nat) : Int)) := fun e he w hw => mpow_any (ctx_below CX hbx hw) _ e (by omega) he
      have HO : ∀ w, Below W.heap.size W w → AnsW w 58 #[.pointer (some ⟨bx, 0, none⟩)] (.int .u64 ((18446744073709551616 % x.p : Nat) : Int)) := fun w hw => one_walk w bx _ (ctx_below CX hbx hw).c2
      have e1 : (x.p : Int) - 1 = ((x.p - 1 : Nat) : Int) := by omega
      have HP1 := HP (x.p - 1) (by omega)
      rw [← e1] at HP1
      by_cases hone : oneAt x (x.p - 1) = true
      · rw [if_pos hone]
        refine gen_walk1 W bx A _ C _ _ _ _ _ _ (by omega) (by omega) (by omega) ?_ HI HP1 HO ?_
        · rw [(key _).2 hone]; simp
        · intro w bc bg ba hw kc kg ka
          refine AnsB.to (containsP_walk w _ _ _ (indexP_gen w A C x.fs (hP.below hw) _ _ _ _ rfl (fun f => oneAt x ((x.p - 1) / f.q)) fun f hf => ?_)) (by rw [List.findIdx?_isSome])
          obtain ⟨q0, q1⟩ := hq f hf
          obtain ⟨d, hd⟩ : ∃ d, (x.p - 1) / f.q = d := ⟨_, rfl⟩
          have hdl : d ≤ x.p - 1 := hd ▸ Nat.div_le_self _ _
          have ed : ((x.p : Int) - 1) / (f.q : Int) = (d : Int) := by rw [e1, ← hd]; simp
          refine AnsB.to (gen_lit_walk w f.q f.e _ ((x.p : Int) - 1) (d : Int) _ _ bx bc bg ba (by simp; omega) (by omega) (by omega) (by omega) ed (by rw [Int.tdiv_eq_ediv_of_nonneg (by omega), ed]) (by omega) (wrap_small _ (by omega) (by omega)) (by omega) (by omega) kc kg ka
            (fun w' hw' => HP d (by omega) w' (bb hw hw')) (fun w' hw' => HO w' (bb hw hw'))) ?_
          show Value.bool _ = Value.bool (oneAt x ((x.p - 1) / f.q))
          congr 1
          rw [hd, Bool.eq_iff_iff, ← key]; simp only [beq_iff_eq]; omega
      · rw [if_neg hone]
        refine gen_walk0 W bx A _ C _ _ _ _ _ (by omega) (by omega) (by omega) ?_ HI HP1 HO
        have : ¬ up (dn (up x.g x.p) x.p ^ (x.p - 1)) x.p = 18446744073709551616 % x.p := fun h => hone ((key _).1 h)
        simp only [bne_iff_ne]; omega
end Go.Proofs.Ytafmmkhegkceiaa

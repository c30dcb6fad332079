/-
  The contract of proof's generates.
-/
import Derived.Test.YtpjfapibjihbbaaGreatDoorF2
import Derived.Test.YtpjfapibjihbbaaGreatDoorF3
import Derived.Test.YtpjfapibjihbbaaGreatDoorF1
import Derived.OwnWalk
namespace Go.Proofs.YtpjfapibjihbbaaGreatDoor
set_option linter.unusedVariables false
open Go.RowKit

theorem ctx_below {w w' : World} {b m g : Nat} (C : Ctx w b m g) (hl : b < w.heap.size) (hb : Below w.heap.size w w') : Ctx w' b m g :=
  ⟨C.odd, C.one, C.lt, C.gl, C.gg, keep_cell hb hl C.c0, keep_cell hb hl C.c1, keep_cell hb hl C.c2, keep_cell hb hl C.c3⟩
theorem block_of_cell {w : World} {b o : Nat} {v : Value} (h : w.cell? ⟨b, o, none⟩ = some v) : b < w.heap.size := block_lt_of_cell (a := ⟨b, o, none⟩) h
theorem up_eq_one (a m : Nat) (h : m % 2 = 1) (h1 : 1 < m) : (up a m = 18446744073709551616 % m) ↔ a % m = 1 := by
  have e : 18446744073709551616 % m = up 1 m := by unfold up; rw [Nat.one_mul]
  rw [e]
  constructor
  · intro hh
    have := congrArg (fun z => dn z m) hh
    simp only [dn_up _ m h h1] at this
    rw [this, Nat.mod_eq_of_lt h1]
  · intro hh
    rw [← up_mod a, hh]

/-- Is a power of G 1? -/
def oneAt (x : En) (e : Nat) : Bool := x.g ^ e % x.p == 1

set_option maxHeartbeats 1000000 in
theorem gen_lit_walk (W : World) (q e gm all d r o : Int) (bx bc bg ba : Nat) (hq : (q == 0) = false) (q0 : 0 < q) (a0 : 0 ≤ all) (a1 : all < 18446744073709551616) (hd : all / q = d) (hd2 : Int.tdiv all q = d) (hq3 : ¬ q = 0) (hd3 : IntKind.u64.wrap d = d) (d0 : 0 ≤ d) (d1 : d < 18446744073709551616)
    (cc : W.cell? ⟨bc, 0, none⟩ = some (.pointer (some ⟨bx, 0, none⟩))) (cg : W.cell? ⟨bg, 0, none⟩ = some (.int .u64 gm)) (ca : W.cell? ⟨ba, 0, none⟩ = some (.int .u64 all))
    (HP : ∀ w, Below W.heap.size W w → AnsW w 96 #[.pointer (some ⟨bx, 0, none⟩), .int .u64 gm, .int .u64 d] (.int .u64 r))
    (HO : ∀ w, Below W.heap.size W w → AnsW w 97 #[.pointer (some ⟨bx, 0, none⟩)] (.int .u64 o)) :
    AnsB W 99 #[.agg #[.int .u64 q, .int .i64 e], .pointer (some ⟨bc, 0, none⟩), .pointer (some ⟨bg, 0, none⟩), .pointer (some ⟨ba, 0, none⟩)] (.bool (r == o)) := by
  intro w hw
  have hB : Below W.heap.size W (w.alloc (.cells #[.int .u64 q, .int .i64 e] 93)) := hw.alloc hw.size _
  have HP' := HP _ hB
  have HO' := HO _ hB
  have cc' := keep_cell hB (block_of_cell cc) cc
  have cg' := keep_cell hB (block_of_cell cg) cg
  have ca' := keep_cell hB (block_of_cell ca) ca
  obtain ⟨t0, t1⟩ := two_cells w (.int .u64 q) (.int .i64 e) 93
  obtain ⟨V, hV⟩ : ∃ V, w.alloc (.cells #[.int .u64 q, .int .i64 e] 93) = V := ⟨_, rfl⟩
  have hBV : Below w.heap.size w V := hV ▸ below_alloc _ _
  rw [hV] at t0 t1 HP' HO' cc' cg' ca'
  clear HP HO cc cg ca
  go_enter Tryz.func99, Tryz.ntmps99
  go_wp2
  go_quiet ((first | (go_at_call 96; with_reducible exact AnsW.quiet0 HP') | (go_at_call 97; with_reducible exact AnsW.quiet0 HO')))
  go_wp2
  go_ret
  exact ⟨rfl, bb hBV (below_drewN _ _)⟩

set_option maxHeartbeats 1000000 in
/-- IndexFunc at factors, with the literal of generates. -/
theorem indexP_gen (W : World) (A : Option Addr) (C : Nat) (fs : List Pw) (hP : PowsAt W A C fs) (cap : Array Value) (c0 c1 c2 : Value) (hcap : cap = #[c0, c1, c2]) (t : Pw → Bool)
    (HT : ∀ f ∈ fs, AnsB W 99 #[.agg #[.int .u64 (f.q : Int), .int .i64 f.e], c0, c1, c2] (.bool (t f))) :
    AnsB W 130 #[.slice A fs.length C, .func (.func 99) #[] cap] (idxV (fs.findIdx? t)) := by
  intro w hw
  subst hcap
  have hlen : (fs.length : Int) ≤ 9223372036854775807 := by have := hP.cap; have := hP.max; unfold maxLen at this; omega
  obtain ⟨L, hL⟩ : ∃ L, fs.length = L := ⟨_, rfl⟩
  rw [hL] at hlen
  have HL : Hid (fs.length = L) := hL
  rw [hL]
  clear hL
  go_enter Tryz.func130, Tryz.ntmps130
  go_wp2
  go_loopw [8] (fun v wr => ∃ k : Nat, v = .int .i64 k ∧ k ≤ L ∧ Hid (∀ j y, j < k → fs[j]? = some y → t y = false) ∧ Below w.heap.size w wr) (fun v _ => L - (intOf v).toNat)
  case atStart => exact ⟨0, rfl, by omega, fun j y hj => absurd hj (by omega), Below.refl _ _⟩
  case round =>
    obtain ⟨k, rfl, hk, HI, hB⟩ := hrel
    by_cases hlt : k < L
    · have hlt' : k < fs.length := by rw [HL.out]; exact hlt
      obtain ⟨f, hf⟩ : ∃ f, fs[k]? = some f := ⟨_, List.getElem?_eq_getElem hlt'⟩
      obtain ⟨b, o, rfl, hb, d0, d1, hok⟩ := hP.get k f hf
      have hBW : Below W.heap.size W wr := bb hw hB
      have d0' := keep_cell hBW hb d0
      have d1' := keep_cell hBW hb d1
      have HC := HT f (List.mem_of_getElem? hf)
      obtain ⟨q, hq⟩ : ∃ q : Int, (f.q : Int) = q := ⟨_, rfl⟩
      obtain ⟨e, he⟩ : ∃ e : Int, f.e = e := ⟨_, rfl⟩
      rw [hq] at d0' HC
      rw [he] at d1' HC
      cases ht : t f with
      | true =>
        rw [ht] at HC
        have HE : Hid (idxV (fs.findIdx? t) = .int .i64 (k : Int)) := by
          unfold Hid; rw [found hf ht HI.out]; rfl
        clear d0 d1 hq he hf HI ht hlt'
        go_wp2_with (go_at_call 99; with_reducible refine AnsB.use HC hBW fun w2 hb2 => ?_)
        go_ret
        exact ⟨congrArg Ending.returned HE.out.symm, bb hB hb2⟩
      | false =>
        rw [ht] at HC
        have HS : Hid (∀ j y, j < k + 1 → fs[j]? = some y → t y = false) := by
          intro j y hj hy
          by_cases h : j < k
          · exact HI.out j y h hy
          · obtain rfl : j = k := by omega
            rw [hf] at hy; cases hy; exact ht
        clear d0 d1 hq he hf HI ht hlt'
        go_wp2_with (go_at_call 99; with_reducible refine AnsB.use HC hBW fun w2 hb2 => ?_)
        go_roundw
        case rel => exact ⟨k + 1, by go_num, by omega, HS, bb hB hb2⟩
        case measure => simp [intOf]; omega
    · obtain rfl : k = L := by omega
      have HE : Hid (idxV (fs.findIdx? t) = .int .i64 (-1)) := by
        unfold Hid; rw [found_none (by rw [HL.out]; exact HI.out)]; rfl
      clear HI
      go_wp2
      go_ret
      exact ⟨congrArg Ending.returned HE.out.symm, hB⟩
theorem containsP_walk (W : World) (s f : Value) (r : Option Nat) (HI : AnsB W 130 #[s, f] (idxV r)) :
    AnsB W 98 #[s, f] (.bool r.isSome) := by
  intro w hw
  cases r with
  | none =>
    have HI' : AnsB W 130 #[s, f] (.int .i64 (-1)) := HI
    go_enter Tryz.func98, Tryz.ntmps98
    go_wp2_with (go_at_call 130; with_reducible refine AnsB.use HI' hw fun w2 hb2 => ?_)
    go_ret
    exact ⟨rfl, hb2⟩
  | some k =>
    have HI' : AnsB W 130 #[s, f] (.int .i64 (k : Int)) := HI
    go_enter Tryz.func98, Tryz.ntmps98
    go_wp2_with (go_at_call 130; with_reducible refine AnsB.use HI' hw fun w2 hb2 => ?_)
    go_ret
    exact ⟨by simp, hb2⟩

/-! ### generates -/
theorem gen_low (W : World) (c s : Value) (hs : ∃ A n C, s = .slice A n C) (hc : ∃ a, c = .pointer a) (p g : Int) (h : g < 2) : AnsB W 78 #[c, .agg #[.int .u64 p, .int .u64 g, s]] (.bool false) := by
  obtain ⟨A, n, C, rfl⟩ := hs
  obtain ⟨a, rfl⟩ := hc
  intro w hw
  go_enter Tryz.func78, Tryz.ntmps78
  go_wp2
  go_ret
  exact ⟨rfl, bb (below_alloc _ _) (below_alloc _ _)⟩
theorem gen_high (W : World) (c s : Value) (hs : ∃ A n C, s = .slice A n C) (hc : ∃ a, c = .pointer a) (p g : Int) (h2 : 2 ≤ g) (h : p ≤ g) : AnsB W 78 #[c, .agg #[.int .u64 p, .int .u64 g, s]] (.bool false) := by
  obtain ⟨A, n, C, rfl⟩ := hs
  obtain ⟨a, rfl⟩ := hc
  intro w hw
  go_enter Tryz.func78, Tryz.ntmps78
  go_wp2
  go_ret
  exact ⟨rfl, bb (below_alloc _ _) (below_alloc _ _)⟩
theorem gen_world (w : World) (c p g s a m : Value) (n : Nat) : ∃ X, (((((w.alloc (.cells #[c] 86)).alloc (.cells #[p, g, s] 78)).alloc (.cells #[a] 22)).drewN n).alloc (.cells #[m] 22)) = X ∧
    X.cell? ⟨w.heap.size, 0, none⟩ = some c ∧ X.cell? ⟨w.heap.size + 1, 2, none⟩ = some s ∧ X.cell? ⟨w.heap.size + 1 + 1, 0, none⟩ = some a ∧ X.cell? ⟨w.heap.size + 1 + 1 + 1, 0, none⟩ = some m ∧ Below w.heap.size w X ∧ X.heap.size = w.heap.size + 1 + 1 + 1 + 1 := by
  refine ⟨_, rfl, ?_, ?_, ?_, ?_, ?_, by simp⟩
  · rw [World.cell?_alloc_past _ _ _ (by simp <;> omega)]; show (((w.alloc (.cells #[c] 86)).alloc (.cells #[p, g, s] 78)).alloc (.cells #[a] 22)).cell? _ = _; rw [World.cell?_alloc_past _ _ _ (by simp <;> omega), World.cell?_alloc_past _ _ _ (by simp <;> omega)]; exact cell_new _ _ _
  · rw [World.cell?_alloc_past _ _ _ (by simp <;> omega)]; show (((w.alloc (.cells #[c] 86)).alloc (.cells #[p, g, s] 78)).alloc (.cells #[a] 22)).cell? _ = _; rw [World.cell?_alloc_past _ _ _ (by simp <;> omega), World.cell?_alloc_at _ _ _ _ (by simp <;> omega)]; rfl
  · rw [World.cell?_alloc_past _ _ _ (by simp <;> omega)]; show (((w.alloc (.cells #[c] 86)).alloc (.cells #[p, g, s] 78)).alloc (.cells #[a] 22)).cell? _ = _; rw [World.cell?_alloc_at _ _ _ _ (by simp <;> omega)]; rfl
  · rw [World.cell?_alloc_at _ _ _ _ (by simp <;> omega)]; rfl
  · exact bb (bb (bb (bb (below_alloc _ _) (below_alloc _ _)) (below_alloc _ _)) (below_drewN _ _)) (below_alloc _ _)

set_option maxHeartbeats 1000000 in
theorem gen_walk0 (W : World) (bx : Nat) (A : Option Addr) (L C : Nat) (p g gm r o : Int) (h2 : 2 ≤ g) (hl : g < p) (hp : p < 18446744073709551616) (hro : (r != o) = true)
    (HI : ∀ w, Below W.heap.size W w → AnsW w 95 #[.pointer (some ⟨bx, 0, none⟩), .int .u64 g] (.int .u64 gm))
    (HP : ∀ w, Below W.heap.size W w → AnsW w 96 #[.pointer (some ⟨bx, 0, none⟩), .int .u64 gm, .int .u64 (p - 1)] (.int .u64 r))
    (HO : ∀ w, Below W.heap.size W w → AnsW w 97 #[.pointer (some ⟨bx, 0, none⟩)] (.int .u64 o)) :
    AnsB W 78 #[.pointer (some ⟨bx, 0, none⟩), .agg #[.int .u64 p, .int .u64 g, .slice A L C]] (.bool false) := by
  intro w hw
  have hw3 : Below W.heap.size W (((w.alloc (.cells #[.pointer (some ⟨bx, 0, none⟩)] 86)).alloc (.cells #[.int .u64 p, .int .u64 g, .slice A L C] 78)).alloc (.cells #[.int .u64 (p - 1)] 22)) := bb (bb (bb hw (below_alloc _ _)) (below_alloc _ _)) (below_alloc _ _)
  have HI' := HI _ hw3
  clear HI hw3
  go_enter Tryz.func78, Tryz.ntmps78
  go_wp2_with (go_at_call 95; with_reducible refine AnsW.use0 HI' fun n => ?_)
  obtain ⟨X, hX, k0, k1, k2, k3, kb, ks⟩ := gen_world w (.pointer (some ⟨bx, 0, none⟩)) (.int .u64 p) (.int .u64 g) (.slice A L C) (.int .u64 (p - 1)) (.int .u64 gm) n
  have HP' := HP _ (bb hw kb)
  have HO' := HO _ (bb hw kb)
  rw [hX]
  clear hX HI' HP HO ks
  go_quiet ((first | (go_at_call 96; with_reducible exact AnsW.quiet0 HP') | (go_at_call 97; with_reducible exact AnsW.quiet0 HO')))
  go_wp2
  go_ret
  exact ⟨rfl, bb kb (below_drewN _ _)⟩
set_option maxHeartbeats 1000000 in
theorem gen_walk1 (W : World) (bx : Nat) (A : Option Addr) (L C : Nat) (p g gm r o : Int) (c : Bool) (h2 : 2 ≤ g) (hl : g < p) (hp : p < 18446744073709551616) (hro : (r != o) = false)
    (HI : ∀ w, Below W.heap.size W w → AnsW w 95 #[.pointer (some ⟨bx, 0, none⟩), .int .u64 g] (.int .u64 gm))
    (HP : ∀ w, Below W.heap.size W w → AnsW w 96 #[.pointer (some ⟨bx, 0, none⟩), .int .u64 gm, .int .u64 (p - 1)] (.int .u64 r))
    (HO : ∀ w, Below W.heap.size W w → AnsW w 97 #[.pointer (some ⟨bx, 0, none⟩)] (.int .u64 o))
    (HC : ∀ w bc bg ba, Below W.heap.size W w → w.cell? ⟨bc, 0, none⟩ = some (.pointer (some ⟨bx, 0, none⟩)) → w.cell? ⟨bg, 0, none⟩ = some (.int .u64 gm) → w.cell? ⟨ba, 0, none⟩ = some (.int .u64 (p - 1)) →
      AnsB w 98 #[.slice A L C, .func (.func 99) #[] #[.pointer (some ⟨bc, 0, none⟩), .pointer (some ⟨bg, 0, none⟩), .pointer (some ⟨ba, 0, none⟩)]] (.bool c)) :
    AnsB W 78 #[.pointer (some ⟨bx, 0, none⟩), .agg #[.int .u64 p, .int .u64 g, .slice A L C]] (.bool (!c)) := by
  intro w hw
  have hw3 : Below W.heap.size W (((w.alloc (.cells #[.pointer (some ⟨bx, 0, none⟩)] 86)).alloc (.cells #[.int .u64 p, .int .u64 g, .slice A L C] 78)).alloc (.cells #[.int .u64 (p - 1)] 22)) := bb (bb (bb hw (below_alloc _ _)) (below_alloc _ _)) (below_alloc _ _)
  have HI' := HI _ hw3
  clear HI hw3
  go_enter Tryz.func78, Tryz.ntmps78
  go_wp2_with (go_at_call 95; with_reducible refine AnsW.use0 HI' fun n => ?_)
  obtain ⟨X, hX, k0, k1, k2, k3, kb, ks⟩ := gen_world w (.pointer (some ⟨bx, 0, none⟩)) (.int .u64 p) (.int .u64 g) (.slice A L C) (.int .u64 (p - 1)) (.int .u64 gm) n
  have HP' := HP _ (bb hw kb)
  have HO' := HO _ (bb hw kb)
  have HC' := HC X _ _ _ (bb hw kb) k0 k3 k2
  rw [hX]
  clear hX HI' HP HO HC ks
  go_quiet ((first | (go_at_call 96; with_reducible exact AnsW.quiet0 HP') | (go_at_call 97; with_reducible exact AnsW.quiet0 HO')))
  go_wp2_with (go_at_call 98; with_reducible refine AnsB.use HC' (below_drewN _ _) fun w2 hb2 => ?_)
  go_ret
  exact ⟨rfl, bb (bb kb (below_drewN _ _)) hb2⟩

/-- What is asked of G. -/
def generatesB (x : En) : Bool := if x.g < 2 ∨ x.p ≤ x.g then false else if oneAt x (x.p - 1) then !(x.fs.any fun f => oneAt x ((x.p - 1) / f.q)) else false
/-- generates. -/
theorem generates_any (W : World) (bx m0 : Nat) (x : En) (CX : Ctx W bx x.p m0) (A : Option Addr) (C : Nat) (hP : PowsAt W A C x.fs) (hq : ∀ f ∈ x.fs, 0 < f.q ∧ f.q < 18446744073709551616) (hg : x.g < 18446744073709551616) :
    AnsB W 78 #[.pointer (some ⟨bx, 0, none⟩), .agg #[.int .u64 (x.p : Int), .int .u64 (x.g : Int), .slice A x.fs.length C]] (.bool (generatesB x)) := by
  have h1 := CX.one
  have h2 := CX.lt
  have hodd := CX.odd
  have hbx := block_of_cell CX.c0
  unfold generatesB
  by_cases hlow : x.g < 2
  · rw [if_pos (Or.inl hlow)]; exact gen_low W _ _ ⟨_, _, _, rfl⟩ ⟨_, rfl⟩ _ _ (by omega)
  · by_cases hhigh : x.p ≤ x.g
    · rw [if_pos (Or.inr hhigh)]; exact gen_high W _ _ ⟨_, _, _, rfl⟩ ⟨_, rfl⟩ _ _ (by omega) (by omega)
    · rw [if_neg (by omega)]
      have hup := up_lt x.g x.p (by omega)
      have key : ∀ e, (up (dn (up x.g x.p) x.p ^ e) x.p = 18446744073709551616 % x.p) ↔ oneAt x e = true := by
        intro e
        rw [up_eq_one _ _ hodd h1, dn_up _ _ hodd h1, ← Nat.pow_mod]
        unfold oneAt; simp
      have HI : ∀ w, Below W.heap.size W w → AnsW w 95 #[.pointer (some ⟨bx, 0, none⟩), .int .u64 (x.g : Int)] (.int .u64 ((up x.g x.p : Nat) : Int)) := fun w hw => in_any (ctx_below CX hbx hw) x.g hg
      have HP : ∀ (e : Nat), e < 18446744073709551616 → ∀ w, Below W.heap.size W w → AnsW w 96 #[.pointer (some ⟨bx, 0, none⟩), .int .u64 ((up x.g x.p : Nat) : Int), .int .u64 (e : Int)] (.int .u64 ((up (dn (up x.g x.p) x.p ^ e) x.p : Nat) : Int)) := fun e he w hw => mpow_any (ctx_below CX hbx hw) _ e (by omega) he
      have HO : ∀ w, Below W.heap.size W w → AnsW w 97 #[.pointer (some ⟨bx, 0, none⟩)] (.int .u64 ((18446744073709551616 % x.p : Nat) : Int)) := fun w hw => one_walk w bx _ (ctx_below CX hbx hw).c2
      have e1 : (x.p : Int) - 1 = ((x.p - 1 : Nat) : Int) := by omega
      have HP1 := HP (x.p - 1) (by omega)
      rw [← e1] at HP1
      by_cases hone : oneAt x (x.p - 1) = true
      · rw [if_pos hone]
        refine gen_walk1 W bx A _ C _ _ _ _ _ _ (by omega) (by omega) (by omega) ?_ HI HP1 HO ?_
        · rw [(key _).2 hone]; simp
        · intro w bc bg ba hw kc kg ka
          refine AnsB.to (containsP_walk w _ _ _ (indexP_gen w A C x.fs (hP.below hw) _ _ _ _ rfl (fun f => oneAt x ((x.p - 1) / f.q)) fun f hf => ?_)) (by rw [List.findIdx?_isSome])
          obtain ⟨q0, q1⟩ := hq f hf
          obtain ⟨d, hd⟩ : ∃ d, (x.p - 1) / f.q = d := ⟨_, rfl⟩
          have hdl : d ≤ x.p - 1 := hd ▸ Nat.div_le_self _ _
          have ed : ((x.p : Int) - 1) / (f.q : Int) = (d : Int) := by rw [e1, ← hd]; simp
          refine AnsB.to (gen_lit_walk w f.q f.e _ ((x.p : Int) - 1) (d : Int) _ _ bx bc bg ba (by simp; omega) (by omega) (by omega) (by omega) ed (by rw [Int.tdiv_eq_ediv_of_nonneg (by omega), ed]) (by omega) (wrap_small _ (by omega) (by omega)) (by omega) (by omega) kc kg ka
            (fun w' hw' => HP d (by omega) w' (bb hw hw')) (fun w' hw' => HO w' (bb hw hw'))) ?_
          show Value.bool _ = Value.bool (oneAt x ((x.p - 1) / f.q))
          congr 1
          rw [hd, Bool.eq_iff_iff, ← key]; simp only [beq_iff_eq]; omega
      · rw [if_neg hone]
        refine gen_walk0 W bx A _ C _ _ _ _ _ (by omega) (by omega) (by omega) ?_ HI HP1 HO
        have : ¬ up (dn (up x.g x.p) x.p ^ (x.p - 1)) x.p = 18446744073709551616 % x.p := fun h => hone ((key _).1 h)
        simp only [bne_iff_ne]; omega
end Go.Proofs.YtpjfapibjihbbaaGreatDoor
/-
  The contract of proof's right.
-/
namespace Go.Proofs.YtpjfapibjihbbaaGreatDoor
set_option linter.unusedVariables false
open Go.RowKit

/-- A new context: a place where it lies; all that was there is as it was. -/
def NewB (x : Int) (m : Nat) : Prop := ∀ w, Calls Tryz.prog 42 #[.int .u64 x] w fun e w' => ∃ b g, e = .returned (.tuple #[.pointer (some ⟨b, 0, none⟩), .int .i64 0]) ∧ Ctx w' b m g ∧ Below w.heap.size w w'
theorem NewB.use {x : Int} {m : Nat} (h : NewB x m) (w : World) {R : Ending → World → Prop} (k : ∀ (b g : Nat) (W : World), Ctx W b m g → Below w.heap.size w W → R (.returned (.tuple #[.pointer (some ⟨b, 0, none⟩), .int .i64 0])) W) : Calls Tryz.prog 42 #[.int .u64 x] w R :=
  (h w).mono fun _ _ ⟨b, g, he, hc, hg⟩ => by subst he; exact k b g _ hc hg
theorem new_b (m : Nat) (h : Gd m) : NewB m m := by
  intro w
  obtain ⟨h1, h2, h3⟩ := h
  obtain ⟨g, hg, hgg, HG⟩ := against_any m (by omega) h1
  have HO := doubled_any 1 m 64 (by omega) h3 (by omega)
  rw [Nat.one_mul, show (2 : Nat) ^ 64 = 18446744073709551616 by decide] at HO
  have hol := Nat.mod_lt 18446744073709551616 (show 0 < m by omega)
  have HS := doubled_any (18446744073709551616 % m) m 64 hol h3 (by omega)
  rw [show (2 : Nat) ^ 64 = 18446744073709551616 by decide, Nat.mod_mul_mod] at HS
  refine (new_walk w m g _ _ (by omega) (by simp; omega) (by omega) HO HG HS).mono ?_
  rintro e w' ⟨rfl, n, rfl⟩
  obtain ⟨k0, k1, k2, k3⟩ := alloc4 w n (.int .u64 m) (.int .u64 g) (.int .u64 ((18446744073709551616 % m : Nat) : Int)) (.int .u64 ((18446744073709551616 * 18446744073709551616 % m : Nat) : Int)) 110
  exact ⟨w.heap.size, g, rfl, ⟨h1, h2, h3, hg, hgg, k0, k1, k2, k3⟩, bb (below_drewN _ _) (below_alloc _ _)⟩

/-- Is a number greater than the P right ahead? -/
def climbsB (es : List En) (p : Nat) : Bool := match es.getLast? with
  | none => true
  | some y => decide (y.p < p)
theorem climbs_any (W : World) (A : Option Addr) (C : Nat) (es : List En) (hE : EntsAt W A C es) (p : Nat) : AnsB W 76 #[.slice A es.length C, .int .u64 (p : Int)] (.bool (climbsB es p)) := by
  cases hl : es.length with
  | zero =>
    have : es = [] := List.eq_nil_of_length_eq_zero hl
    subst this
    exact climbs0 W A C p
  | succ n =>
    obtain ⟨y, hy⟩ : ∃ y, es[n]? = some y := ⟨_, List.getElem?_eq_getElem (by omega)⟩
    obtain ⟨b, o, A', C', rfl, hb, c0, _⟩ := hE.get n y hy
    have hm := hE.max
    have hc := hE.cap
    unfold maxLen at hm
    refine AnsB.to (climbs1 W b o (n + 1) n C p y.p (by simp; omega) (by omega) (by omega) (by omega) c0 hb) ?_
    have : es.getLast? = some y := by rw [List.getLast?_eq_getElem?, hl]; exact hy
    unfold climbsB; rw [this]
    congr 1
    rw [Bool.eq_iff_iff]; simp

set_option maxHeartbeats 1000000 in
theorem right_bad (W : World) (s : Value) (p g : Int) (f : Value) (hf : ∃ A n C, f = .slice A n C) (HN : Ans 42 #[.int .u64 p] (.tuple #[.pointer none, .int .i64 1])) :
    AnsB W 57 #[s, .agg #[.int .u64 p, .int .u64 g, f]] (.bool false) := by
  obtain ⟨A, n, C, rfl⟩ := hf
  intro w hw
  go_enter Tryz.func57, Tryz.ntmps57
  go_wp2_with (go_at_call 42; with_reducible refine Ans.use HN _ fun n1 => ?_)
  go_ret
  exact ⟨rfl, bb (below_alloc _ _) (below_drewN _ _)⟩
set_option maxHeartbeats 1000000 in
theorem right_walk (W : World) (s : Value) (p g : Int) (m : Nat) (A : Option Addr) (n C : Nat) (cb fb gb : Bool) (HN : NewB p m)
    (HC : AnsB W 76 #[s, .int .u64 p] (.bool cb))
    (HF : AnsB W 77 #[s, .agg #[.int .u64 p, .int .u64 g, .slice A n C]] (.bool fb))
    (HG : cb = true → fb = true → ∀ w b k, Below W.heap.size W w → Ctx w b m k → AnsB w 78 #[.pointer (some ⟨b, 0, none⟩), .agg #[.int .u64 p, .int .u64 g, .slice A n C]] (.bool gb)) :
    AnsB W 57 #[s, .agg #[.int .u64 p, .int .u64 g, .slice A n C]] (.bool (cb && (fb && gb))) := by
  intro w hw
  obtain ⟨t0, t1, t2⟩ := three_cells w (.int .u64 p) (.int .u64 g) (.slice A n C) 78
  obtain ⟨V, hV⟩ : ∃ V, w.alloc (.cells #[.int .u64 p, .int .u64 g, .slice A n C] 78) = V := ⟨_, rfl⟩
  have hVs : w.heap.size < V.heap.size := by rw [← hV]; simp
  have hBV : Below w.heap.size w V := hV ▸ below_alloc _ _
  rw [hV] at t0 t1 t2
  cases cb with
  | false =>
    go_enter Tryz.func57, Tryz.ntmps57
    go_wp2_with (first | (go_at_call 42; with_reducible refine NewB.use HN _ fun bk gk w1 CX hb1 => ?_; have d0 := keep_cell hb1 hVs t0) | (go_at_call 76; with_reducible refine AnsB.use HC (bb (bb hw hBV) hb1) fun w2 hb2 => ?_))
    go_ret
    exact ⟨rfl, bb (bb hBV hb1) hb2⟩
  | true =>
    cases fb with
    | false =>
      go_enter Tryz.func57, Tryz.ntmps57
      go_wp2_with (first | (go_at_call 42; with_reducible refine NewB.use HN _ fun bk gk w1 CX hb1 => ?_; have d0 := keep_cell hb1 hVs t0; have hb1' := bb hBV hb1) | (go_at_call 76; with_reducible refine AnsB.use HC (bb hw hb1') fun w2 hb2 => ?_; have e0 := keep_cell (bb hb1 hb2) hVs t0; have e1 := keep_cell (bb hb1 hb2) hVs t1; have e2 := keep_cell (bb hb1 hb2) hVs t2) | (go_at_call 77; with_reducible refine AnsB.use HF (bb hw (bb hb1' hb2)) fun w3 hb3 => ?_))
      go_ret
      exact ⟨rfl, bb (bb hb1' hb2) hb3⟩
    | true =>
      have HG' := HG rfl rfl
      clear HG
      go_enter Tryz.func57, Tryz.ntmps57
      go_wp2_with (first | (go_at_call 42; with_reducible refine NewB.use HN _ fun bk gk w1 CX hb1 => ?_; have d0 := keep_cell hb1 hVs t0; have hb1' := bb hBV hb1; have HG1 := HG' w1 bk gk (bb hw hb1') CX) | (go_at_call 76; with_reducible refine AnsB.use HC (bb hw hb1') fun w2 hb2 => ?_; have e0 := keep_cell (bb hb1 hb2) hVs t0; have e1 := keep_cell (bb hb1 hb2) hVs t1; have e2 := keep_cell (bb hb1 hb2) hVs t2) | (go_at_call 77; with_reducible refine AnsB.use HF (bb hw (bb hb1' hb2)) fun w3 hb3 => ?_; have e3 := keep_cell (bb (bb hb1 hb2) hb3) hVs t0; have e4 := keep_cell (bb (bb hb1 hb2) hb3) hVs t1; have e5 := keep_cell (bb (bb hb1 hb2) hb3) hVs t2) | (go_at_call 78; with_reducible refine AnsB.use HG1 (bb hb2 hb3) fun w4 hb4 => ?_))
      go_ret
      exact ⟨rfl, bb (bb (bb hb1' hb2) hb3) hb4⟩

theorem fac_pos (es : List En) : ∀ (fs : List Pw) (i left last : Nat), facLoop es i left last fs = true → ∀ f ∈ fs, last < f.q
  | [], _, _, _, _, f, hf => by cases hf
  | x :: fs, i, left, last, h, f, hf => by
    rw [facLoop] at h
    split at h
    · cases h
    · next h1 =>
      split at h
      · cases h
      · split at h
        · cases h
        · next r _ =>
          rcases List.mem_cons.1 hf with rfl | hf
          · omega
          · have := fac_pos es fs _ _ _ h f hf; omega

def gdDec (m : Nat) : Decidable (Gd m) := by unfold Gd; infer_instance
/-- An entry is right, behind those that are ahead of it. -/
def rightB (es : List En) (x : En) : Bool := @decide (Gd x.p) (gdDec x.p) && (climbsB es x.p && (factoredB es x && generatesB x))
/-- right. -/
theorem right_any (W : World) (A : Option Addr) (C : Nat) (es : List En) (hE : EntsAt W A C es) (x : En) (A' : Option Addr) (C' : Nat) (hP : PowsAt W A' C' x.fs) (hp : x.p < 18446744073709551616) (hg : x.g < 18446744073709551616) :
    AnsB W 57 #[.slice A es.length C, .agg #[.int .u64 (x.p : Int), .int .u64 (x.g : Int), .slice A' x.fs.length C']] (.bool (rightB es x)) := by
  unfold rightB
  by_cases h : Gd x.p
  · have e : @decide (Gd x.p) (gdDec x.p) = true := @decide_eq_true _ (gdDec x.p) h
    rw [e, Bool.true_and]
    have hp1 : 1 < x.p := h.2.1
    refine right_walk W _ _ _ x.p A' _ C' _ _ _ (new_b x.p h) (climbs_any W A C es hE x.p) (factored_any W A C es hE x A' C' hP (by omega) hp) ?_
    intro _ hfb w b k hw CX
    refine generates_any w b k x CX A' C' (hP.below hw) (fun f hf => ?_) hg
    refine ⟨?_, ?_⟩
    · have := hfb
      unfold factoredB at this
      split at this
      · cases this
      · exact Nat.lt_of_le_of_lt (Nat.zero_le _) (fac_pos es x.fs 0 _ 0 this f hf)
    · obtain ⟨i, hi, rfl⟩ := List.getElem_of_mem hf
      obtain ⟨_, _, _, _, _, _, hok⟩ := hP.get i _ (List.getElem?_eq_getElem hi)
      exact hok.1
  · have e : @decide (Gd x.p) (gdDec x.p) = false := @decide_eq_false _ (gdDec x.p) h
    rw [e, Bool.false_and]
    exact right_bad W _ _ _ _ ⟨_, _, _, rfl⟩ (new_bad x.p hp h)
end Go.Proofs.YtpjfapibjihbbaaGreatDoor
/-
  The contract of proof.Check.
-/
namespace Go.Proofs.YtpjfapibjihbbaaGreatDoor
set_option linter.unusedVariables false
open Go.RowKit

/-- Is the k-th entry not right? -/
def badAt (es : List En) (k : Nat) : Bool := match es[k]? with
  | some x => !rightB (es.take k) x
  | none => false
/-- The first entry that isn't right. -/
def checkO (es : List En) : Option Nat := (List.range es.length).findIdx? (badAt es)
def checkV (es : List En) : Value := if 32 < es.length then .tuple #[.int .i64 0, .int .i64 13] else match checkO es with
  | none => .tuple #[.int .i64 0, .int .i64 0]
  | some k => .tuple #[.int .i64 (k : Int), .int .i64 3]
theorem range_get {L k : Nat} (h : k < L) : (List.range L)[k]? = some k := by rw [List.getElem?_range h]
theorem check_found {es : List En} {k : Nat} (hk : k < es.length) (hb : badAt es k = true) (ha : ∀ j, j < k → badAt es j = false) : checkO es = some k :=
  found (range_get hk) hb fun j y hj hy => by
    rw [range_get (by omega)] at hy; cases hy; exact ha j hj
theorem check_none {es : List En} (ha : ∀ j, j < es.length → badAt es j = false) : checkO es = none :=
  found_none fun j y hj hy => by
    rw [List.length_range] at hj
    rw [range_get hj] at hy; cases hy; exact ha j hj
theorem bad_some {es : List En} {k : Nat} {x : En} (h : es[k]? = some x) : badAt es k = !rightB (es.take k) x := by unfold badAt; rw [h]

set_option maxHeartbeats 2000000 in
theorem check_walk (W : World) (A : Option Addr) (C : Nat) (es : List En) (hE : EntsAt W A C es) (h32 : ¬ 32 < es.length) :
    AnsB W 40 #[.slice A es.length C] (checkV es) := by
  intro w hw
  have hcl := hE.cap
  have hcm := hE.max
  unfold maxLen at hcm
  obtain ⟨L, hL⟩ : ∃ L, es.length = L := ⟨_, rfl⟩
  have HL : Hid (es.length = L) := hL
  have HV : Hid (checkV es = match checkO es with
    | none => .tuple #[.int .i64 0, .int .i64 0]
    | some k => .tuple #[.int .i64 (k : Int), .int .i64 3]) := by unfold Hid checkV; rw [if_neg h32]
  rw [hL] at h32 hcl ⊢
  clear hL
  go_enter Tryz.func40, Tryz.ntmps40
  go_wp2
  go_loopw [11] (fun v wr => ∃ k : Nat, v = .int .i64 k ∧ k ≤ L ∧ Hid (∀ j, j < k → badAt es j = false) ∧ Below w.heap.size w wr) (fun v _ => L - (intOf v).toNat)
  case atStart => exact ⟨0, rfl, by omega, fun j hj => absurd hj (by omega), Below.refl _ _⟩
  case round =>
    obtain ⟨k, rfl, hk, HI, hB⟩ := hrel
    by_cases hlt : k < L
    · have hlt' : k < es.length := by rw [HL.out]; exact hlt
      obtain ⟨x, hx⟩ : ∃ x, es[k]? = some x := ⟨_, List.getElem?_eq_getElem hlt'⟩
      obtain ⟨b, o, A', C', rfl, hb, c0, c1, c2, hP, hp, hg⟩ := hE.get k x hx
      have hBW : Below W.heap.size W wr := bb hw hB
      have c0' := keep_cell hBW hb c0
      have c1' := keep_cell hBW hb c1
      have c2' := keep_cell hBW hb c2
      have HR := right_any W (some ⟨b, o, none⟩) C (es.take k) (hE.take k) x A' C' hP hp hg
      rw [List.length_take, show min k es.length = k by omega] at HR
      obtain ⟨p, hp'⟩ : ∃ p : Int, (x.p : Int) = p := ⟨_, rfl⟩
      obtain ⟨g, hg'⟩ : ∃ g : Int, (x.g : Int) = g := ⟨_, rfl⟩
      obtain ⟨fl, hfl⟩ : ∃ fl : Nat, x.fs.length = fl := ⟨_, rfl⟩
      rw [hp'] at c0' HR
      rw [hg'] at c1' HR
      rw [hfl] at c2' HR
      obtain ⟨t0, t1, t2⟩ := three_cells wr (.int .u64 p) (.int .u64 g) (.slice A' fl C') 78
      obtain ⟨V, hV⟩ : ∃ V, wr.alloc (.cells #[.int .u64 p, .int .u64 g, .slice A' fl C'] 78) = V := ⟨_, rfl⟩
      have hVs : wr.heap.size < V.heap.size := by rw [← hV]; simp
      have hBV : Below wr.heap.size wr V := hV ▸ below_alloc _ _
      rw [hV] at t0 t1 t2
      have hBWV : Below W.heap.size W V := bb hBW hBV
      have k0 := cell_regrown t0
      have k1 := cell_regrown t1
      have k2 := cell_regrown t2
      have hbad := bad_some hx
      clear c0 c1 c2 hp' hg' hfl hx hP hlt'
      cases hr : rightB (es.take k) x with
      | true =>
        rw [hr] at HR hbad
        have HS : Hid (∀ j, j < k + 1 → badAt es j = false) := by
          intro j hj
          by_cases h : j < k
          · exact HI.out j h
          · obtain rfl : j = k := by omega
            exact hbad
        clear HI hr hbad
        go_wp2
        refine wp_region_quiet_below (by kernel_rfl) (by kernel_rfl) ?_
        repeat (go_big_quiet_step ((exact AnsB.regrown HR hBWV)))
        refine wpQuiet_nil ?_
        intro _ hw'
        obtain ⟨⟨dq, osq⟩, hw''⟩ := hw'
        subst hw''
        go_wp2
        go_roundw
        case rel => exact ⟨k + 1, by go_num, by omega, HS, bb (bb hB hBV) (below_regrown V dq osq)⟩
        case measure => simp [intOf]; omega
      | false =>
        rw [hr] at HR hbad
        have HE : Hid (checkV es = .tuple #[.int .i64 (k : Int), .int .i64 3]) := by
          unfold Hid; rw [HV.out, check_found (by rw [HL.out]; exact hlt) hbad HI.out]
        clear HI hr hbad
        go_wp2
        refine wp_region_quiet_below (by kernel_rfl) (by kernel_rfl) ?_
        repeat (go_big_quiet_step ((exact AnsB.regrown HR hBWV)))
        refine wpQuiet_nil ?_
        intro _ hw'
        obtain ⟨⟨dq, osq⟩, hw''⟩ := hw'
        subst hw''
        go_wp2
        go_ret2
        exact ⟨congrArg Ending.returned HE.out.symm, bb (bb hB hBV) (below_regrown V dq osq)⟩
    · obtain rfl : k = L := by omega
      have HE : Hid (checkV es = .tuple #[.int .i64 0, .int .i64 0]) := by
        unfold Hid; rw [HV.out, check_none (by rw [HL.out]; exact HI.out)]
      clear HI
      go_wp2
      go_ret2
      exact ⟨congrArg Ending.returned HE.out.symm, hB⟩
theorem check_long (W : World) (A : Option Addr) (L C : Nat) (h32 : 32 < L) (hm : (L : Int) ≤ 9223372036854775807) : AnsB W 40 #[.slice A L C] (.tuple #[.int .i64 0, .int .i64 13]) := by
  intro w hw
  go_enter Tryz.func40, Tryz.ntmps40
  go_wp2
  go_ret2
  exact ⟨rfl, Below.refl _ _⟩
/-- Check. -/
theorem check_any (W : World) (A : Option Addr) (C : Nat) (es : List En) (hE : EntsAt W A C es) : AnsB W 40 #[.slice A es.length C] (checkV es) := by
  by_cases h : 32 < es.length
  · have hcl := hE.cap
    have hcm := hE.max
    unfold maxLen at hcm
    unfold checkV
    rw [if_pos h]
    exact check_long W A _ C h (by omega)
  · exact check_walk W A C es hE h
end Go.Proofs.YtpjfapibjihbbaaGreatDoor
/-
  Rows that a call makes by append: of factors, of entries; what they hold, and that they read as rows.
-/
namespace Go.Proofs.YtpjfapibjihbbaaGreatDoor
set_option linter.unusedVariables false
open Go.RowKit

theorem infoPw : (Tryz.prog.info? 93).map (fun i => (i.zero, i.size, i.bytes)) = some (some (.agg #[.int .u64 0, .int .i64 0]), 2, 16) := by kernel_rfl
theorem infoEn : (Tryz.prog.info? 78).map (fun i => (i.zero, i.size, i.bytes)) = some (some (.agg #[.int .u64 0, .int .u64 0, .slice none 0 0]), 3, 40) := by kernel_rfl

theorem owns_below {w w' : World} {base B : Nat} {e : TypeId} {size : Nat} {v : Value} {n : Nat} {xs : List Value} (h : w.ownsRow base e size v n xs) (hb : Below B w w') (hB : w.heap.size ≤ B) : w'.ownsRow base e size v n xs := by
  refine ⟨h.1, ?_⟩
  rcases h.2 with hn | ⟨g, cap, cur, rfl, hbg, hgg, rest⟩
  · exact .inl hn
  · refine .inr ⟨g, cap, cur, rfl, hbg, ?_, rest⟩
    rw [hb.block g (Nat.lt_of_lt_of_le (Array.getElem?_eq_some_iff.1 hgg).1 hB)]; exact hgg
theorem owns_mono {w : World} {base base' : Nat} {e : TypeId} {size : Nat} {v : Value} {n : Nat} {xs : List Value} (h : w.ownsRow base e size v n xs) (hb : base' ≤ base) : w.ownsRow base' e size v n xs := by
  refine ⟨h.1, ?_⟩
  rcases h.2 with hn | ⟨g, cap, cur, hv, hbg, r⟩
  · exact .inl hn
  · exact .inr ⟨g, cap, cur, hv, Nat.le_trans hb hbg, r⟩
/-- Two rows of unlike things are no one row. -/
theorem owns_apart {w : World} {base base' : Nat} {e e' : TypeId} {s s' : Nat} {v v' : Value} {n n' : Nat} {xs xs' : List Value} (h : w.ownsRow base e s v n xs) (h' : w.ownsRow base' e' s' v' n' xs') (hne : e ≠ e') : v.ownBlock = none ∨ v.ownBlock ≠ v'.ownBlock := by
  rcases h.2 with ⟨rfl, _⟩ | ⟨g, cap, cur, rfl, _, hg, _⟩
  · exact Or.inl rfl
  · right
    rcases h'.2 with ⟨rfl, _⟩ | ⟨g', cap', cur', rfl, _, hg', _⟩
    · simp [Value.ownBlock]
    · intro e2
      simp [Value.ownBlock] at e2
      subst e2
      rw [hg] at hg'
      simp at hg'
      exact hne hg'.2

/-- The first n factors lie in a row of the call's own. -/
def PRow (w : World) (base : Nat) (v : Value) (n : Nat) (fs : List Pw) : Prop := ∃ ys, w.ownsRow base 93 2 v n ys ∧ ∀ i f, i < n → fs[i]? = some f → ys[i * 2]? = some (.int .u64 (f.q : Int)) ∧ ys[i * 2 + 1]? = some (.int .i64 f.e)
/-- The first n entries lie in a row of the call's own, their factors in others. -/
def ERow (w : World) (base : Nat) (v : Value) (n : Nat) (es : List En) : Prop := ∃ xs, w.ownsRow base 78 3 v n xs ∧ ∀ i x, i < n → es[i]? = some x → ∃ u, xs[i * 3]? = some (.int .u64 (x.p : Int)) ∧ xs[i * 3 + 1]? = some (.int .u64 (x.g : Int)) ∧ xs[i * 3 + 2]? = some u ∧ PRow w base u x.fs.length x.fs
theorem PRow.nil (w : World) (base : Nat) (fs : List Pw) : PRow w base (.slice none 0 0) 0 fs := ⟨[], World.ownsRow_nil _ _ _ _, fun i f hi => absurd hi (by omega)⟩
theorem ERow.nil (w : World) (base : Nat) (es : List En) : ERow w base (.slice none 0 0) 0 es := ⟨[], World.ownsRow_nil _ _ _ _, fun i f hi => absurd hi (by omega)⟩
theorem PRow.below {w w' : World} {base B : Nat} {v : Value} {n : Nat} {fs : List Pw} (h : PRow w base v n fs) (hb : Below B w w') (hB : w.heap.size ≤ B) : PRow w' base v n fs := by
  obtain ⟨ys, h1, h2⟩ := h
  exact ⟨ys, owns_below h1 hb hB, h2⟩
theorem PRow.mono {w : World} {base base' : Nat} {v : Value} {n : Nat} {fs : List Pw} (h : PRow w base v n fs) (hb : base' ≤ base) : PRow w base' v n fs := by
  obtain ⟨ys, h1, h2⟩ := h
  exact ⟨ys, owns_mono h1 hb, h2⟩
theorem PRow.kept {w w' : World} {base : Nat} {v : Value} {n : Nat} {fs : List Pw} (h : PRow w base v n fs) {row : Value} {base' n' : Nat} {xs : List Value} (hr : w.ownsRow base' 78 3 row n' xs) (hg : w.grownBy w' row.ownBlock) : PRow w' base v n fs := by
  obtain ⟨ys, h1, h2⟩ := h
  exact ⟨ys, h1.kept hg (owns_apart h1 hr (by decide)), h2⟩
theorem ERow.below {w w' : World} {base B : Nat} {v : Value} {n : Nat} {es : List En} (h : ERow w base v n es) (hb : Below B w w') (hB : w.heap.size ≤ B) : ERow w' base v n es := by
  obtain ⟨xs, h1, h2⟩ := h
  refine ⟨xs, owns_below h1 hb hB, fun i x hi hx => ?_⟩
  obtain ⟨u, a, b, c, d⟩ := h2 i x hi hx
  exact ⟨u, a, b, c, d.below hb hB⟩
/-- One more factor. -/
theorem PRow.push {w' : World} {base : Nat} {v' : Value} {n : Nat} {fs : List Pw} {ys : List Value} {f : Pw} (hl : ys.length = n * 2) (h2 : ∀ i f, i < n → fs[i]? = some f → ys[i * 2]? = some (.int .u64 (f.q : Int)) ∧ ys[i * 2 + 1]? = some (.int .i64 f.e)) (hf : fs[n]? = some f)
    (hown : w'.ownsRow base 93 2 v' (n + 1) (ys ++ [.int .u64 (f.q : Int), .int .i64 f.e])) : PRow w' base v' (n + 1) fs := by
  refine ⟨_, hown, fun i x hi hx => ?_⟩
  by_cases h : i < n
  · obtain ⟨a, b⟩ := h2 i x h hx
    rw [List.getElem?_append_left (by omega), List.getElem?_append_left (by omega)]
    exact ⟨a, b⟩
  · obtain rfl : i = n := by omega
    rw [hf] at hx; cases hx
    rw [List.getElem?_append_right (by omega), List.getElem?_append_right (by omega), show i * 2 - ys.length = 0 by omega, show i * 2 + 1 - ys.length = 1 by omega]
    exact ⟨rfl, rfl⟩
/-- One more entry. -/
theorem ERow.push {w w' : World} {base : Nat} {v v' u : Value} {n : Nat} {es : List En} {xs : List Value} {x : En} (h1 : w.ownsRow base 78 3 v n xs)
    (h2 : ∀ i x, i < n → es[i]? = some x → ∃ u, xs[i * 3]? = some (.int .u64 (x.p : Int)) ∧ xs[i * 3 + 1]? = some (.int .u64 (x.g : Int)) ∧ xs[i * 3 + 2]? = some u ∧ PRow w base u x.fs.length x.fs)
    (hx : es[n]? = some x) (hP : PRow w base u x.fs.length x.fs) (hg : w.grownBy w' v.ownBlock)
    (hown : w'.ownsRow base 78 3 v' (n + 1) (xs ++ [.int .u64 (x.p : Int), .int .u64 (x.g : Int), u])) : ERow w' base v' (n + 1) es := by
  have hl : xs.length = n * 3 := h1.1
  refine ⟨_, hown, fun i y hi hy => ?_⟩
  by_cases h : i < n
  · obtain ⟨u', a, b, c, d⟩ := h2 i y h hy
    rw [List.getElem?_append_left (by omega), List.getElem?_append_left (by omega), List.getElem?_append_left (by omega)]
    exact ⟨u', a, b, c, d.kept h1 hg⟩
  · obtain rfl : i = n := by omega
    rw [hx] at hy; cases hy
    rw [List.getElem?_append_right (by omega), List.getElem?_append_right (by omega), List.getElem?_append_right (by omega), show i * 3 - xs.length = 0 by omega, show i * 3 + 1 - xs.length = 1 by omega, show i * 3 + 2 - xs.length = 2 by omega]
    exact ⟨u, rfl, rfl, rfl, hP.kept h1 hg⟩
/-- Read as rows. -/
theorem PRow.to {w : World} {base : Nat} {v : Value} {fs : List Pw} (h : PRow w base v fs.length fs) (hok : ∀ f ∈ fs, f.ok) : ∃ A C, v = .slice A fs.length C ∧ PowsAt w A C fs := by
  obtain ⟨ys, h1, h2⟩ := h
  rcases h1.2 with ⟨rfl, hn⟩ | ⟨g, cap, cur, rfl, hb, hg, hc, hm, _⟩
  · refine ⟨none, 0, by rw [hn], by omega, by unfold maxLen; omega, fun i f hf => ?_⟩
    have := (List.getElem?_eq_some_iff.1 hf).1; omega
  · refine ⟨_, _, rfl, hc, hm, fun i f hf => ?_⟩
    obtain ⟨a, b⟩ := h2 i f (List.getElem?_eq_some_iff.1 hf).1 hf
    have ca := h1.cells (g := g) rfl _ _ a
    have cb := h1.cells (g := g) rfl _ _ b
    refine ⟨g, 0, rfl, (Array.getElem?_eq_some_iff.1 hg).1, ?_, ?_, hok f (List.mem_of_getElem? hf)⟩
    · rw [Nat.zero_add]; rw [Addr.add_lit] at ca; simpa using ca
    · rw [Nat.zero_add]; rw [Addr.add_lit] at cb; simpa using cb
def En.ok (x : En) : Prop := x.p < 18446744073709551616 ∧ x.g < 18446744073709551616 ∧ ∀ f ∈ x.fs, f.ok
theorem ERow.to {w : World} {base : Nat} {v : Value} {es : List En} (h : ERow w base v es.length es) (hok : ∀ x ∈ es, x.ok) : ∃ A C, v = .slice A es.length C ∧ EntsAt w A C es := by
  obtain ⟨xs, h1, h2⟩ := h
  rcases h1.2 with ⟨rfl, hn⟩ | ⟨g, cap, cur, rfl, hb, hg, hc, hm, _⟩
  · refine ⟨none, 0, by rw [hn], by omega, by unfold maxLen; omega, fun i f hf => ?_⟩
    have := (List.getElem?_eq_some_iff.1 hf).1; omega
  · refine ⟨_, _, rfl, hc, hm, fun i x hx => ?_⟩
    obtain ⟨u, a, b, c, d⟩ := h2 i x (List.getElem?_eq_some_iff.1 hx).1 hx
    have ok := hok x (List.mem_of_getElem? hx)
    obtain ⟨A', C', rfl, hP⟩ := d.to ok.2.2
    have ca := h1.cells (g := g) rfl _ _ a
    have cb := h1.cells (g := g) rfl _ _ b
    have cc := h1.cells (g := g) rfl _ _ c
    rw [Addr.add_lit] at ca cb cc
    exact ⟨g, 0, A', C', rfl, (Array.getElem?_eq_some_iff.1 hg).1, by simpa using ca, by simpa [Nat.add_assoc] using cb, by simpa [Nat.add_assoc] using cc, hP, ok.1, ok.2.1⟩
end Go.Proofs.YtpjfapibjihbbaaGreatDoor

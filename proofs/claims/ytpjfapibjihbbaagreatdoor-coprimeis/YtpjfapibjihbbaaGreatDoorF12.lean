/-
  Contracts of sieve's generates and Generator: the least number whose powers are all. No condition but that arguments are words.
-/
import Derived.Test.YtpjfapibjihbbaaGreatDoorF11
import Derived.Test.YtpjfapibjihbbaaGreatDoorF2
namespace Go.Proofs.YtpjfapibjihbbaaGreatDoor
set_option linter.unusedVariables false
open Go.RowKit

/-- What the literal of generates tells of a factor. -/
def litB (g p q : Nat) : Bool := g ^ ((p - 1) / q) % p == 1

set_option maxHeartbeats 1000000 in
theorem gen_lit (W : World) (g p q : Nat) (e : Int) (bg bp : Nat) (hg : W.cell? ⟨bg, 0, none⟩ = some (.int .u64 (g : Int))) (hp : W.cell? ⟨bp, 0, none⟩ = some (.int .u64 (p : Int))) (hbg : bg < W.heap.size) (hbp : bp < W.heap.size)
    (h1 : 3 ≤ p) (h2 : p ≤ 65536) (hgl : g < 4294967296) (hq : 1 ≤ q) (hql : q < 18446744073709551616) :
    AnsB W 111 #[.agg #[.int .u64 (q : Int), .int .i64 e], .pointer (some ⟨bg, 0, none⟩), .pointer (some ⟨bp, 0, none⟩)] (.bool (litB g p q)) := by
  intro w hw
  have kg := kcell hw hbg hg
  have kp := kcell hw hbp hp
  have hbg' : bg < w.heap.size := Nat.lt_of_lt_of_le hbg hw.size
  have hbp' : bp < w.heap.size := Nat.lt_of_lt_of_le hbp hw.size
  obtain ⟨t0, t1⟩ := tcells w (.int .u64 (q : Int)) (.int .i64 e) 93
  obtain ⟨V, hV⟩ : ∃ V, w.alloc (.cells #[.int .u64 (q : Int), .int .i64 e] 93) = V := ⟨_, rfl⟩
  have hBV : Below w.heap.size w V := hV ▸ below_alloc _ _
  have vg := kcell hBV hbg' kg
  have vp' := kcell hBV hbp' kp
  rw [hV] at t0 t1
  have HV : Hid (w.alloc (.cells #[.int .u64 (q : Int), .int .i64 e] 93) = V) := hV
  obtain ⟨d, hd⟩ : ∃ d, (p - 1) / q = d := ⟨_, rfl⟩
  have hdl : d < 65536 := by have := Nat.div_le_self (p - 1) q; omega
  obtain ⟨x, hx⟩ : ∃ x, g ^ d % p = x := ⟨_, rfl⟩
  have HP : Ans 112 #[.int .u64 (g : Int), .int .u64 (d : Int), .int .u64 (p : Int)] (.int .u64 (x : Int)) := hx ▸ pow_small g d p hgl (by omega) (by omega) (by omega)
  have HX : Hid (litB g p q = ((x : Int) == 1)) := by
    unfold Hid litB; rw [hd, hx, Bool.eq_iff_iff, beq_iff_eq, beq_iff_eq]; omega
  have e0 : ¬ (q : Int) = 0 := by omega
  obtain ⟨p1, hp1⟩ : ∃ p1 : Nat, p - 1 = p1 := ⟨_, rfl⟩
  rw [hp1] at hd
  have e1 : (p : Int) - 1 = (p1 : Int) := by omega
  have e2 : IntKind.u64.wrap (p1 : Int) = (p1 : Int) := by rw [IntKind.wrap_u64]; omega
  have e3 : Int.tdiv (p1 : Int) (q : Int) = (d : Int) := by rw [← Int.ofNat_tdiv, hd]
  have e4 : IntKind.u64.wrap (d : Int) = (d : Int) := by rw [IntKind.wrap_u64]; omega
  have e5 : (p1 : Int) / (q : Int) = (d : Int) := by rw [← Int.natCast_ediv, hd]
  clear hd hx hp1 hg hp kg kp
  go_enter Tryz.func111, Tryz.ntmps111
  go_wp2
  go_quiet ((go_at_call 112; first | (with_reducible exact Ans.quiet HP) | (with_reducible exact Ans.quiet0 HP)))
  go_wp2
  go_ret
  exact ⟨rbool HX.out.symm, bb hBV (below_drewN _ _)⟩

set_option maxHeartbeats 1000000 in
/-- IndexFunc at factors, with generates' literal. -/
theorem indexP_sgen (W : World) (A : Option Addr) (C : Nat) (fs : List Pw) (hP : PowsAt W A C fs) (g p bg bp : Nat) (hg : W.cell? ⟨bg, 0, none⟩ = some (.int .u64 (g : Int))) (hp : W.cell? ⟨bp, 0, none⟩ = some (.int .u64 (p : Int))) (hbg : bg < W.heap.size) (hbp : bp < W.heap.size)
    (h1 : 3 ≤ p) (h2 : p ≤ 65536) (hgl : g < 4294967296) (hq : ∀ f ∈ fs, 1 ≤ f.q) :
    AnsB W 130 #[.slice A fs.length C, .func (.func 111) #[] #[.pointer (some ⟨bg, 0, none⟩), .pointer (some ⟨bp, 0, none⟩)]] (idxV (fs.findIdx? fun x => litB g p x.q)) := by
  intro w hw
  have hlen : (fs.length : Int) ≤ 9223372036854775807 := by have := hP.cap; have := hP.max; unfold maxLen at this; omega
  obtain ⟨L, hL⟩ : ∃ L, fs.length = L := ⟨_, rfl⟩
  rw [hL] at hlen
  have HL : Hid (fs.length = L) := hL
  rw [hL]
  clear hL
  go_enter Tryz.func130, Tryz.ntmps130
  go_wp2
  go_loopw [8] (fun v wr => ∃ k : Nat, v = .int .i64 k ∧ k ≤ L ∧ Hid (∀ j y, j < k → fs[j]? = some y → litB g p y.q = false) ∧ Below w.heap.size w wr) (fun v _ => L - (intOf v).toNat)
  case atStart => exact ⟨0, rfl, by omega, fun j y hj => absurd hj (by omega), Below.refl _ _⟩
  case round =>
    obtain ⟨k, rfl, hk, HI, hB⟩ := hrel
    by_cases hlt : k < L
    · have hlt' : k < fs.length := by rw [HL.out]; exact hlt
      obtain ⟨x, hx⟩ : ∃ x, fs[k]? = some x := ⟨_, List.getElem?_eq_getElem hlt'⟩
      obtain ⟨b, o, rfl, hb, c0, c1, hok⟩ := hP.get k x hx
      have hBW : Below W.heap.size W wr := bb hw hB
      have c0' := kcell hBW hb c0
      have c1' := kcell hBW hb c1
      have HX : Hid (fs[k]? = some x) := hx
      have HC := gen_lit W g p x.q x.e bg bp hg hp hbg hbp h1 h2 hgl (hq x (List.mem_of_getElem? hx)) hok.1
      obtain ⟨q, hq'⟩ : ∃ q : Int, (x.q : Int) = q := ⟨_, rfl⟩
      obtain ⟨e, he'⟩ : ∃ e : Int, x.e = e := ⟨_, rfl⟩
      rw [hq'] at c0' HC
      rw [he'] at c1' HC
      cases ht : litB g p x.q with
      | true =>
        rw [ht] at HC
        have HE : Hid (idxV (fs.findIdx? fun x => litB g p x.q) = .int .i64 (k : Int)) := by
          unfold Hid; rw [found (t := fun x : Pw => litB g p x.q) hx ht HI.out]; rfl
        clear c0 c1 hq' he' hx HI ht hg hp
        go_wp2_with (go_at_call 111; with_reducible refine AnsB.use HC hBW fun w2 hb2 => ?_)
        go_ret
        exact ⟨congrArg Ending.returned HE.out.symm, hB.trans (hb2.mono hB.size)⟩
      | false =>
        rw [ht] at HC
        have HS : Hid (∀ j y, j < k + 1 → fs[j]? = some y → litB g p y.q = false) := by
          intro j y hj hy
          by_cases h : j < k
          · exact HI.out j y h hy
          · obtain rfl : j = k := by omega
            rw [hx] at hy; cases hy; exact ht
        clear c0 c1 hq' he' hx HI ht
        go_wp2_with (go_at_call 111; with_reducible refine AnsB.use HC hBW fun w2 hb2 => ?_)
        go_roundw
        case rel => exact ⟨k + 1, by go_num, by omega, HS, hB.trans (hb2.mono hB.size)⟩
        case measure => simp [intOf]; omega
    · obtain rfl : k = L := by omega
      have HE : Hid (idxV (fs.findIdx? fun x => litB g p x.q) = .int .i64 (-1)) := by
        unfold Hid; rw [found_none (t := fun x : Pw => litB g p x.q) (by rw [HL.out]; exact HI.out)]; rfl
      clear HI
      go_wp2
      go_ret
      exact ⟨congrArg Ending.returned HE.out.symm, hB⟩

theorem containsP_swalk (W : World) (s f : Value) (r : Option Nat) (HI : AnsB W 130 #[s, f] (idxV r)) :
    AnsB W 98 #[s, f] (.bool r.isSome) := by
  intro w hw
  cases r with
  | none =>
    have HI' : AnsB W 130 #[s, f] (.int .i64 (-1)) := HI
    go_enter Tryz.func98, Tryz.ntmps98
    go_wp2_with (go_at_call 130; with_reducible refine AnsB.use HI' hw fun w2 hb2 => ?_)
    go_ret
    exact ⟨rfl, hb2⟩
  | some k =>
    have HI' : AnsB W 130 #[s, f] (.int .i64 (k : Int)) := HI
    have hk : decide ((0 : Int) ≤ (k : Int)) = true := by simp
    go_enter Tryz.func98, Tryz.ntmps98
    go_wp2_with (go_at_call 130; with_reducible refine AnsB.use HI' hw fun w2 hb2 => ?_)
    go_ret
    exact ⟨by simp, hb2⟩

/-- generates. -/
theorem generates_walk (W : World) (g p : Int) (s : Value) (hs : ∃ A n C, s = .slice A n C) (r : Bool)
    (HC : ∀ w bg bp, Below W.heap.size W w → bg < w.heap.size → bp < w.heap.size → w.cell? ⟨bg, 0, none⟩ = some (.int .u64 g) → w.cell? ⟨bp, 0, none⟩ = some (.int .u64 p) → AnsB w 98 #[s, .func (.func 111) #[] #[.pointer (some ⟨bg, 0, none⟩), .pointer (some ⟨bp, 0, none⟩)]] (.bool r)) :
    AnsB W 87 #[.int .u64 g, .int .u64 p, s] (.bool (!r)) := by
  obtain ⟨A, n, C, rfl⟩ := hs
  intro w hw
  have hb1 : Below w.heap.size w (w.alloc (.cells #[.int .u64 g] 22)) := below_alloc _ _
  have hb2 : Below w.heap.size w ((w.alloc (.cells #[.int .u64 g] 22)).alloc (.cells #[.int .u64 p] 22)) := bb hb1 (below_alloc _ _)
  have c1 := kcell (below_alloc (w.alloc (.cells #[.int .u64 g] 22)) (.cells #[.int .u64 p] 22)) (b := w.heap.size) (by simp) (cell_new w (.int .u64 g) 22)
  have c2 := cell_new (w.alloc (.cells #[.int .u64 g] 22)) (.int .u64 p) 22
  rw [World.size_alloc] at c2
  have HC' := HC _ w.heap.size (w.heap.size + 1) (bb hw hb2) (by simp; omega) (by simp) c1 c2
  clear c1 c2
  go_enter Tryz.func87, Tryz.ntmps87
  go_wp2_with (go_at_call 98; with_reducible refine AnsB.use HC' (Below.refl _ _) fun w2 hb3 => ?_)
  go_ret
  exact ⟨rfl, bb hb2 hb3⟩
noncomputable def genB (g p : Nat) : Bool := @decide (GenP g p) (Classical.propDecidable _)
theorem genB_iff {g p : Nat} : genB g p = true ↔ GenP g p := by unfold genB; exact @decide_eq_true_iff _ (Classical.propDecidable _)
theorem facS_in {n : Nat} (h2 : 2 ≤ n) (h : n ≤ 4294967296) : facS n = facOf n := by unfold facS; rw [if_pos ⟨h2, h⟩]
theorem sgenerates_any (W : World) (A : Option Addr) (C : Nat) (g p : Nat) (h1 : 3 ≤ p) (h2 : p ≤ 65536) (hgl : g < 4294967296) (hP : PowsAt W A C (facOf (p - 1))) :
    AnsB W 87 #[.int .u64 (g : Int), .int .u64 (p : Int), .slice A (facOf (p - 1)).length C] (.bool (genB g p)) := by
  have hn1 : 1 ≤ p - 1 := by omega
  have hq : ∀ f ∈ facOf (p - 1), 1 ≤ f.q := by
    intro f hf
    obtain ⟨q, hq, rfl⟩ := List.mem_map.1 hf
    have := ((mem_pf hn1).1 hq).1.1
    show 1 ≤ q; omega
  have := generates_walk W (g : Int) (p : Int) (.slice A (facOf (p - 1)).length C) ⟨_, _, _, rfl⟩ _ fun w bg bp hw hbg hbp cg cp => containsP_swalk w _ _ _ (indexP_sgen w A C _ (hP.below hw) g p bg bp cg cp hbg hbp h1 h2 hgl hq)
  refine AnsB.to this ?_
  congr 1
  rw [List.findIdx?_isSome, Bool.eq_iff_iff, genB_iff]
  unfold GenP
  rw [Bool.not_eq_true', List.any_eq_false]
  constructor
  · intro h q hq' e
    exact h ⟨q, (vp q (p - 1) : Nat)⟩ (List.mem_map.2 ⟨q, hq', rfl⟩) (by show litB g p q = true; unfold litB; rw [e]; rfl)
  · intro h f hf hl
    obtain ⟨q, hq', rfl⟩ := List.mem_map.1 hf
    have hl' : litB g p q = true := hl
    unfold litB at hl'
    exact h q hq' (by simpa using hl')
theorem generator_none (p : Int) (HP : AnsM 53 #[.int .u64 p] (.bool false)) : AnsM 71 #[.int .u64 p] (.int .u64 0) := by
  intro w
  go_enter Tryz.func71, Tryz.ntmps71
  go_wp2_with (go_at_call 53; with_reducible refine AnsM.use HP fun w1 hB => ?_)
  go_ret
  exact ⟨rfl, hB⟩
set_option maxHeartbeats 1000000 in
theorem generator_walk (p : Nat) (ho : Odd16 p) : AnsM 71 #[.int .u64 (p : Int)] (.int .u64 (genOf p : Int)) := by
  intro w
  have ho2 := ho
  obtain ⟨pp, h3, h6⟩ := ho2
  have HG : Hid (2 ≤ genOf p ∧ genOf p < p ∧ GenP (genOf p) p ∧ ∀ k, 2 ≤ k → k < genOf p → ¬ GenP k p) := genOf_spec ho
  have HP : AnsM 53 #[.int .u64 (p : Int)] (.bool true) := (provable_any p (by omega)).to (by rw [oddB_iff.2 ho])
  have HF := factor_any (p - 1) (by omega)
  rw [facS_in (by omega) (by omega)] at HF
  obtain ⟨G, hG⟩ : ∃ G, genOf p = G := ⟨_, rfl⟩
  rw [hG] at HG ⊢
  have hG1 := HG.out.1
  have hG2 := HG.out.2.1
  obtain ⟨p1, hp1⟩ : ∃ p1, p - 1 = p1 := ⟨_, rfl⟩
  have HP1 : Hid (p - 1 = p1) := hp1
  have hp1' : (p : Int) - 1 = (p1 : Int) := by omega
  rw [hp1] at HF
  obtain ⟨L, hL⟩ : ∃ L, (facOf p1).length = L := ⟨_, rfl⟩
  have HL : Hid ((facOf p1).length = L) := hL
  clear pp hp1 hG hL ho
  go_enter Tryz.func71, Tryz.ntmps71
  go_wp2_with (first | (go_at_call 53; with_reducible refine AnsM.use HP fun w1 hB => ?_) | (go_at_call 72; with_reducible refine FacAns.use HF fun A C w2 hPw hB2 => ?_; rw [HL.out]))
  have HPW : Hid (PowsAt w2 A C (facOf p1)) := hPw
  have hB02 : Below w.heap.size w w2 := bb hB hB2
  clear hPw hB hB2 HF HP
  go_wp2
  go_loopw [4] (fun x wr => ∃ k : Nat, x = .int .u64 (k : Int) ∧ 2 ≤ k ∧ k ≤ G ∧ Below w2.heap.size w2 wr) (fun x _ => G - (intOf x).toNat)
  case atStart => exact ⟨2, rfl, by omega, hG1, Below.refl _ _⟩
  case round =>
    obtain ⟨k, rfl, hk2, hkG, hBr⟩ := hrel
    have HC := sgenerates_any w2 A C k p h3 h6 (by omega) (by rw [HP1.out]; exact HPW.out)
    rw [HP1.out, HL.out] at HC
    by_cases hlt : k < G
    · have hb : genB k p = false := by
        cases hc : genB k p with
        | false => rfl
        | true => exact absurd (genB_iff.1 hc) (HG.out.2.2.2 k hk2 hlt)
      rw [hb] at HC
      clear hb
      go_wp2_with (go_at_call 87; with_reducible refine AnsB.use HC hBr fun w3 hb3 => ?_)
      go_roundw
      case rel => exact ⟨k + 1, by go_num, by omega, by omega, bb hBr hb3⟩
      case measure => simp [intOf]; omega
    · obtain rfl : k = G := by omega
      have hb : genB k p = true := genB_iff.2 HG.out.2.2.1
      rw [hb] at HC
      clear hb
      go_wp2_with (go_at_call 87; with_reducible refine AnsB.use HC hBr fun w3 hb3 => ?_)
      go_ret
      exact ⟨rfl, bb hB02 (bb hBr hb3)⟩
/-- Generator. -/
theorem generator_any (p : Nat) (hn : p < 18446744073709551616) : AnsM 71 #[.int .u64 (p : Int)] (.int .u64 (genOf p : Int)) := by
  by_cases ho : Odd16 p
  · exact generator_walk p ho
  · rw [genOf_no ho]
    refine generator_none (p : Int) ((provable_any p hn).to ?_)
    congr 1
    cases hc : oddB p with
    | false => rfl
    | true => exact absurd (oddB_iff.1 hc) ho
end Go.Proofs.YtpjfapibjihbbaaGreatDoor
/-
  Contracts of the document's Order and Generator (layer 5).
-/
namespace Go.Proofs.YtpjfapibjihbbaaGreatDoor
set_option linter.unusedVariables false
open Go.RowKit

/-- The least exponent of a power that is 1. -/
structure IsOrd (g p n : Nat) : Prop where
  one : 1 ≤ n
  is : g ^ n % p = 1
  no : ∀ k, 1 ≤ k → k < n → g ^ k % p ≠ 1
theorem ex_ord {g p : Nat} (hp : Prm p) (hg : ¬ p ∣ g) : ∃ n, IsOrd g p n ∧ n ≤ p - 1 := by
  have h2 := hp.1
  obtain ⟨m, hm, ⟨h1, h3⟩, hl⟩ := least (P := fun n => 1 ≤ n ∧ g ^ n % p = 1) (p - 1) ⟨by omega, fermat hp hg⟩
  exact ⟨m, ⟨h1, h3, fun k hk hkl e => hl k hkl ⟨hk, e⟩⟩, hm⟩
theorem wrap_prod {x y s : Nat} (hs : x * y = s) (hx : x ≤ 4294967295) (hy : y ≤ 4294967295) : IntKind.u64.wrap ((x : Int) * (y : Int)) = (s : Int) := by
  have h1 : x * y ≤ 4294967295 * 4294967295 := Nat.mul_le_mul hx hy
  rw [← Int.natCast_mul, hs, IntKind.wrap_u64]
  omega
set_option maxHeartbeats 1000000 in
theorem order_any (g p n : Nat) (h3 : 3 ≤ p) (h6 : p ≤ 65536) (hg : g < p) (ho : IsOrd g p n) (hn : n ≤ p) : Ans 51 #[.int .u64 (g : Int), .int .u64 (p : Int)] (.int .u64 (n : Int)) := by
  intro w
  have HO : Hid (IsOrd g p n) := ho
  have hn1 := ho.one
  have hgm : (g : Int) % (p : Int) = (g : Int) := Int.emod_eq_of_lt (by omega) (by omega)
  clear ho
  go_enter Tryz.func51, Tryz.ntmps51
  go_wp2
  go_loopw [5, 6] (fun a b wr => ∃ k x : Nat, a = .int .u64 (k : Int) ∧ b = .int .u64 (x : Int) ∧ 1 ≤ k ∧ k ≤ n ∧ x < p ∧ Hid (g ^ k % p = x) ∧ wr = w) (fun a _ _ => n - (intOf a).toNat)
  case atStart => exact ⟨1, g, rfl, by go_num, by omega, by omega, hg, by unfold Hid; rw [Nat.pow_one, Nat.mod_eq_of_lt hg], rfl⟩
  case round =>
    obtain ⟨k, x, rfl, rfl, hk1, hkn, hx, HX, rfl⟩ := hrel
    by_cases hlt : k < n
    · have hx1 : x ≠ 1 := fun e => HO.out.no k hk1 hlt (HX.out.trans e)
      have hx1' : ((x : Int) != 1) = true := by simp; omega
      have hx1'' : ¬ (x : Int) = 1 := by omega
      obtain ⟨s, hs⟩ : ∃ s, x * g = s := ⟨_, rfl⟩
      have hw := wrap_prod hs (by omega) (by omega)
      have hsl : s < 18446744073709551616 := by
        have : x * g ≤ 65536 * 65536 := Nat.mul_le_mul (by omega) (by omega)
        omega
      obtain ⟨r, hr⟩ : ∃ r, s % p = r := ⟨_, rfl⟩
      have hr' : (s : Int) % (p : Int) = (r : Int) := by rw [← Int.natCast_emod, hr]
      have hrl : r < p := hr ▸ Nat.mod_lt _ (by omega)
      have HX2 : Hid (g ^ (k + 1) % p = r) := by
        unfold Hid; rw [Nat.pow_succ, Nat.mul_mod, HX.out, Nat.mod_eq_of_lt hg, hs, hr]
      clear hs hr HX
      go_wp2
      go_roundw
      case rel => exact ⟨k + 1, r, by go_num, by go_num, by omega, by omega, hrl, HX2, by first | rfl | trivial⟩
      case measure => simp [intOf]; omega
    · obtain rfl : k = n := by omega
      obtain rfl : x = 1 := HX.out.symm.trans HO.out.is
      go_wp2
      go_ret
      exact ⟨rfl, 0, rfl⟩
theorem rgen_none (p : Int) (HP : Ans 34 #[.int .u64 p] (.bool false)) : Ans 35 #[.int .u64 p] (.int .u64 0) := by
  intro w
  go_enter Tryz.func35, Tryz.ntmps35
  go_wp2_with (go_at_call 34; with_reducible refine Ans.use HP _ fun n1 => ?_)
  go_ret
  exact ⟨rfl, _, rfl⟩
set_option maxHeartbeats 1000000 in
theorem rgen_walk (p : Nat) (ho : Odd16 p) : Ans 35 #[.int .u64 (p : Int)] (.int .u64 (genOf p : Int)) := by
  intro w
  have ho2 := ho
  obtain ⟨pp, h3, h6⟩ := ho2
  have HPP : Hid (Prm p) := pp
  have HG : Hid (2 ≤ genOf p ∧ genOf p < p ∧ GenP (genOf p) p ∧ ∀ k, 2 ≤ k → k < genOf p → ¬ GenP k p) := genOf_spec ho
  have HP : Ans 34 #[.int .u64 (p : Int)] (.bool true) := (rodd_any p (by omega)).to (by rw [oddB_iff.2 ho])
  obtain ⟨G, hG⟩ : ∃ G, genOf p = G := ⟨_, rfl⟩
  rw [hG] at HG ⊢
  have hG1 := HG.out.1
  have hG2 := HG.out.2.1
  clear pp hG ho
  go_enter Tryz.func35, Tryz.ntmps35
  go_wp2_with (go_at_call 34; with_reducible refine Ans.use HP _ fun n1 => ?_)
  go_loopw [3] (fun x wr => ∃ k j : Nat, x = .int .u64 (k : Int) ∧ 2 ≤ k ∧ k ≤ G ∧ wr = w.drewN j) (fun x _ => G - (intOf x).toNat)
  case atStart => exact ⟨2, n1, rfl, by omega, hG1, rfl⟩
  case round =>
    obtain ⟨k, j, rfl, hk2, hkG, HW⟩ := hrel
    have hkp : ¬ p ∣ k := fun h => by have := Nat.le_of_dvd (by omega) h; omega
    obtain ⟨n, hO, hn⟩ := ex_ord HPP.out hkp
    have HC := order_any k p n h3 h6 (by omega) hO (by omega)
    have hiff := order_gen HPP.out h3 hkp hO.one hO.is hO.no
    by_cases hlt : k < G
    · have hne : ¬ n = p - 1 := fun e => HG.out.2.2.2 k hk2 hlt (hiff.1 e)
      have hne' : ((n : Int) == (p : Int) - 1) = false := by rw [beq_eq_false_iff_ne]; omega
      clear hiff hO hne
      go_wp2_with (go_at_call 51; with_reducible refine Ans.use HC _ fun n2 => ?_)
      go_roundw
      case rel => exact ⟨k + 1, j + n2, by go_num, by omega, by omega, by first | rfl | (rw [World.drewN_drewN])⟩
      case measure => simp [intOf]; omega
    · obtain rfl : k = G := by omega
      have he : n = p - 1 := hiff.2 HG.out.2.2.1
      have hne' : ((n : Int) == (p : Int) - 1) = true := by rw [beq_iff_eq]; omega
      clear hiff hO he
      go_wp2_with (go_at_call 51; with_reducible refine Ans.use HC _ fun n2 => ?_)
      go_ret
      exact ⟨rfl, j + n2, by first | rfl | (rw [World.drewN_drewN])⟩
/-- The document's Generator. -/
theorem rgen_any (p : Nat) (hn : p < 18446744073709551616) : Ans 35 #[.int .u64 (p : Int)] (.int .u64 (genOf p : Int)) := by
  by_cases ho : Odd16 p
  · exact rgen_walk p ho
  · rw [genOf_no ho]
    refine rgen_none (p : Int) ((rodd_any p hn).to ?_)
    congr 1
    cases hc : oddB p with
    | false => rfl
    | true => exact absurd (oddB_iff.1 hc) ho
end Go.Proofs.YtpjfapibjihbbaaGreatDoor
/-
  Rows of factors, cell by cell; p - 1 written as its factors (what Sv17 and later texts need of Sv13).
-/
namespace Go.Proofs.YtpjfapibjihbbaaGreatDoor
set_option linter.unusedVariables false
open Go.RowKit

/-! ### Rows of factors, cell by cell -/
def fl : List Pw → List Value
  | [] => []
  | f :: l => .int .u64 (f.q : Int) :: .int .i64 f.e :: fl l
theorem fl_len : ∀ l, (fl l).length = l.length * 2
  | [] => rfl
  | f :: l => by simp [fl, fl_len l]; omega
theorem fl_append : ∀ (l : List Pw) (f : Pw), fl (l ++ [f]) = fl l ++ [.int .u64 (f.q : Int), .int .i64 f.e]
  | [], f => rfl
  | x :: l, f => by simp [fl, fl_append l f]
theorem fl_get : ∀ (l : List Pw) (i : Nat) (f : Pw), l[i]? = some f → (fl l)[i * 2]? = some (.int .u64 (f.q : Int)) ∧ (fl l)[i * 2 + 1]? = some (.int .i64 f.e)
  | [], i, f, h => by simp at h
  | x :: l, 0, f, h => by simp at h; subst h; exact ⟨rfl, rfl⟩
  | x :: l, i + 1, f, h => by
    have := fl_get l i f (by simpa using h)
    rw [show (i + 1) * 2 = i * 2 + 1 + 1 by omega]
    simpa [fl] using this
theorem pows_of_row {w : World} {base : Nat} {e : TypeId} {v : Value} {l : List Pw} (h : w.ownsRow base e 2 v l.length (fl l)) (hok : ∀ f ∈ l, f.ok) : ∃ A C, v = .slice A l.length C ∧ PowsAt w A C l := by
  rcases h.2 with ⟨hv, hn⟩ | ⟨g, cap, cur, rfl, hb, hg, hc, hm, _⟩
  · refine ⟨none, 0, by rw [hv, hn], by omega, by unfold maxLen; omega, fun i x hx => ?_⟩
    have := (List.getElem?_eq_some_iff.1 hx).1; omega
  · refine ⟨_, _, rfl, hc, hm, fun i x hx => ?_⟩
    have hi := (List.getElem?_eq_some_iff.1 hx).1
    obtain ⟨a, b⟩ := fl_get l i x hx
    refine ⟨g, 0, rfl, (Array.getElem?_eq_some_iff.1 hg).1, ?_, ?_, hok x (List.mem_of_getElem? hx)⟩
    · rw [Nat.zero_add, h.cellAt (i * 2) (by omega)]; exact a
    · rw [Nat.zero_add, h.cellAt (i * 2 + 1) (by omega)]; exact b

end Go.Proofs.YtpjfapibjihbbaaGreatDoor

/-
  The contract of sieve's gather: a map of just the prime factors, each with how often it is one.
-/
import Derived.Test.YtafmmkhegkceiaaSv5
import Derived.Maps.OwnOps
namespace Go.Proofs.Ytafmmkhegkceiaa
set_option linter.unusedVariables false
open Go.RowKit Go.Maps

/-! ### What is counted -/
def upd (c : Nat → Nat) (q : Nat) : Nat → Nat := fun r => if r = q then c q + 1 else c r
structure GInv (n0 n q : Nat) (c : Nat → Nat) : Prop where
  one : 1 ≤ n
  cnt : ∀ r, Prm r → vp r n0 = c r + vp r n
  non : ∀ r, ¬ Prm r → c r = 0
  low : ∀ r, Prm r → r < q → ¬ r ∣ n
theorem GInv.start {n0 : Nat} (h : 1 ≤ n0) : GInv n0 n0 2 (fun _ => 0) := ⟨h, fun r _ => by omega, fun _ _ => rfl, fun r hr hl => by have := hr.1; omega⟩
theorem GInv.step {n0 n q : Nat} {c : Nat → Nat} (h : GInv n0 n q c) (hq : 2 ≤ q) (hd : n % q = 0) : Prm q ∧ GInv n0 (n / q) q (upd c q) := by
  have hdv := Nat.dvd_of_mod_eq_zero hd
  have pq := prm_of_least hq hdv h.low
  have h1 := h.one
  have hn : n = q * (n / q) := (Nat.mul_div_cancel' hdv).symm
  have hk : 1 ≤ n / q := Nat.div_pos (Nat.le_of_dvd h1 hdv) (by omega)
  refine ⟨pq, hk, fun r hr => ?_, fun r hr => ?_, fun r hr hl hd' => h.low r hr hl (Nat.dvd_trans hd' ⟨q, by rw [Nat.mul_comm]; exact hn⟩)⟩
  · have h2 := h.cnt r hr
    rw [hn] at h2
    unfold upd
    by_cases e : r = q
    · subst e; rw [if_pos rfl]; rw [vp_mul hq hk] at h2; omega
    · rw [if_neg e]; rw [vp_other hr pq e hk] at h2; exact h2
  · unfold upd
    by_cases e : r = q
    · exact absurd (e ▸ pq) hr
    · rw [if_neg e]; exact h.non r hr
theorem GInv.next {n0 n q : Nat} {c : Nat → Nat} (h : GInv n0 n q c) (hd : ¬ n % q = 0) : GInv n0 n (q + 1) c :=
  ⟨h.one, h.cnt, h.non, fun r hr hl hd' => by
    by_cases e : r = q
    · exact hd (Nat.mod_eq_zero_of_dvd (e ▸ hd'))
    · exact h.low r hr (by omega) hd'⟩
/-- Each prime as often as it is a factor. -/
def Cnt (n0 : Nat) (c : Nat → Nat) : Prop := ∀ r, (Prm r → c r = vp r n0) ∧ (¬ Prm r → c r = 0)
theorem GInv.done {n0 n q : Nat} {c : Nat → Nat} (h : GInv n0 n q c) (hn : n ≤ 1) : Cnt n0 c := by
  have := h.one
  obtain rfl : n = 1 := by omega
  exact fun r => ⟨fun hr => by have := h.cnt r hr; rw [vp_one hr.1] at this; omega, h.non r⟩
theorem GInv.last {n0 n q : Nat} {c : Nat → Nat} (h : GInv n0 n q c) (hn : 1 < n) (hq : n < q * q) : Prm n ∧ Cnt n0 (upd c n) := by
  have pn := prm_of_root (by omega) hq h.low
  refine ⟨pn, fun r => ⟨fun hr => ?_, fun hr => ?_⟩⟩
  · have h2 := h.cnt r hr
    unfold upd
    by_cases e : r = n
    · subst e
      rw [if_pos rfl]
      have : vp r r = 1 := by have := vp_mul (q := r) (n := 1) hr.1 (by omega); rw [Nat.mul_one, vp_one hr.1] at this; exact this
      omega
    · rw [if_neg e]
      have : vp r n = 0 := vp_zero hr.1 fun hd => by
        rcases pn.2 r hd with e' | e'
        · have := hr.1; omega
        · exact e e'
      omega
  · unfold upd
    by_cases e : r = n
    · exact absurd (e ▸ pn) hr
    · rw [if_neg e]; exact h.non r hr
theorem vp_le {q n : Nat} (hq : 2 ≤ q) (hn : 1 ≤ n) : vp q n < n := by
  obtain ⟨m, he, hm⟩ := vp_ex q hq n hn
  have h1 := lt_pow hq (vp q n)
  have hm0 : 0 < m := Nat.pos_of_ne_zero fun h => hm (h ▸ Nat.dvd_zero q)
  have h2 : q ^ vp q n * 1 ≤ q ^ vp q n * m := Nat.mul_le_mul_left _ hm0
  omega
theorem GInv.small {n0 n q : Nat} {c : Nat → Nat} (h : GInv n0 n q c) (h0 : 1 ≤ n0) (r : Nat) : c r < n0 := by
  by_cases hr : Prm r
  · have h1 := h.cnt r hr
    have := vp_le hr.1 h0
    omega
  · rw [h.non r hr]; omega

/-! ### The map -/
/-- A map of words to counts lies there. -/
def CMap (w : World) (b n : Nat) (c : Nat → Nat) : Prop := ∃ D : DataW Unit, w.ownsMap Try.prog 26 (plainElem Try.prog 3) b n D ∧ (∀ q : Nat, D.atKey (keyU q) (.lit (.int .i64 0)) = .lit (.int .i64 (c q : Int))) ∧ ∀ q : Nat, has D (keyU q) = decide (0 < c q)
theorem isKeyU (q : Nat) : WideAt.IsKeyLit (keyU q) := trivial
theorem cmap_new (w : World) : CMap (w.alloc (.map #[] 0)) w.heap.size 0 (fun _ => 0) := ⟨.map [], World.ownsMap_made w _ _ _, fun q => rfl, fun q => by simp [has]⟩
theorem CMap.below {w w' : World} {b n B : Nat} {c : Nat → Nat} (h : CMap w b n c) (hb : Below B w w') (hB : b < B) : CMap w' b n c := by
  obtain ⟨D, ⟨es, clock, h1, h2, h3, h4⟩, h5⟩ := h
  exact ⟨D, ⟨es, clock, (hb.block b hB).trans h1, h2, h3, h4⟩, h5⟩
theorem cmap_put {w' : World} {b n : Nat} {c : Nat → Nat} {D : DataW Unit} (hD : IsMap D) (ha : ∀ q : Nat, D.atKey (keyU q) (.lit (.int .i64 0)) = .lit (.int .i64 (c q : Int))) (hh : ∀ q : Nat, has D (keyU q) = decide (0 < c q)) (q : Nat)
    (h : w'.ownsMap Try.prog 26 (plainElem Try.prog 3) b n (D.put (keyU q) (.lit (.int .i64 ((c q + 1 : Nat) : Int))))) : CMap w' b n (upd c q) := by
  refine ⟨_, h, fun r => ?_, fun r => ?_⟩
  · unfold upd
    by_cases e : r = q
    · subst e; rw [if_pos rfl, atKey_put_same hD (isKeyU r)]
    · rw [if_neg e, atKey_put_other (fun e' => e (keyU_inj e')), ha]
  · unfold upd
    by_cases e : r = q
    · subst e; rw [if_pos rfl, has_put_same hD (isKeyU r)]; simp
    · rw [if_neg e, has_put_other (fun e' => e (keyU_inj e')), hh]
theorem cnt_eq {d : DataW Unit} {x e : Nat} {cc : Int} (h1 : d = .lit (.int .i64 cc)) (h2 : d = .lit (.int .i64 (x : Int))) (h3 : x = e) : cc = (e : Int) := by
  rw [h1, h3] at h2; simpa using h2
theorem zeroInt (w : World) : (zeroValue 3).run Try.prog w = .ok (.int .i64 0) w := by kernel_rfl
theorem wf_cnt {x : Nat} (h : x ≤ 4294967296) : (Lit.int .i64 ((x : Nat) : Int)).wf = true := by
  simp [Lit.wf, IntKind.min, IntKind.max, IntKind.signed, IntKind.bits]; omega
theorem wf_cnt1 {x : Nat} (h : x + 1 ≤ 4294967296) : (Lit.int .i64 ((x : Int) + 1)).wf = true := wf_cnt (x := x + 1) h

set_option maxHeartbeats 2000000 in
set_option maxRecDepth 100000 in
/-- gather. -/
theorem gather_any (n0 : Nat) (h2 : 2 ≤ n0) (hle : n0 ≤ 4294967296) (w : World) :
    Calls Try.prog 22 #[.int .u64 (n0 : Int)] w fun e w' => ∃ c, e = .returned (.map (some w.heap.size)) ∧ CMap w' w.heap.size 4294967297 c ∧ Cnt n0 c ∧ Below w.heap.size w w' := by
  have hmm := @run_makeMap Try.prog
  have hsz : ∀ o, (w.alloc o).heap.size = w.heap.size + 1 := fun o => by simp
  go_enter Try.func22, Try.ntmps22
  go_wp2
  go_loopw [0, 4] (fun x y wr => ∃ (n q nb : Nat) (c : Nat → Nat), x = .int .u64 (n : Int) ∧ y = .int .u64 (q : Int) ∧ n ≤ n0 ∧ 2 ≤ q ∧ q ≤ 65537 ∧ nb + n ≤ n0 ∧ Hid (GInv n0 n q c) ∧ Hid (CMap wr w.heap.size nb c) ∧ Below w.heap.size w wr) (fun _ y _ => 65537 - (intOf y).toNat)
  case atStart => exact ⟨n0, 2, 0, _, rfl, rfl, by omega, by omega, by omega, by omega, GInv.start (by omega), cmap_new w, below_alloc _ _⟩
  case round =>
    obtain ⟨n, q, nb, c, rfl, rfl, hn0, hq2, hq6, hnb, HG, HM, hB⟩ := hrel
    obtain ⟨s, hs⟩ : ∃ s, q * q = s := ⟨_, rfl⟩
    have hm := wrap_sq hs (by omega)
    have HS : Hid (q * q = s) := hs
    by_cases hlq : s ≤ n
    · have hq7 : q ≤ 65536 := sq_root (by omega)
      clear hs
      go_wp2
      go_loopw [0] (fun x wi => ∃ (n nb : Nat) (c : Nat → Nat), x = .int .u64 (n : Int) ∧ 1 ≤ n ∧ n ≤ n0 ∧ nb + n ≤ n0 ∧ Hid (GInv n0 n q c) ∧ Hid (CMap wi w.heap.size nb c) ∧ Below w.heap.size w wi) (fun x _ => (intOf x).toNat)
      case atStart => exact ⟨n, nb, c, rfl, HG.out.one, hn0, hnb, HG, HM, hB⟩
      case round =>
        clear HG HM hB hnb hn0 hlq hm HS
        obtain ⟨n, nb, c, rfl, hn1, hn0, hnb, HG, HM, hB⟩ := hrel
        by_cases hr : n % q = 0
        · have hr' : ((n : Int) % (q : Int) == 0) = true := by rw [beq_iff_eq]; omega
          obtain ⟨pq, hG2⟩ := HG.out.step hq2 hr
          have HG2 : Hid (GInv n0 (n / q) q (upd c q)) := hG2
          have hcb := HG.out.small (by omega) q
          obtain ⟨D, hown, ha, hh⟩ := HM.out
          have HA : Hid (∀ q : Nat, D.atKey (keyU q) (.lit (.int .i64 0)) = .lit (.int .i64 (c q : Int))) := ha
          have HH : Hid (∀ q : Nat, has D (keyU q) = decide (0 < c q)) := hh
          have hdiv : n / q < n := Nat.div_lt_self (by omega) hq2
          have hdiv1 : 1 ≤ n / q := hG2.one
          obtain ⟨e, he⟩ : ∃ e, c q = e := ⟨_, rfl⟩
          have HE : Hid (c q = e) := he
          rw [he] at hcb
          have HKQ : Hid (keyOf Try.prog 26 (.int .u64 (q : Int)) = some (keyU q)) := keyOf_mk (x := q) (by omega)
          have hwe : e + 1 ≤ 4294967296 := by omega
          have HNM : Hid (nb < maxLen) := by unfold Hid maxLen; omega
          clear hr ha hh he pq hG2 HG HM
          go_wp2_with (first
            | (at_lookup; refine wpList_lookup_own_int _ rfl _ _ 53 rfl 26 3 .i64 keyed64 Try.underlying53 Try.underlying3 (zeroInt _) w.heap.size nb _ rfl hown _ _ rfl HKQ.out ?_; intro cc hat hwc; obtain rfl := cnt_eq hat (HA.out q) HE.out; clear hat hwc)
            | (at_mapUpdate; refine wpList_mapUpdate_own _ rfl _ _ _ 53 rfl 26 3 keyed64 Try.underlying53 _ w.heap.size nb _ rfl hown HNM.out _ _ _ rfl rfl HKQ.out _ [] (plainElem_int Try.underlying3 (wf_cnt1 hwe)) ?_; intro w1 hown1 hgrow1))
          have HM2 : Hid (CMap w1 w.heap.size (nb + 1) (upd c q)) := cmap_put hown.isMap HA.out HH.out q (by rw [HE.out]; exact hown1)
          have hB2 : Below w.heap.size w w1 := hB.grown hgrow1 hB.size (fun k ek => by cases ek; exact Nat.le_refl _)
          clear hown hown1 hgrow1 HA HH
          go_roundw
          case rel => exact ⟨n / q, nb + 1, upd c q, by go_num, hdiv1, by omega, by omega, HG2, HM2, hB2⟩
          case measure => simp [intOf]; omega
        · have hr' : ((n : Int) % (q : Int) == 0) = false := by rw [beq_eq_false_iff_ne]; omega
          have HG2 : Hid (GInv n0 n (q + 1) c) := HG.out.next hr
          clear HG hr
          go_wp2
          go_roundw
          case rel => exact ⟨n, q + 1, nb, c, rfl, by go_num, hn0, by omega, by omega, hnb, HG2, HM, hB⟩
          case measure => simp [intOf]; omega
    · have hn1 := HG.out.one
      by_cases hg1 : 1 < n
      · obtain ⟨pn, hC⟩ := HG.out.last hg1 (by omega)
        have HC : Hid (Cnt n0 (upd c n)) := hC
        have hcb := HG.out.small (by omega) n
        obtain ⟨D, hown, ha, hh⟩ := HM.out
        have HA : Hid (∀ q : Nat, D.atKey (keyU q) (.lit (.int .i64 0)) = .lit (.int .i64 (c q : Int))) := ha
        have HH : Hid (∀ q : Nat, has D (keyU q) = decide (0 < c q)) := hh
        obtain ⟨e, he⟩ : ∃ e, c n = e := ⟨_, rfl⟩
        have HE : Hid (c n = e) := he
        rw [he] at hcb
        have HKQ : Hid (keyOf Try.prog 26 (.int .u64 (n : Int)) = some (keyU n)) := keyOf_mk (x := n) (by omega)
        have hwe : e + 1 ≤ 4294967296 := by omega
        have HNM : Hid (nb < maxLen) := by unfold Hid maxLen; omega
        clear hs ha hh he pn hC HG HM
        go_wp2_with (first
          | (at_lookup; refine wpList_lookup_own_int _ rfl _ _ 53 rfl 26 3 .i64 keyed64 Try.underlying53 Try.underlying3 (zeroInt _) w.heap.size nb _ rfl hown _ _ rfl HKQ.out ?_; intro cc hat hwc; obtain rfl := cnt_eq hat (HA.out n) HE.out; clear hat hwc)
          | (at_mapUpdate; refine wpList_mapUpdate_own _ rfl _ _ _ 53 rfl 26 3 keyed64 Try.underlying53 _ w.heap.size nb _ rfl hown HNM.out _ _ _ rfl rfl HKQ.out _ [] (plainElem_int Try.underlying3 (wf_cnt1 hwe)) ?_; intro w1 hown1 hgrow1))
        go_ret
        have hB2 : Below w.heap.size w w1 := hB.grown hgrow1 hB.size (fun k ek => by cases ek; exact Nat.le_refl _)
        exact ⟨upd c n, rfl, cmap_put hown.isMap HA.out HH.out n (by rw [HE.out]; exact hown1.mono (by omega)), HC.out, hB2⟩
      · have HC : Hid (Cnt n0 c) := HG.out.done (by omega)
        have HM2 : Hid (CMap wr w.heap.size 4294967297 c) := by
          obtain ⟨D, h, h'⟩ := HM.out
          exact ⟨D, h.mono (by omega), h'⟩
        clear hs HG HM
        go_wp2
        go_ret
        exact ⟨c, rfl, HM2.out, HC.out, hB⟩
end Go.Proofs.Ytafmmkhegkceiaa

/-
  The contract of sieve's Row: the entries of a prime, and of all that it leans on, rising.
-/
import Derived.Test.YtpjfapibjihbbaaGreatDoorF14
import Derived.Test.YtpjfapibjihbbaaGreatDoorF5
namespace Go.Proofs.YtpjfapibjihbbaaGreatDoor
set_option linter.unusedVariables false
open Go.RowKit Go.Maps

theorem look_at {w : World} {b n : Nat} {D : DataW Value} {m : Nat → Option Value} (h1 : w.ownsMap Tryz.prog 22 heldV b n D) (h2 : ∀ (q : Nat) z, D.atKey (keyU q) z = match m q with | some v => .held v | none => z) {q : Nat} {v : Value} (hq : q < 18446744073709551616) (hv : m q = some v) : (Instr.lookup 99 (.map (some b)) (.int .u64 (q : Int)) false).run Tryz.prog w = .ok v w := by
  obtain ⟨v2, ps2, hr2, hR2⟩ := h1.lookup keyed64 Tryz.underlying99 (zeroEn w) (R := heldV) rfl (keyOf_mk hq)
  rw [h2, hv] at hR2
  unfold heldV at hR2
  obtain rfl : v2 = v := by simpa using congrArg Prod.fst (Option.some.inj hR2)
  exact hr2
theorem emap_new (w : World) : EMap (w.alloc (.map #[] 0)) w.heap.size (fun _ => False) := ⟨.map [], fun _ => none, World.ownsMap_made w _ _ _, fun q z => rfl, fun q => (by simp [has]), fun q => (by simp), fun q v h => (by cases h), fun q h => h.elim⟩
theorem post_all {p : Nat} {S' : Nat → Prop} (h : EnterPost p (fun _ => False) S') (hp : p ≠ 2) (x : Nat) : S' x ↔ Cl p x := by
  constructor
  · intro hx
    rcases h.only x hx with a | ⟨_, c⟩
    · exact a.elim
    · exact c
  · intro hc
    exact hc.ind S' (h.has hp) fun r q _ ih hq h2 hd => h.closed r ih (fun h => h) q hq h2 hd
/-- The first k entries lie in a row of the call's own; their factors lie in an elder world. -/
def ERowA (w w2 : World) (e : TypeId) (base : Nat) (v : Value) (k : Nat) (l : List Nat) : Prop := ∃ xs, w.ownsRow base e 3 v k xs ∧ ∀ i q, i < k → l[i]? = some q → ∃ A C, xs[i * 3]? = some (.int .u64 (q : Int)) ∧ xs[i * 3 + 1]? = some (.int .u64 (genOf q : Int)) ∧ xs[i * 3 + 2]? = some (.slice A (lenF q) C) ∧ PowsAt w2 A C (facOf (q - 1))
theorem ERowA.push {w w2 : World} {e : TypeId} {base k q : Nat} {v' : Value} {xs : List Value} {l : List Nat} {A : Option Addr} {C : Nat} (hl : xs.length = k * 3) (h : ∀ i q, i < k → l[i]? = some q → ∃ A C, xs[i * 3]? = some (.int .u64 (q : Int)) ∧ xs[i * 3 + 1]? = some (.int .u64 (genOf q : Int)) ∧ xs[i * 3 + 2]? = some (.slice A (lenF q) C) ∧ PowsAt w2 A C (facOf (q - 1)))
    (hq : l[k]? = some q) (hP : PowsAt w2 A C (facOf (q - 1))) (hown : w.ownsRow base e 3 v' (k + 1) (xs ++ [.int .u64 (q : Int), .int .u64 (genOf q : Int), .slice A (lenF q) C])) : ERowA w w2 e base v' (k + 1) l := by
  refine ⟨_, hown, fun i x hi hx => ?_⟩
  by_cases h' : i < k
  · obtain ⟨A', C', a, b, c, d⟩ := h i x h' hx
    rw [List.getElem?_append_left (by omega), List.getElem?_append_left (by omega), List.getElem?_append_left (by omega)]
    exact ⟨A', C', a, b, c, d⟩
  · obtain rfl : i = k := by omega
    rw [hq] at hx; cases hx
    rw [List.getElem?_append_right (by omega), List.getElem?_append_right (by omega), List.getElem?_append_right (by omega), show i * 3 - xs.length = 0 by omega, show i * 3 + 1 - xs.length = 1 by omega, show i * 3 + 2 - xs.length = 2 by omega]
    exact ⟨A, C, rfl, rfl, rfl, hP⟩
theorem odd_ok {q : Nat} (h : Odd16 q) : (enOf q).p < 18446744073709551616 ∧ (enOf q).g < 18446744073709551616 := by
  have h6 := h.2.2
  have hg := (genOf_spec h).2.1
  refine ⟨?_, ?_⟩
  · show q < _; omega
  · show genOf q < _; omega
theorem ERowA.to {w w2 : World} {e : TypeId} {base : Nat} {v : Value} {l : List Nat} (h : ERowA w w2 e base v l.length l) (hb : Below w2.heap.size w2 w) (ho : ∀ q ∈ l, Odd16 q) : ∃ A C, v = .slice A l.length C ∧ EntsAt w A C (l.map enOf) := by
  obtain ⟨xs, h1, h2⟩ := h
  rcases h1.2 with ⟨hv, hn⟩ | ⟨g, cap, cur, rfl, hbg, hg, hc, hm, _⟩
  · refine ⟨none, 0, by rw [hv, hn], ?_, by unfold maxLen; omega, fun i x hx => ?_⟩
    · rw [List.length_map]; omega
    · have := (List.getElem?_eq_some_iff.1 hx).1; rw [List.length_map] at this; omega
  · refine ⟨_, _, rfl, by rw [List.length_map]; exact hc, hm, fun i x hx => ?_⟩
    rw [List.getElem?_map] at hx
    obtain ⟨q, hq, rfl⟩ := Option.map_eq_some_iff.1 hx
    have hi := (List.getElem?_eq_some_iff.1 hq).1
    obtain ⟨A, C, a, b, c, d⟩ := h2 i q hi hq
    obtain ⟨k1, k2⟩ := odd_ok (ho q (List.mem_of_getElem? hq))
    refine ⟨g, 0, A, C, rfl, (Array.getElem?_eq_some_iff.1 hg).1, ?_, ?_, ?_, d.below hb, k1, k2⟩
    · rw [Nat.zero_add, h1.cellAt (i * 3) (by omega)]; exact a
    · rw [Nat.zero_add, h1.cellAt (i * 3 + 1) (by omega)]; exact b
    · rw [Nat.zero_add, h1.cellAt (i * 3 + 2) (by omega)]; exact c
theorem three_news (w : World) (a b c : Value) (t : TypeId) : ∀ i u, [a, b, c][i]? = some u → (w.alloc (.cells #[a, b, c] t)).cell? ((⟨w.heap.size, 0, none⟩ : Addr).add i) = some u := by
  intro i u hu
  rw [Addr.add_lit, World.cell?_alloc_at _ _ _ _ rfl]
  match i, hu with
  | 0, hu => cases hu; rfl
  | 1, hu => cases hu; rfl
  | 2, hu => cases hu; rfl
  | i + 3, hu => simp at hu
/-- Row's answer for a prime. -/
def RowAns (p : Nat) : Prop := ∀ w, Calls Tryz.prog 37 #[.int .u64 (p : Int)] w fun e w' => ∃ A C, e = .returned (.tuple #[.slice A (rowL p).length C, .int .i64 0]) ∧ EntsAt w' A C (rowOf p) ∧ Below w.heap.size w w'
theorem RowAns.use {p : Nat} (h : RowAns p) {w : World} {R : Ending → World → Prop} (k : ∀ A C w', EntsAt w' A C (rowOf p) → Below w.heap.size w w' → R (.returned (.tuple #[.slice A (rowL p).length C, .int .i64 0])) w') : Calls Tryz.prog 37 #[.int .u64 (p : Int)] w R :=
  (h w).mono fun _ _ ⟨A, C, he, h1, h2⟩ => by subst he; exact k _ _ _ h1 h2
theorem row_none (p : Int) (HP : AnsM 53 #[.int .u64 p] (.bool false)) : AnsM 37 #[.int .u64 p] (.tuple #[.slice none 0 0, .int .i64 1]) := by
  intro w
  go_enter Tryz.func37, Tryz.ntmps37
  go_wp2_with (go_at_call 53; with_reducible refine AnsM.use HP fun w1 hB => ?_)
  go_ret2
  exact ⟨rfl, hB⟩
set_option maxRecDepth 100000 in
set_option maxHeartbeats 4000000 in
theorem row_walk (p : Nat) (ho : Odd16 p) : RowAns p := by
  intro w
  have h3 := ho.2.1
  have h6 := ho.2.2
  have HO : Hid (Odd16 p) := ho
  have HP : AnsM 53 #[.int .u64 (p : Int)] (.bool true) := (provable_any p (by omega)).to (by rw [oddB_iff.2 ho])
  have HN := enter_any p ho.1 h6
  have hmm := @run_makeMap Tryz.prog
  obtain ⟨i1, hi1, hz1, hs1, hb1⟩ := info_parts infoEn
  clear ho
  go_enter Tryz.func37, Tryz.ntmps37
  go_wp2_with (first
    | (go_at_call 53; with_reducible refine AnsM.use HP fun w1 hB1 => ?_; have hE0 : EMap (w1.alloc (.map #[] 0)) w1.heap.size (fun _ => False) := emap_new w1)
    | (go_at_call 54; refine EnterAns.use HN hE0 fun w2 S' hp hE2 hg2 => ?_; refine Hid.out ?_))
  unfold Hid
  have hcl := post_all hp (show p ≠ 2 by omega)
  obtain ⟨b, hb⟩ : ∃ b, w1.heap.size = b := ⟨_, rfl⟩
  have hBw2 : Below w.heap.size w w2 := by
    have h1 : Below w1.heap.size w1 (w1.alloc (.map #[] 0)) := below_alloc _ _
    exact bb hB1 (h1.grown hg2 (by simp) (fun k ek => by cases ek; exact Nat.le_refl _))
  rw [hb] at hE2 ⊢
  obtain ⟨D, m, m1, m2, m3, m4, m5, m6⟩ := hE2
  have hbl : b < w2.heap.size := m1.lt
  obtain ⟨Lc, hLc, hLm⟩ := row_few HO.out
  have hmem : ∀ x, S' x → x ∈ Lc := fun x hx => hLm x ((hcl x).1 hx)
  have hsz12 : Maps.size D ≤ 12 := Nat.le_trans (emap_size m1 m3 m4 Lc hmem) hLc
  obtain ⟨sz, hsz⟩ : ∃ sz, Maps.size D = sz := ⟨_, rfl⟩
  have HSZ : Hid (Maps.size D = sz) := hsz
  rw [hsz] at hsz12
  have HM : Hid ((∀ (q : Nat) z, D.atKey (keyU q) z = match m q with | some v => .held v | none => z) ∧ (∀ q : Nat, has D (keyU q) = (m q).isSome) ∧ (∀ q, (m q).isSome = true ↔ Cl p q) ∧ (∀ q v, m q = some v → EntV w2 q v)) := ⟨m2, m3, fun q => (m4 q).trans (hcl q), m5⟩
  have HK12 : Hid (∀ ss, KeysAre D ss → ss.length ≤ 12) := by
    intro ss hk
    have := nodup_sub_le hk.1 (l2 := Lc) fun x hx => hmem x ((m4 x).1 (by rw [← m3]; exact (hk.2 x).1 hx))
    omega
  clear m2 m3 m4 m5 m6 hsz hLc hLm hmem hp hE0 hg2 hcl hB1 hb HP HN
  go_wp2_with (first
    | (at_len; refine wpList_len_own _ rfl _ 99 rfl 22 78 Tryz.underlying99 _ b _ D rfl m1 ?_; rw [HSZ.out])
    | (at_make; refine Hid.out ?_))
  unfold Hid
  refine wpList_make_own _ rfl _ _ 48 rfl w2.heap.size 78 i1 _ 3 Tryz.underlying48 hi1 hz1 hs1 .i64 .i64 (sz : Int) sz rfl rfl rfl (by rw [hb1]; omega) (by unfold maxLen; omega) (Nat.le_refl _) ?_
  intro w3 hR0 hG3
  have hown3 := m1.kept hG3 (by simp)
  have hB3 : Below w2.heap.size w2 w3 := (Below.refl _ _).grown hG3 (Nat.le_refl _) (fun k ek => by cases ek)
  have hs23 : w2.heap.size ≤ w3.heap.size := hB3.size
  have hc4 := cell_new w3 (.map (some b)) 99
  have hB4 : Below w3.heap.size w3 (w3.alloc (.cells #[.map (some b)] 99)) := below_alloc _ _
  have hs4 : (w3.alloc (.cells #[.map (some b)] 99)).heap.size = w3.heap.size + 1 := by simp
  have hown4 := hown3.alloc (.cells #[.map (some b)] 99)
  obtain ⟨w4, hw4⟩ : ∃ w4, w3.alloc (.cells #[.map (some b)] 99) = w4 := ⟨_, rfl⟩
  rw [hw4] at hc4 hB4 hs4 hown4
  have HW4 : Hid (w3.alloc (.cells #[.map (some b)] 99) = w4) := hw4
  have HS : SortedAns 75 #[.pointer (some ⟨w3.heap.size, 0, none⟩)] w4 (KeysAre D) := by
    refine sorted_any _ _ (enters_of Tryz.func75 (by kernel_rfl) rfl) _ w4 (stops_mono (keysE_stops 3 (by omega) w3.heap.size b _ D w4 (by omega) hc4 hown4) (by rw [HSZ.out]; exact hsz12)) fun ss hk => ?_
    have hmem : ∀ x, x ∈ ss ↔ Cl p x := fun x => by rw [hk.2, HM.out.2.1, HM.out.2.2.1]
    refine ⟨List.length_pos_of_mem ((hmem p).2 Cl.self), HK12.out ss hk, fun x hx => ?_⟩
    have := (((hmem x).1 hx).odd HO.out).2; omega
  clear hw4 hc4 hown3 hG3 m1
  go_wp2_with (first
    | (go_at_call 56; refine (keysE_any _ _).mono ?_; rintro e w' ⟨rfl, hw'⟩; rw [HW4.out] at hw'; subst hw')
    | (go_at_call 55; refine HS.mono ?_; rintro e w5 ⟨g, cap, ss, rfl, hk1, ⟨ss', hk2, hk3⟩, hk4, hB5⟩; refine Hid.out ?_))
  unfold Hid
  have hss : ss = rowL p := by
    refine sorted_ext ?_ (rowL_sorted p) fun x => ?_
    · exact (List.Pairwise.and hk1 (hk2.nodup_iff.2 hk3.1)).imp fun ⟨a, b⟩ => by omega
    · rw [hk2.mem_iff, hk3.2, HM.out.2.1, HM.out.2.2.1, mem_rowL HO.out]
  subst hss
  have hl12 : (rowL p).length ≤ 12 := by rw [hk2.length_eq]; exact HK12.out ss' hk3
  obtain ⟨L, hL⟩ : ∃ L, (rowL p).length = L := ⟨_, rfl⟩
  have HL : Hid ((rowL p).length = L) := hL
  rw [hL] at hk4 hl12 ⊢
  have hB35 : Below w3.heap.size w3 w5 := bb hB4 hB5
  have hB25 : Below w2.heap.size w2 w5 := hB3.trans (hB35.mono hs23)
  have hown5 : w5.ownsMap Tryz.prog 22 heldV b (Maps.size D) D := by
    obtain ⟨es, clock, q1, q2, q3, q4⟩ := hown4
    exact ⟨es, clock, (hB5.block _ (by omega)).trans q1, q2, q3, q4⟩
  have hR5 := owns_below hR0 hB35 (Nat.le_refl _)
  replace hk4 := owns_mono hk4 (base' := w2.heap.size) (by omega)
  clear hB4 hB5 hown4 hR0 hk1 hk2 hk3 HS hL hB3 hB35 hs4
  go_wp2
  go_loopw [5, 22] (fun out v wr => ∃ k : Nat, v = .int .i64 (k : Int) ∧ k ≤ L ∧ Hid (ERowA wr w2 78 w2.heap.size out k (rowL p)) ∧ Hid (wr.ownsMap Tryz.prog 22 heldV b (Maps.size D) D) ∧ wr.ownsRow w2.heap.size 22 1 (.slice (some ⟨g, 0, none⟩) L cap) L ((rowL p).map encU) ∧ Below w2.heap.size w2 wr) (fun _ v _ => L - (intOf v).toNat)
  case atStart => exact ⟨0, rfl, by omega, ⟨[], hR5, fun i f hi => absurd hi (by omega)⟩, hown5, hk4, hB25⟩
  case round =>
    clear hown5 hk4 hB25 hR5
    obtain ⟨k, rfl, hk, HE, HMp, hRk, hB⟩ := hrel
    by_cases hlt : k < L
    · obtain ⟨q, hq⟩ : ∃ q, (rowL p)[k]? = some q := ⟨_, List.getElem?_eq_getElem (by rw [HL.out]; exact hlt)⟩
      have hck : wr.cell? ⟨g, k, none⟩ = some (.int .u64 (q : Int)) := (hRk.cellAt k (by omega)).trans (by rw [List.getElem?_map, hq]; rfl)
      have hclq := (mem_rowL HO.out).1 (List.mem_of_getElem? hq)
      have hq6 := (hclq.odd HO.out).1.2.2
      obtain ⟨v, hv⟩ := Option.isSome_iff_exists.1 ((HM.out.2.2.1 q).2 hclq)
      obtain ⟨A, C, rfl, hPA⟩ := HM.out.2.2.2 q v hv
      have hrun := look_at HMp.out HM.out.1 (by omega) hv
      obtain ⟨G, hG⟩ : ∃ G, genOf q = G := ⟨_, rfl⟩
      obtain ⟨l, hl⟩ : ∃ l, lenF q = l := ⟨_, rfl⟩
      have HGd : Hid (genOf q = G) := hG
      have HLd : Hid (lenF q = l) := hl
      rw [hG, hl] at hrun
      have HQ : Hid ((rowL p)[k]? = some q) := hq
      have HPA : Hid (PowsAt w2 A C (facOf (q - 1))) := hPA
      obtain ⟨xs, hO, hxs⟩ := HE.out
      have HXS : Hid _ := hxs
      have hxl := hO.1
      have hnews := three_news wr (.int .u64 (q : Int)) (.int .u64 (G : Int)) (.slice A l C) 78
      have hO2 := World.ownsRow.alloc hO (.cells #[.int .u64 (q : Int), .int .u64 (G : Int), .slice A l C] 78)
      have hBa : Below w2.heap.size w2 (wr.alloc (.cells #[.int .u64 (q : Int), .int .u64 (G : Int), .slice A l C] 78)) := bb hB (below_alloc _ _)
      have HMa : Hid ((wr.alloc (.cells #[.int .u64 (q : Int), .int .u64 (G : Int), .slice A l C] 78)).ownsMap Tryz.prog 22 heldV b (Maps.size D) D) := World.ownsMap.alloc HMp.out _
      have HRa : Hid ((wr.alloc (.cells #[.int .u64 (q : Int), .int .u64 (G : Int), .slice A l C] 78)).ownsRow w2.heap.size 22 1 (.slice (some ⟨g, 0, none⟩) L cap) L ((rowL p).map encU)) := World.ownsRow.alloc hRk _
      clear hq hclq hv hPA hG hl hxs hO HE HMp hRk
      go_wp2_with (at_builtin; refine Hid.out ?_)
      unfold Hid
      refine (wpList_append_own _ rfl _ _ 48 rfl w2.heap.size 78 i1 _ 3 40 Tryz.underlying48 hi1 hz1 hs1 hb1 rfl (by omega) _ k _ rfl hO2 ⟨wr.heap.size, 0, none⟩ 1 1 [.int .u64 (q : Int), .int .u64 (G : Int), .slice A l C] rfl rfl hnews (by simp [Value.oneCell']) (by unfold maxLen; omega) (by omega) hBa.size ?_)
      intro v' w6 hO3 hG6 _
      have HE6 : Hid (ERowA w6 w2 78 w2.heap.size v' (k + 1) (rowL p)) := by
        refine ERowA.push hxl HXS.out HQ.out HPA.out ?_
        rw [HGd.out, HLd.out]; exact hO3
      have hB6 : Below w2.heap.size w2 w6 := hBa.grown hG6 hBa.size (fun n hn => (hO2.lt n hn).1)
      have HM6 : Hid (w6.ownsMap Tryz.prog 22 heldV b (Maps.size D) D) := World.ownsMap.kept HMa.out hG6 (map_row HMa.out hO2)
      have hR6 := World.ownsRow.kept HRa.out hG6 (owns_apart HRa.out hO2 (by decide))
      clear hO3 hG6 hO2 hBa hnews HXS HMa HRa hrun hck
      go_wp2
      go_roundw
      case rel => exact ⟨k + 1, by go_num, by omega, HE6, HM6, hR6, hB6⟩
      case measure => simp [intOf]; omega
    · obtain rfl : k = L := by omega
      have hE := HE.out
      rw [← HL.out] at hE
      obtain ⟨A, C, hv, hEA⟩ := hE.to hB (fun q hq => (((mem_rowL HO.out).1 hq).odd HO.out).1)
      subst hv
      clear hE HE HMp
      go_wp2
      go_ret2
      exact ⟨A, C, rfl, hEA, bb hBw2 hB⟩
/-- Row, of all numbers. -/
theorem row_any (p : Nat) (ho : Odd16 p) : RowAns p := row_walk p ho
theorem row_no (p : Nat) (hn : p < 18446744073709551616) (ho : ¬ Odd16 p) : AnsM 37 #[.int .u64 (p : Int)] (.tuple #[.slice none 0 0, .int .i64 1]) := by
  refine row_none (p : Int) ((provable_any p hn).to ?_)
  congr 1
  cases hc : oddB p with
  | false => rfl
  | true => exact absurd (oddB_iff.1 hc) ho
end Go.Proofs.YtpjfapibjihbbaaGreatDoor
/-
  What Row answers is right (layer 4), and its last entry is the prime's; the walk of SieveProves.
-/
namespace Go.Proofs.YtpjfapibjihbbaaGreatDoor
set_option linter.unusedVariables false
open Go.RowKit

/-! ### The row is right -/
theorem fac_true (es : List En) (n : Nat) : ∀ (l : List Nat) (i last : Nat), l.Pairwise (· < ·) → (∀ r ∈ l, last < r ∧ 1 ≤ vp r n ∧ vp r n ≤ 62) → (∀ j r, l[j]? = some r → knownB es (i + j) r = true) →
    facLoop es i (prodOf (powsOf n l)) last (l.map fun q => ⟨q, (vp q n : Nat)⟩) = true
  | [], i, last, _, _, _ => rfl
  | r :: l, i, last, hs, hr, hk => by
    rw [List.pairwise_cons] at hs
    obtain ⟨h1, h2, h3⟩ := hr r (by simp)
    have hkr := hk 0 r rfl
    rw [Nat.add_zero] at hkr
    have hw : without (prodOf (powsOf n (r :: l))) r ((vp r n : Nat) : Int) = some (prodOf (powsOf n l)) := by
      refine without_done _ r _ _ (by omega) (by omega) (by omega) ?_
      rw [Int.toNat_natCast, Nat.mul_comm]; rfl
    show facLoop es i (prodOf (powsOf n (r :: l))) last (⟨r, (vp r n : Nat)⟩ :: l.map fun q => ⟨q, (vp q n : Nat)⟩) = true
    rw [fac_some es i _ last _ ⟨r, (vp r n : Nat)⟩ _ (by show ¬ r ≤ last; omega) hkr hw]
    refine fac_true es n l (i + 1) r hs.2 (fun s hs' => ⟨hs.1 s hs', (hr s (by simp [hs'])).2⟩) fun j s hj => ?_
    have := hk (j + 1) s (by simpa using hj)
    rwa [show i + 1 + j = i + (j + 1) by omega]
theorem vp_small {q n : Nat} (hq : 2 ≤ q) (h1 : 1 ≤ n) (hn : n < 65536) : vp q n ≤ 62 := by
  obtain ⟨m, he, hm⟩ := vp_ex q hq n h1
  refine Nat.le_of_not_lt fun hl => ?_
  have hm0 : 0 < m := Nat.pos_of_ne_zero fun h => hm (h ▸ Nat.dvd_zero q)
  have h2 : 2 ^ 16 ≤ q ^ vp q n := Nat.le_trans (Nat.pow_le_pow_right (by omega) (show 16 ≤ vp q n by omega)) (Nat.pow_le_pow_left hq _)
  have h3 : q ^ vp q n * 1 ≤ q ^ vp q n * m := Nat.mul_le_mul_left _ hm0
  have h4 : (2 : Nat) ^ 16 = 65536 := by decide
  omega
theorem odd_of {q : Nat} (h : Odd16 q) : q % 2 = 1 := by
  rcases Nat.mod_two_eq_zero_or_one q with e | e
  · have := h.2.1
    rcases h.1.2 2 (Nat.dvd_of_mod_eq_zero e) with a | a <;> omega
  · exact e
theorem pf_even {n : Nat} (h1 : 1 ≤ n) (h2 : 2 ∣ n) : (pf n)[0]? = some 2 := by
  have hm := (mem_pf h1).2 ⟨prm_two, h2⟩
  have hpos := List.length_pos_of_mem hm
  obtain ⟨i, hi, he⟩ := List.getElem_of_mem hm
  have h0 : (pf n)[0] ≥ 2 := ((mem_pf h1).1 (List.getElem_mem hpos)).1.1
  rw [List.getElem?_eq_getElem hpos]
  congr 1
  by_cases e : i = 0
  · subst e; exact he
  · have := List.pairwise_iff_getElem.1 (pf_sorted n) 0 i hpos hi (by omega)
    omega
theorem row_take {p k q r : Nat} (hp : Odd16 p) (hq : (rowL p)[k]? = some q) (hr : Cl p r) (hl : r < q) : ∃ j, j < k ∧ (rowL p)[j]? = some r := by
  obtain ⟨j, hj, he⟩ := List.getElem_of_mem ((mem_rowL hp).2 hr)
  obtain ⟨hk, hqe⟩ := List.getElem?_eq_some_iff.1 hq
  refine ⟨j, Nat.lt_of_not_le fun hle => ?_, by rw [List.getElem?_eq_getElem hj, he]⟩
  by_cases e : j = k
  · subst e; rw [he] at hqe; omega
  · have := List.pairwise_iff_getElem.1 (rowL_sorted p) k j hk hj (by omega)
    omega
theorem row_right {p k q : Nat} (hp : Odd16 p) (hq : (rowL p)[k]? = some q) : rightB ((rowOf p).take k) (enOf q) = true := by
  have hcl := (mem_rowL hp).1 (List.mem_of_getElem? hq)
  obtain ⟨ho, hqp⟩ := hcl.odd hp
  obtain ⟨pq, h3, h6⟩ := ho
  have hodd := odd_of ⟨pq, h3, h6⟩
  have hn1 : 1 ≤ q - 1 := by omega
  obtain ⟨g1, g2, g3, g4⟩ := genOf_spec ⟨pq, h3, h6⟩
  have hk := (List.getElem?_eq_some_iff.1 hq).1
  unfold rightB
  rw [Bool.and_eq_true, Bool.and_eq_true, Bool.and_eq_true]
  refine ⟨@decide_eq_true _ (gdDec _) ?_, ?_, ?_, ?_⟩
  · exact ⟨hodd, show 1 < q by omega, show q < _ by omega⟩
  · unfold climbsB
    cases hlast : ((rowOf p).take k).getLast? with
    | none => rfl
    | some y =>
      show decide (y.p < q) = true
      have hm := List.mem_of_getLast? hlast
      obtain ⟨j, hj, he⟩ := List.getElem_of_mem hm
      rw [List.length_take] at hj
      rw [List.getElem_take] at he
      have hj' : j < (rowL p).length := by omega
      have hy : y.p = (rowL p)[j] := by rw [← he]; simp [rowOf, enOf]
      have hqe := (List.getElem?_eq_some_iff.1 hq).2
      have := List.pairwise_iff_getElem.1 (rowL_sorted p) j k hj' hk (by omega)
      rw [decide_eq_true_iff, hy]; omega
  · have hfs : (enOf q).fs = facOf (q - 1) := rfl
    unfold factoredB
    rw [hfs, facOf_len]
    have hlen : (pf (q - 1)).length ≤ 11 := pf_few hn1 (by omega)
    have hp0 := pf_even hn1 (show 2 ∣ q - 1 from ⟨(q - 1) / 2, by omega⟩)
    have hpos := (List.getElem?_eq_some_iff.1 hp0).1
    rw [if_neg (by omega)]
    have h := fac_true ((rowOf p).take k) (q - 1) (pf (q - 1)) 0 0 (pf_sorted _) (fun r hr => by
        obtain ⟨a, b⟩ := (mem_pf hn1).1 hr
        exact ⟨by have := a.1; omega, (vp_pos a.1 hn1).2 b, vp_small a.1 hn1 (by omega)⟩) fun j r hj => by
      rw [Nat.zero_add]
      unfold knownB
      by_cases hj0 : j = 0
      · subst hj0
        rw [hp0] at hj; cases hj
        rw [if_pos rfl]; rfl
      · rw [if_neg hj0, List.any_eq_true]
        obtain ⟨a, b⟩ := (mem_pf hn1).1 (List.mem_of_getElem? hj)
        have hr2 : r ≠ 2 := by
          intro e
          have hjl := (List.getElem?_eq_some_iff.1 hj).1
          have := List.pairwise_iff_getElem.1 (pf_sorted (q - 1)) 0 j hpos hjl (by omega)
          rw [(List.getElem?_eq_some_iff.1 hj).2, (List.getElem?_eq_some_iff.1 hp0).2] at this
          omega
        have hrl := Nat.le_of_dvd hn1 b
        obtain ⟨i, hi, hri⟩ := row_take hp hq (Cl.step hcl a hr2 b) (by omega)
        refine ⟨enOf r, ?_, by simp [enOf]⟩
        refine List.mem_of_getElem? (i := i) ?_
        rw [List.getElem?_take, if_pos hi, rowOf, List.getElem?_map, hri]; rfl
    rw [prod_fac hn1] at h
    exact h
  · unfold generatesB
    have e1 : (enOf q).g = genOf q := rfl
    have e2 : (enOf q).p = q := rfl
    have e3 : (enOf q).fs = facOf (q - 1) := rfl
    rw [e1, e2, e3, if_neg (by omega)]
    have hnd : ¬ q ∣ genOf q := fun h => by have := Nat.le_of_dvd (by omega) h; omega
    have h1 : oneAt (enOf q) (q - 1) = true := by unfold oneAt; rw [e1, e2, fermat pq hnd]; rfl
    rw [h1, if_pos rfl, Bool.not_eq_true', List.any_eq_false]
    intro f hf
    obtain ⟨r, hr, rfl⟩ := List.mem_map.1 hf
    have := g3 r hr
    unfold oneAt
    rw [e1, e2]
    simpa using this
theorem row_len (p : Nat) : (rowOf p).length = (rowL p).length := by simp [rowOf]
theorem rowL_few {p : Nat} (hp : Odd16 p) : (rowL p).length ≤ 12 := by
  obtain ⟨L, h1, h2⟩ := row_few hp
  exact Nat.le_trans (nodup_sub_le ((rowL_sorted p).imp fun h => by omega) fun x hx => h2 x ((mem_rowL hp).1 hx)) h1
theorem row_checks {p : Nat} (hp : Odd16 p) : checkV (rowOf p) = .tuple #[.int .i64 0, .int .i64 0] := by
  unfold checkV
  rw [row_len, if_neg (by have := rowL_few hp; omega)]
  rw [check_none fun j hj => ?_]
  rw [row_len] at hj
  unfold badAt
  rw [rowOf, List.getElem?_map, List.getElem?_eq_getElem hj]
  show (!rightB ((rowOf p).take j) (enOf (rowL p)[j])) = false
  rw [row_right hp (List.getElem?_eq_getElem hj)]; rfl
/-- The last entry is the prime's. -/
theorem row_last {p : Nat} (hp : Odd16 p) : ∃ k, (rowL p).length = k + 1 ∧ (rowL p)[k]? = some p ∧ ((rowOf p).findIdx? fun x => x.p == p) = some k := by
  have hm := (mem_rowL hp).2 (Cl.self (p := p))
  obtain ⟨k, hk, he⟩ := List.getElem_of_mem hm
  have hle : ∀ j (hj : j < (rowL p).length), (rowL p)[j] ≤ p := fun j hj => (((mem_rowL hp).1 (List.getElem_mem hj)).odd hp).2
  have hlast : (rowL p).length = k + 1 := by
    refine Classical.byContradiction fun hne => ?_
    have hk1 : k + 1 < (rowL p).length := by omega
    have := List.pairwise_iff_getElem.1 (rowL_sorted p) k (k + 1) hk hk1 (by omega)
    have := hle (k + 1) hk1
    omega
  have hg : (rowL p)[k]? = some p := by rw [List.getElem?_eq_getElem hk, he]
  refine ⟨k, hlast, hg, found (x := enOf p) ?_ (by simp [enOf]) fun j y hj hy => ?_⟩
  · rw [rowOf, List.getElem?_map, hg]; rfl
  · rw [rowOf, List.getElem?_map] at hy
    obtain ⟨r, hr, rfl⟩ := Option.map_eq_some_iff.1 hy
    obtain ⟨hjl, hre⟩ := List.getElem?_eq_some_iff.1 hr
    have := List.pairwise_iff_getElem.1 (rowL_sorted p) j k hjl hk hj
    show (r == p) = false
    rw [beq_eq_false_iff_ne]; omega
end Go.Proofs.YtpjfapibjihbbaaGreatDoor

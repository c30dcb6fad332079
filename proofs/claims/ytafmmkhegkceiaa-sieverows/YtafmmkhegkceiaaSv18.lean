/-
  The contract of sieve's Row: the entries of a prime, and of all that it leans on, rising.
-/
import Derived.Test.YtafmmkhegkceiaaSv17
namespace Go.Proofs.Ytafmmkhegkceiaa
set_option linter.unusedVariables false
open Go.RowKit Go.Maps

theorem look_at {w : World} {b n : Nat} {D : DataW Value} {m : Nat → Option Value} (h1 : w.ownsMap Try.prog 26 heldV b n D) (h2 : ∀ (q : Nat) z, D.atKey (keyU q) z = match m q with | some v => .held v | none => z) {q : Nat} {v : Value} (hq : q < 18446744073709551616) (hv : m q = some v) : (Instr.lookup 62 (.map (some b)) (.int .u64 (q : Int)) false).run Try.prog w = .ok v w := by
  obtain ⟨v2, ps2, hr2, hR2⟩ := h1.lookup keyed64 Try.underlying62 (zeroEn w) (R := heldV) rfl (keyOf_mk hq)
  rw [h2, hv] at hR2
  unfold heldV at hR2
  obtain rfl : v2 = v := by simpa using congrArg Prod.fst (Option.some.inj hR2)
  exact hr2
theorem emap_new (w : World) : EMap (w.alloc (.map #[] 0)) w.heap.size (fun _ => False) := ⟨.map [], fun _ => none, World.ownsMap_made w _ _ _, fun q z => rfl, fun q => (by simp [has]), fun q => (by simp), fun q v h => (by cases h), fun q h => h.elim⟩
theorem post_all {p : Nat} {S' : Nat → Prop} (h : EnterPost p (fun _ => False) S') (hp : p ≠ 2) (x : Nat) : S' x ↔ Cl p x := by
  constructor
  · intro hx
    rcases h.only x hx with a | ⟨_, c⟩
    · exact a.elim
    · exact c
  · intro hc
    exact hc.ind S' (h.has hp) fun r q _ ih hq h2 hd => h.closed r ih (fun h => h) q hq h2 hd
/-- The first k entries lie in a row of the call's own; their factors lie in an elder world. -/
def ERowA (w w2 : World) (e : TypeId) (base : Nat) (v : Value) (k : Nat) (l : List Nat) : Prop := ∃ xs, w.ownsRow base e 3 v k xs ∧ ∀ i q, i < k → l[i]? = some q → ∃ A C, xs[i * 3]? = some (.int .u64 (q : Int)) ∧ xs[i * 3 + 1]? = some (.int .u64 (genOf q : Int)) ∧ xs[i * 3 + 2]? = some (.slice A (lenF q) C) ∧ PowsAt w2 A C (facOf (q - 1))
theorem ERowA.push {w w2 : World} {e : TypeId} {base k q : Nat} {v' : Value} {xs : List Value} {l : List Nat} {A : Option Addr} {C : Nat} (hl : xs.length = k * 3) (h : ∀ i q, i < k → l[i]? = some q → ∃ A C, xs[i * 3]? = some (.int .u64 (q : Int)) ∧ xs[i * 3 + 1]? = some (.int .u64 (genOf q : Int)) ∧ xs[i * 3 + 2]? = some (.slice A (lenF q) C) ∧ PowsAt w2 A C (facOf (q - 1)))
    (hq : l[k]? = some q) (hP : PowsAt w2 A C (facOf (q - 1))) (hown : w.ownsRow base e 3 v' (k + 1) (xs ++ [.int .u64 (q : Int), .int .u64 (genOf q : Int), .slice A (lenF q) C])) : ERowA w w2 e base v' (k + 1) l := by
  refine ⟨_, hown, fun i x hi hx => ?_⟩
  by_cases h' : i < k
  · obtain ⟨A', C', a, b, c, d⟩ := h i x h' hx
    rw [List.getElem?_append_left (by omega), List.getElem?_append_left (by omega), List.getElem?_append_left (by omega)]
    exact ⟨A', C', a, b, c, d⟩
  · obtain rfl : i = k := by omega
    rw [hq] at hx; cases hx
    rw [List.getElem?_append_right (by omega), List.getElem?_append_right (by omega), List.getElem?_append_right (by omega), show i * 3 - xs.length = 0 by omega, show i * 3 + 1 - xs.length = 1 by omega, show i * 3 + 2 - xs.length = 2 by omega]
    exact ⟨A, C, rfl, rfl, rfl, hP⟩
theorem odd_ok {q : Nat} (h : Odd16 q) : (enOf q).p < 18446744073709551616 ∧ (enOf q).g < 18446744073709551616 := by
  have h6 := h.2.2
  have hg := (genOf_spec h).2.1
  refine ⟨?_, ?_⟩
  · show q < _; omega
  · show genOf q < _; omega
theorem ERowA.to {w w2 : World} {e : TypeId} {base : Nat} {v : Value} {l : List Nat} (h : ERowA w w2 e base v l.length l) (hb : Below w2.heap.size w2 w) (ho : ∀ q ∈ l, Odd16 q) : ∃ A C, v = .slice A l.length C ∧ EntsAt w A C (l.map enOf) := by
  obtain ⟨xs, h1, h2⟩ := h
  rcases h1.2 with ⟨hv, hn⟩ | ⟨g, cap, cur, rfl, hbg, hg, hc, hm, _⟩
  · refine ⟨none, 0, by rw [hv, hn], ?_, by unfold maxLen; omega, fun i x hx => ?_⟩
    · rw [List.length_map]; omega
    · have := (List.getElem?_eq_some_iff.1 hx).1; rw [List.length_map] at this; omega
  · refine ⟨_, _, rfl, by rw [List.length_map]; exact hc, hm, fun i x hx => ?_⟩
    rw [List.getElem?_map] at hx
    obtain ⟨q, hq, rfl⟩ := Option.map_eq_some_iff.1 hx
    have hi := (List.getElem?_eq_some_iff.1 hq).1
    obtain ⟨A, C, a, b, c, d⟩ := h2 i q hi hq
    obtain ⟨k1, k2⟩ := odd_ok (ho q (List.mem_of_getElem? hq))
    refine ⟨g, 0, A, C, rfl, (Array.getElem?_eq_some_iff.1 hg).1, ?_, ?_, ?_, d.below hb, k1, k2⟩
    · rw [Nat.zero_add, h1.cellAt (i * 3) (by omega)]; exact a
    · rw [Nat.zero_add, h1.cellAt (i * 3 + 1) (by omega)]; exact b
    · rw [Nat.zero_add, h1.cellAt (i * 3 + 2) (by omega)]; exact c
theorem three_news (w : World) (a b c : Value) (t : TypeId) : ∀ i u, [a, b, c][i]? = some u → (w.alloc (.cells #[a, b, c] t)).cell? ((⟨w.heap.size, 0, none⟩ : Addr).add i) = some u := by
  intro i u hu
  rw [Addr.add_lit, World.cell?_alloc_at _ _ _ _ rfl]
  match i, hu with
  | 0, hu => cases hu; rfl
  | 1, hu => cases hu; rfl
  | 2, hu => cases hu; rfl
  | i + 3, hu => simp at hu
/-- Row's answer for a prime. -/
def RowAns (p : Nat) : Prop := ∀ w, Calls Try.prog 17 #[.int .u64 (p : Int)] w fun e w' => ∃ A C, e = .returned (.tuple #[.slice A (rowL p).length C, .int .i64 0]) ∧ EntsAt w' A C (rowOf p) ∧ Below w.heap.size w w'
theorem RowAns.use {p : Nat} (h : RowAns p) {w : World} {R : Ending → World → Prop} (k : ∀ A C w', EntsAt w' A C (rowOf p) → Below w.heap.size w w' → R (.returned (.tuple #[.slice A (rowL p).length C, .int .i64 0])) w') : Calls Try.prog 17 #[.int .u64 (p : Int)] w R :=
  (h w).mono fun _ _ ⟨A, C, he, h1, h2⟩ => by subst he; exact k _ _ _ h1 h2
theorem row_none (p : Int) (HP : AnsM 25 #[.int .u64 p] (.bool false)) : AnsM 17 #[.int .u64 p] (.tuple #[.slice none 0 0, .int .i64 1]) := by
  intro w
  go_enter Try.func17, Try.ntmps17
  go_wp2_with (go_at_call 25; with_reducible refine AnsM.use HP fun w1 hB => ?_)
  go_ret2
  exact ⟨rfl, hB⟩
set_option maxRecDepth 100000 in
set_option maxHeartbeats 4000000 in
theorem row_walk (p : Nat) (ho : Odd16 p) : RowAns p := by
  intro w
  have h3 := ho.2.1
  have h6 := ho.2.2
  have HO : Hid (Odd16 p) := ho
  have HP : AnsM 25 #[.int .u64 (p : Int)] (.bool true) := (provable_any p (by omega)).to (by rw [oddB_iff.2 ho])
  have HN := enter_any p ho.1 h6
  have hmm := @run_makeMap Try.prog
  obtain ⟨i1, hi1, hz1, hs1, hb1⟩ := info_parts infoEn
  clear ho
  go_enter Try.func17, Try.ntmps17
  go_wp2_with (first
    | (go_at_call 25; with_reducible refine AnsM.use HP fun w1 hB1 => ?_; have hE0 : EMap (w1.alloc (.map #[] 0)) w1.heap.size (fun _ => False) := emap_new w1)
    | (go_at_call 29; refine EnterAns.use HN hE0 fun w2 S' hp hE2 hg2 => ?_; refine Hid.out ?_))
  unfold Hid
  have hcl := post_all hp (show p ≠ 2 by omega)
  obtain ⟨b, hb⟩ : ∃ b, w1.heap.size = b := ⟨_, rfl⟩
  have hBw2 : Below w.heap.size w w2 := by
    have h1 : Below w1.heap.size w1 (w1.alloc (.map #[] 0)) := below_alloc _ _
    exact bb hB1 (h1.grown hg2 (by simp) (fun k ek => by cases ek; exact Nat.le_refl _))
  rw [hb] at hE2 ⊢
  obtain ⟨D, m, m1, m2, m3, m4, m5, m6⟩ := hE2
  have hbl : b < w2.heap.size := m1.lt
  obtain ⟨Lc, hLc, hLm⟩ := row_few HO.out
  have hmem : ∀ x, S' x → x ∈ Lc := fun x hx => hLm x ((hcl x).1 hx)
  have hsz12 : Maps.size D ≤ 12 := Nat.le_trans (emap_size m1 m3 m4 Lc hmem) hLc
  obtain ⟨sz, hsz⟩ : ∃ sz, Maps.size D = sz := ⟨_, rfl⟩
  have HSZ : Hid (Maps.size D = sz) := hsz
  rw [hsz] at hsz12
  have HM : Hid ((∀ (q : Nat) z, D.atKey (keyU q) z = match m q with | some v => .held v | none => z) ∧ (∀ q : Nat, has D (keyU q) = (m q).isSome) ∧ (∀ q, (m q).isSome = true ↔ Cl p q) ∧ (∀ q v, m q = some v → EntV w2 q v)) := ⟨m2, m3, fun q => (m4 q).trans (hcl q), m5⟩
  have HK12 : Hid (∀ ss, KeysAre D ss → ss.length ≤ 12) := by
    intro ss hk
    have := nodup_sub_le hk.1 (l2 := Lc) fun x hx => hmem x ((m4 x).1 (by rw [← m3]; exact (hk.2 x).1 hx))
    omega
  clear m2 m3 m4 m5 m6 hsz hLc hLm hmem hp hE0 hg2 hcl hB1 hb HP HN
  go_wp2_with (first
    | (at_len; refine wpList_len_own _ rfl _ 62 rfl 26 45 Try.underlying62 _ b _ D rfl m1 ?_; rw [HSZ.out])
    | (at_make; refine Hid.out ?_))
  unfold Hid
  refine wpList_make_own _ rfl _ _ 38 rfl w2.heap.size 45 i1 _ 3 Try.underlying38 hi1 hz1 hs1 .i64 .i64 (sz : Int) sz rfl rfl rfl (by rw [hb1]; omega) (by unfold maxLen; omega) (Nat.le_refl _) ?_
  intro w3 hR0 hG3
  have hown3 := m1.kept hG3 (by simp)
  have hB3 : Below w2.heap.size w2 w3 := (Below.refl _ _).grown hG3 (Nat.le_refl _) (fun k ek => by cases ek)
  have hs23 : w2.heap.size ≤ w3.heap.size := hB3.size
  have hc4 := cell_new w3 (.map (some b)) 62
  have hB4 : Below w3.heap.size w3 (w3.alloc (.cells #[.map (some b)] 62)) := below_alloc _ _
  have hs4 : (w3.alloc (.cells #[.map (some b)] 62)).heap.size = w3.heap.size + 1 := by simp
  have hown4 := hown3.alloc (.cells #[.map (some b)] 62)
  obtain ⟨w4, hw4⟩ : ∃ w4, w3.alloc (.cells #[.map (some b)] 62) = w4 := ⟨_, rfl⟩
  rw [hw4] at hc4 hB4 hs4 hown4
  have HW4 : Hid (w3.alloc (.cells #[.map (some b)] 62) = w4) := hw4
  have HS : SortedAns 42 #[.pointer (some ⟨w3.heap.size, 0, none⟩)] w4 (KeysAre D) := by
    refine sorted_any _ _ (enters_of Try.func42 (by kernel_rfl) rfl) _ w4 (stops_mono (keysE_stops 3 (by omega) w3.heap.size b _ D w4 (by omega) hc4 hown4) (by rw [HSZ.out]; exact hsz12)) fun ss hk => ?_
    have hmem : ∀ x, x ∈ ss ↔ Cl p x := fun x => by rw [hk.2, HM.out.2.1, HM.out.2.2.1]
    refine ⟨List.length_pos_of_mem ((hmem p).2 Cl.self), HK12.out ss hk, fun x hx => ?_⟩
    have := (((hmem x).1 hx).odd HO.out).2; omega
  clear hw4 hc4 hown3 hG3 m1
  go_wp2_with (first
    | (go_at_call 30; refine (keysE_any _ _).mono ?_; rintro e w' ⟨rfl, hw'⟩; rw [HW4.out] at hw'; subst hw')
    | (go_at_call 23; refine HS.mono ?_; rintro e w5 ⟨g, cap, ss, rfl, hk1, ⟨ss', hk2, hk3⟩, hk4, hB5⟩; refine Hid.out ?_))
  unfold Hid
  have hss : ss = rowL p := by
    refine sorted_ext ?_ (rowL_sorted p) fun x => ?_
    · exact (List.Pairwise.and hk1 (hk2.nodup_iff.2 hk3.1)).imp fun ⟨a, b⟩ => by omega
    · rw [hk2.mem_iff, hk3.2, HM.out.2.1, HM.out.2.2.1, mem_rowL HO.out]
  subst hss
  have hl12 : (rowL p).length ≤ 12 := by rw [hk2.length_eq]; exact HK12.out ss' hk3
  obtain ⟨L, hL⟩ : ∃ L, (rowL p).length = L := ⟨_, rfl⟩
  have HL : Hid ((rowL p).length = L) := hL
  rw [hL] at hk4 hl12 ⊢
  have hB35 : Below w3.heap.size w3 w5 := bb hB4 hB5
  have hB25 : Below w2.heap.size w2 w5 := hB3.trans (hB35.mono hs23)
  have hown5 : w5.ownsMap Try.prog 26 heldV b (Maps.size D) D := by
    obtain ⟨es, clock, q1, q2, q3, q4⟩ := hown4
    exact ⟨es, clock, (hB5.block _ (by omega)).trans q1, q2, q3, q4⟩
  have hR5 := owns_below hR0 hB35 (Nat.le_refl _)
  replace hk4 := owns_mono hk4 (base' := w2.heap.size) (by omega)
  clear hB4 hB5 hown4 hR0 hk1 hk2 hk3 HS hL hB3 hB35 hs4
  go_wp2
  go_loopw [5, 22] (fun out v wr => ∃ k : Nat, v = .int .i64 (k : Int) ∧ k ≤ L ∧ Hid (ERowA wr w2 45 w2.heap.size out k (rowL p)) ∧ Hid (wr.ownsMap Try.prog 26 heldV b (Maps.size D) D) ∧ wr.ownsRow w2.heap.size 26 1 (.slice (some ⟨g, 0, none⟩) L cap) L ((rowL p).map encU) ∧ Below w2.heap.size w2 wr) (fun _ v _ => L - (intOf v).toNat)
  case atStart => exact ⟨0, rfl, by omega, ⟨[], hR5, fun i f hi => absurd hi (by omega)⟩, hown5, hk4, hB25⟩
  case round =>
    clear hown5 hk4 hB25 hR5
    obtain ⟨k, rfl, hk, HE, HMp, hRk, hB⟩ := hrel
    by_cases hlt : k < L
    · obtain ⟨q, hq⟩ : ∃ q, (rowL p)[k]? = some q := ⟨_, List.getElem?_eq_getElem (by rw [HL.out]; exact hlt)⟩
      have hck : wr.cell? ⟨g, k, none⟩ = some (.int .u64 (q : Int)) := (hRk.cellAt k (by omega)).trans (by rw [List.getElem?_map, hq]; rfl)
      have hclq := (mem_rowL HO.out).1 (List.mem_of_getElem? hq)
      have hq6 := (hclq.odd HO.out).1.2.2
      obtain ⟨v, hv⟩ := Option.isSome_iff_exists.1 ((HM.out.2.2.1 q).2 hclq)
      obtain ⟨A, C, rfl, hPA⟩ := HM.out.2.2.2 q v hv
      have hrun := look_at HMp.out HM.out.1 (by omega) hv
      obtain ⟨G, hG⟩ : ∃ G, genOf q = G := ⟨_, rfl⟩
      obtain ⟨l, hl⟩ : ∃ l, lenF q = l := ⟨_, rfl⟩
      have HGd : Hid (genOf q = G) := hG
      have HLd : Hid (lenF q = l) := hl
      rw [hG, hl] at hrun
      have HQ : Hid ((rowL p)[k]? = some q) := hq
      have HPA : Hid (PowsAt w2 A C (facOf (q - 1))) := hPA
      obtain ⟨xs, hO, hxs⟩ := HE.out
      have HXS : Hid _ := hxs
      have hxl := hO.1
      have hnews := three_news wr (.int .u64 (q : Int)) (.int .u64 (G : Int)) (.slice A l C) 45
      have hO2 := World.ownsRow.alloc hO (.cells #[.int .u64 (q : Int), .int .u64 (G : Int), .slice A l C] 45)
      have hBa : Below w2.heap.size w2 (wr.alloc (.cells #[.int .u64 (q : Int), .int .u64 (G : Int), .slice A l C] 45)) := bb hB (below_alloc _ _)
      have HMa : Hid ((wr.alloc (.cells #[.int .u64 (q : Int), .int .u64 (G : Int), .slice A l C] 45)).ownsMap Try.prog 26 heldV b (Maps.size D) D) := World.ownsMap.alloc HMp.out _
      have HRa : Hid ((wr.alloc (.cells #[.int .u64 (q : Int), .int .u64 (G : Int), .slice A l C] 45)).ownsRow w2.heap.size 26 1 (.slice (some ⟨g, 0, none⟩) L cap) L ((rowL p).map encU)) := World.ownsRow.alloc hRk _
      clear hq hclq hv hPA hG hl hxs hO HE HMp hRk
      go_wp2_with (at_builtin; refine Hid.out ?_)
      unfold Hid
      refine (wpList_append_own _ rfl _ _ 38 rfl w2.heap.size 45 i1 _ 3 40 Try.underlying38 hi1 hz1 hs1 hb1 rfl (by omega) _ k _ rfl hO2 ⟨wr.heap.size, 0, none⟩ 1 1 [.int .u64 (q : Int), .int .u64 (G : Int), .slice A l C] rfl rfl hnews (by simp [Value.oneCell']) (by unfold maxLen; omega) (by omega) hBa.size ?_)
      intro v' w6 hO3 hG6 _
      have HE6 : Hid (ERowA w6 w2 45 w2.heap.size v' (k + 1) (rowL p)) := by
        refine ERowA.push hxl HXS.out HQ.out HPA.out ?_
        rw [HGd.out, HLd.out]; exact hO3
      have hB6 : Below w2.heap.size w2 w6 := hBa.grown hG6 hBa.size (fun n hn => (hO2.lt n hn).1)
      have HM6 : Hid (w6.ownsMap Try.prog 26 heldV b (Maps.size D) D) := World.ownsMap.kept HMa.out hG6 (map_row HMa.out hO2)
      have hR6 := World.ownsRow.kept HRa.out hG6 (owns_apart HRa.out hO2 (by decide))
      clear hO3 hG6 hO2 hBa hnews HXS HMa HRa hrun hck
      go_wp2
      go_roundw
      case rel => exact ⟨k + 1, by go_num, by omega, HE6, HM6, hR6, hB6⟩
      case measure => simp [intOf]; omega
    · obtain rfl : k = L := by omega
      have hE := HE.out
      rw [← HL.out] at hE
      obtain ⟨A, C, hv, hEA⟩ := hE.to hB (fun q hq => (((mem_rowL HO.out).1 hq).odd HO.out).1)
      subst hv
      clear hE HE HMp
      go_wp2
      go_ret2
      exact ⟨A, C, rfl, hEA, bb hBw2 hB⟩
/-- Row, of all numbers. -/
theorem row_any (p : Nat) (ho : Odd16 p) : RowAns p := row_walk p ho
theorem row_no (p : Nat) (hn : p < 18446744073709551616) (ho : ¬ Odd16 p) : AnsM 17 #[.int .u64 (p : Int)] (.tuple #[.slice none 0 0, .int .i64 1]) := by
  refine row_none (p : Int) ((provable_any p hn).to ?_)
  congr 1
  cases hc : oddB p with
  | false => rfl
  | true => exact absurd (oddB_iff.1 hc) ho
end Go.Proofs.Ytafmmkhegkceiaa

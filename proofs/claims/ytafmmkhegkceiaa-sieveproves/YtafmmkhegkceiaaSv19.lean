/-
  What Row answers is right (layer 4), and its last entry is the prime's; the walk of SieveProves.
-/
import Derived.Test.YtafmmkhegkceiaaSv18
import Derived.Test.YtafmmkhegkceiaaCl2S
namespace Go.Proofs.Ytafmmkhegkceiaa
set_option linter.unusedVariables false
open Go.RowKit

/-! ### The row is right -/
theorem fac_true (es : List En) (n : Nat) : ∀ (l : List Nat) (i last : Nat), l.Pairwise (· < ·) → (∀ r ∈ l, last < r ∧ 1 ≤ vp r n ∧ vp r n ≤ 62) → (∀ j r, l[j]? = some r → knownB es (i + j) r = true) →
    facLoop es i (prodOf (powsOf n l)) last (l.map fun q => ⟨q, (vp q n : Nat)⟩) = true
  | [], i, last, _, _, _ => rfl
  | r :: l, i, last, hs, hr, hk => by
    rw [List.pairwise_cons] at hs
    obtain ⟨h1, h2, h3⟩ := hr r (by simp)
    have hkr := hk 0 r rfl
    rw [Nat.add_zero] at hkr
    have hw : without (prodOf (powsOf n (r :: l))) r ((vp r n : Nat) : Int) = some (prodOf (powsOf n l)) := by
      refine without_done _ r _ _ (by omega) (by omega) (by omega) ?_
      rw [Int.toNat_natCast, Nat.mul_comm]; rfl
    show facLoop es i (prodOf (powsOf n (r :: l))) last (⟨r, (vp r n : Nat)⟩ :: l.map fun q => ⟨q, (vp q n : Nat)⟩) = true
    rw [fac_some es i _ last _ ⟨r, (vp r n : Nat)⟩ _ (by show ¬ r ≤ last; omega) hkr hw]
    refine fac_true es n l (i + 1) r hs.2 (fun s hs' => ⟨hs.1 s hs', (hr s (by simp [hs'])).2⟩) fun j s hj => ?_
    have := hk (j + 1) s (by simpa using hj)
    rwa [show i + 1 + j = i + (j + 1) by omega]
theorem vp_small {q n : Nat} (hq : 2 ≤ q) (h1 : 1 ≤ n) (hn : n < 65536) : vp q n ≤ 62 := by
  obtain ⟨m, he, hm⟩ := vp_ex q hq n h1
  refine Nat.le_of_not_lt fun hl => ?_
  have hm0 : 0 < m := Nat.pos_of_ne_zero fun h => hm (h ▸ Nat.dvd_zero q)
  have h2 : 2 ^ 16 ≤ q ^ vp q n := Nat.le_trans (Nat.pow_le_pow_right (by omega) (show 16 ≤ vp q n by omega)) (Nat.pow_le_pow_left hq _)
  have h3 : q ^ vp q n * 1 ≤ q ^ vp q n * m := Nat.mul_le_mul_left _ hm0
  have h4 : (2 : Nat) ^ 16 = 65536 := by decide
  omega
theorem odd_of {q : Nat} (h : Odd16 q) : q % 2 = 1 := by
  rcases Nat.mod_two_eq_zero_or_one q with e | e
  · have := h.2.1
    rcases h.1.2 2 (Nat.dvd_of_mod_eq_zero e) with a | a <;> omega
  · exact e
theorem pf_even {n : Nat} (h1 : 1 ≤ n) (h2 : 2 ∣ n) : (pf n)[0]? = some 2 := by
  have hm := (mem_pf h1).2 ⟨prm_two, h2⟩
  have hpos := List.length_pos_of_mem hm
  obtain ⟨i, hi, he⟩ := List.getElem_of_mem hm
  have h0 : (pf n)[0] ≥ 2 := ((mem_pf h1).1 (List.getElem_mem hpos)).1.1
  rw [List.getElem?_eq_getElem hpos]
  congr 1
  by_cases e : i = 0
  · subst e; exact he
  · have := List.pairwise_iff_getElem.1 (pf_sorted n) 0 i hpos hi (by omega)
    omega
theorem row_take {p k q r : Nat} (hp : Odd16 p) (hq : (rowL p)[k]? = some q) (hr : Cl p r) (hl : r < q) : ∃ j, j < k ∧ (rowL p)[j]? = some r := by
  obtain ⟨j, hj, he⟩ := List.getElem_of_mem ((mem_rowL hp).2 hr)
  obtain ⟨hk, hqe⟩ := List.getElem?_eq_some_iff.1 hq
  refine ⟨j, Nat.lt_of_not_le fun hle => ?_, by rw [List.getElem?_eq_getElem hj, he]⟩
  by_cases e : j = k
  · subst e; rw [he] at hqe; omega
  · have := List.pairwise_iff_getElem.1 (rowL_sorted p) k j hk hj (by omega)
    omega
theorem row_right {p k q : Nat} (hp : Odd16 p) (hq : (rowL p)[k]? = some q) : rightB ((rowOf p).take k) (enOf q) = true := by
  have hcl := (mem_rowL hp).1 (List.mem_of_getElem? hq)
  obtain ⟨ho, hqp⟩ := hcl.odd hp
  obtain ⟨pq, h3, h6⟩ := ho
  have hodd := odd_of ⟨pq, h3, h6⟩
  have hn1 : 1 ≤ q - 1 := by omega
  obtain ⟨g1, g2, g3, g4⟩ := genOf_spec ⟨pq, h3, h6⟩
  have hk := (List.getElem?_eq_some_iff.1 hq).1
  unfold rightB
  rw [Bool.and_eq_true, Bool.and_eq_true, Bool.and_eq_true]
  refine ⟨@decide_eq_true _ (gdDec _) ?_, ?_, ?_, ?_⟩
  · exact ⟨hodd, show 1 < q by omega, show q < _ by omega⟩
  · unfold climbsB
    cases hlast : ((rowOf p).take k).getLast? with
    | none => rfl
    | some y =>
      show decide (y.p < q) = true
      have hm := List.mem_of_getLast? hlast
      obtain ⟨j, hj, he⟩ := List.getElem_of_mem hm
      rw [List.length_take] at hj
      rw [List.getElem_take] at he
      have hj' : j < (rowL p).length := by omega
      have hy : y.p = (rowL p)[j] := by rw [← he]; simp [rowOf, enOf]
      have hqe := (List.getElem?_eq_some_iff.1 hq).2
      have := List.pairwise_iff_getElem.1 (rowL_sorted p) j k hj' hk (by omega)
      rw [decide_eq_true_iff, hy]; omega
  · have hfs : (enOf q).fs = facOf (q - 1) := rfl
    unfold factoredB
    rw [hfs, facOf_len]
    have hlen : (pf (q - 1)).length ≤ 11 := pf_few hn1 (by omega)
    have hp0 := pf_even hn1 (show 2 ∣ q - 1 from ⟨(q - 1) / 2, by omega⟩)
    have hpos := (List.getElem?_eq_some_iff.1 hp0).1
    rw [if_neg (by omega)]
    have h := fac_true ((rowOf p).take k) (q - 1) (pf (q - 1)) 0 0 (pf_sorted _) (fun r hr => by
        obtain ⟨a, b⟩ := (mem_pf hn1).1 hr
        exact ⟨by have := a.1; omega, (vp_pos a.1 hn1).2 b, vp_small a.1 hn1 (by omega)⟩) fun j r hj => by
      rw [Nat.zero_add]
      unfold knownB
      by_cases hj0 : j = 0
      · subst hj0
        rw [hp0] at hj; cases hj
        rw [if_pos rfl]; rfl
      · rw [if_neg hj0, List.any_eq_true]
        obtain ⟨a, b⟩ := (mem_pf hn1).1 (List.mem_of_getElem? hj)
        have hr2 : r ≠ 2 := by
          intro e
          have hjl := (List.getElem?_eq_some_iff.1 hj).1
          have := List.pairwise_iff_getElem.1 (pf_sorted (q - 1)) 0 j hpos hjl (by omega)
          rw [(List.getElem?_eq_some_iff.1 hj).2, (List.getElem?_eq_some_iff.1 hp0).2] at this
          omega
        have hrl := Nat.le_of_dvd hn1 b
        obtain ⟨i, hi, hri⟩ := row_take hp hq (Cl.step hcl a hr2 b) (by omega)
        refine ⟨enOf r, ?_, by simp [enOf]⟩
        refine List.mem_of_getElem? (i := i) ?_
        rw [List.getElem?_take, if_pos hi, rowOf, List.getElem?_map, hri]; rfl
    rw [prod_fac hn1] at h
    exact h
  · unfold generatesB
    have e1 : (enOf q).g = genOf q := rfl
    have e2 : (enOf q).p = q := rfl
    have e3 : (enOf q).fs = facOf (q - 1) := rfl
    rw [e1, e2, e3, if_neg (by omega)]
    have hnd : ¬ q ∣ genOf q := fun h => by have := Nat.le_of_dvd (by omega) h; omega
    have h1 : oneAt (enOf q) (q - 1) = true := by unfold oneAt; rw [e1, e2, fermat pq hnd]; rfl
    rw [h1, if_pos rfl, Bool.not_eq_true', List.any_eq_false]
    intro f hf
    obtain ⟨r, hr, rfl⟩ := List.mem_map.1 hf
    have := g3 r hr
    unfold oneAt
    rw [e1, e2]
    simpa using this
theorem row_len (p : Nat) : (rowOf p).length = (rowL p).length := by simp [rowOf]
theorem rowL_few {p : Nat} (hp : Odd16 p) : (rowL p).length ≤ 12 := by
  obtain ⟨L, h1, h2⟩ := row_few hp
  exact Nat.le_trans (nodup_sub_le ((rowL_sorted p).imp fun h => by omega) fun x hx => h2 x ((mem_rowL hp).1 hx)) h1
theorem row_checks {p : Nat} (hp : Odd16 p) : checkV (rowOf p) = .tuple #[.int .i64 0, .int .i64 0] := by
  unfold checkV
  rw [row_len, if_neg (by have := rowL_few hp; omega)]
  rw [check_none fun j hj => ?_]
  rw [row_len] at hj
  unfold badAt
  rw [rowOf, List.getElem?_map, List.getElem?_eq_getElem hj]
  show (!rightB ((rowOf p).take j) (enOf (rowL p)[j])) = false
  rw [row_right hp (List.getElem?_eq_getElem hj)]; rfl
/-- The last entry is the prime's. -/
theorem row_last {p : Nat} (hp : Odd16 p) : ∃ k, (rowL p).length = k + 1 ∧ (rowL p)[k]? = some p ∧ ((rowOf p).findIdx? fun x => x.p == p) = some k := by
  have hm := (mem_rowL hp).2 (Cl.self (p := p))
  obtain ⟨k, hk, he⟩ := List.getElem_of_mem hm
  have hle : ∀ j (hj : j < (rowL p).length), (rowL p)[j] ≤ p := fun j hj => (((mem_rowL hp).1 (List.getElem_mem hj)).odd hp).2
  have hlast : (rowL p).length = k + 1 := by
    refine Classical.byContradiction fun hne => ?_
    have hk1 : k + 1 < (rowL p).length := by omega
    have := List.pairwise_iff_getElem.1 (rowL_sorted p) k (k + 1) hk hk1 (by omega)
    have := hle (k + 1) hk1
    omega
  have hg : (rowL p)[k]? = some p := by rw [List.getElem?_eq_getElem hk, he]
  refine ⟨k, hlast, hg, found (x := enOf p) ?_ (by simp [enOf]) fun j y hj hy => ?_⟩
  · rw [rowOf, List.getElem?_map, hg]; rfl
  · rw [rowOf, List.getElem?_map] at hy
    obtain ⟨r, hr, rfl⟩ := Option.map_eq_some_iff.1 hy
    obtain ⟨hjl, hre⟩ := List.getElem?_eq_some_iff.1 hr
    have := List.pairwise_iff_getElem.1 (rowL_sorted p) j k hjl hk hj
    show (r == p) = false
    rw [beq_eq_false_iff_ne]; omega
end Go.Proofs.Ytafmmkhegkceiaa

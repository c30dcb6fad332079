/-
  The contract of the document's Factor (layer 5): the same factors.
-/
import Derived.Test.YtafmmkhegkceiaaSv12
namespace Go.Proofs.Ytafmmkhegkceiaa
set_option linter.unusedVariables false
open Go.RowKit

/-! ### Rows of factors, cell by cell -/
def fl : List Pw → List Value
  | [] => []
  | f :: l => .int .u64 (f.q : Int) :: .int .i64 f.e :: fl l
theorem fl_len : ∀ l, (fl l).length = l.length * 2
  | [] => rfl
  | f :: l => by simp [fl, fl_len l]; omega
theorem fl_append : ∀ (l : List Pw) (f : Pw), fl (l ++ [f]) = fl l ++ [.int .u64 (f.q : Int), .int .i64 f.e]
  | [], f => rfl
  | x :: l, f => by simp [fl, fl_append l f]
theorem fl_get : ∀ (l : List Pw) (i : Nat) (f : Pw), l[i]? = some f → (fl l)[i * 2]? = some (.int .u64 (f.q : Int)) ∧ (fl l)[i * 2 + 1]? = some (.int .i64 f.e)
  | [], i, f, h => by simp at h
  | x :: l, 0, f, h => by simp at h; subst h; exact ⟨rfl, rfl⟩
  | x :: l, i + 1, f, h => by
    have := fl_get l i f (by simpa using h)
    rw [show (i + 1) * 2 = i * 2 + 1 + 1 by omega]
    simpa [fl] using this
theorem pows_of_row {w : World} {base : Nat} {e : TypeId} {v : Value} {l : List Pw} (h : w.ownsRow base e 2 v l.length (fl l)) (hok : ∀ f ∈ l, f.ok) : ∃ A C, v = .slice A l.length C ∧ PowsAt w A C l := by
  rcases h.2 with ⟨hv, hn⟩ | ⟨g, cap, cur, rfl, hb, hg, hc, hm, _⟩
  · refine ⟨none, 0, by rw [hv, hn], by omega, by unfold maxLen; omega, fun i x hx => ?_⟩
    have := (List.getElem?_eq_some_iff.1 hx).1; omega
  · refine ⟨_, _, rfl, hc, hm, fun i x hx => ?_⟩
    have hi := (List.getElem?_eq_some_iff.1 hx).1
    obtain ⟨a, b⟩ := fl_get l i x hx
    refine ⟨g, 0, rfl, (Array.getElem?_eq_some_iff.1 hg).1, ?_, ?_, hok x (List.mem_of_getElem? hx)⟩
    · rw [Nat.zero_add, h.cellAt (i * 2) (by omega)]; exact a
    · rw [Nat.zero_add, h.cellAt (i * 2 + 1) (by omega)]; exact b

/-! ### The factors below d -/
noncomputable def facTo (n0 d : Nat) : List Pw := ((List.range d).filter (isPf n0)).map fun q => ⟨q, (vp q n0 : Nat)⟩
theorem facTo_len (n0 d : Nat) : (facTo n0 d).length ≤ d := by
  unfold facTo
  rw [List.length_map]
  have := List.length_filter_le (isPf n0) (List.range d)
  rw [List.length_range] at this
  exact this
theorem facTo_yes {n0 d : Nat} (h : isPf n0 d = true) : facTo n0 (d + 1) = facTo n0 d ++ [⟨d, (vp d n0 : Nat)⟩] := by
  unfold facTo; rw [List.range_succ, List.filter_append]; simp [h]
theorem facTo_no {n0 d : Nat} (h : isPf n0 d = false) : facTo n0 (d + 1) = facTo n0 d := by
  unfold facTo; rw [List.range_succ, List.filter_append]; simp [h]
structure RInv (n0 n d : Nat) : Prop where
  pos : 1 ≤ n0
  one : 1 ≤ n
  hi : ∀ r, Prm r → d ≤ r → vp r n0 = vp r n
  low : ∀ r, Prm r → r < d → ¬ r ∣ n
theorem RInv.start {n0 : Nat} (h : 1 ≤ n0) : RInv n0 n0 2 := ⟨h, h, fun _ _ _ => rfl, fun r hr hl => by have := hr.1; omega⟩
theorem facTo_two (n0 : Nat) : facTo n0 2 = [] := by
  have h : ∀ q, q < 2 → isPf n0 q = false := fun q hq => by
    cases hc : isPf n0 q with
    | false => rfl
    | true => have := (isPf_iff.1 hc).1.1; omega
  rw [facTo_no (h 1 (by omega)), facTo_no (h 0 (by omega))]; rfl
/-- Behind the trials with d: it was a factor, k times. -/
theorem RInv.yes {n0 n d k m : Nat} (h : RInv n0 n d) (hd : 2 ≤ d) (hn : n = d ^ k * m) (hm : ¬ d ∣ m) (hk : 1 ≤ k) : RInv n0 m (d + 1) ∧ isPf n0 d = true ∧ vp d n0 = k := by
  have hdn : d ∣ n := by rw [hn, show k = (k - 1) + 1 by omega, Nat.pow_succ, Nat.mul_assoc]; exact ⟨d ^ (k - 1) * m, by rw [Nat.mul_left_comm]⟩
  have pd := prm_of_least hd hdn h.low
  have hm1 : 1 ≤ m := Nat.pos_of_ne_zero fun e => hm (e ▸ Nat.dvd_zero d)
  have hv : vp d n0 = k := by rw [h.hi d pd (Nat.le_refl _)]; exact vp_eq hd hn hm
  refine ⟨⟨h.pos, hm1, fun r hr hl => ?_, fun r hr hl hdr => ?_⟩, isPf_iff.2 ⟨pd, (vp_pos hd h.pos).1 (by omega)⟩, hv⟩
  · rw [h.hi r hr (by omega), hn]; exact vp_pow_other hr pd (by omega) hm1 k
  · by_cases e : r = d
    · exact hm (e ▸ hdr)
    · exact h.low r hr (by omega) (Nat.dvd_trans hdr ⟨d ^ k, by rw [Nat.mul_comm]; exact hn⟩)
theorem RInv.no {n0 n d : Nat} (h : RInv n0 n d) (hd : 2 ≤ d) (hm : ¬ d ∣ n) : RInv n0 n (d + 1) ∧ isPf n0 d = false := by
  refine ⟨⟨h.pos, h.one, fun r hr hl => h.hi r hr (by omega), fun r hr hl hdr => ?_⟩, ?_⟩
  · by_cases e : r = d
    · exact hm (e ▸ hdr)
    · exact h.low r hr (by omega) hdr
  · cases hc : isPf n0 d with
    | false => rfl
    | true =>
      obtain ⟨pd, hdn⟩ := isPf_iff.1 hc
      have h1 := (vp_pos hd h.pos).2 hdn
      rw [h.hi d pd (Nat.le_refl _), vp_zero hd hm] at h1
      omega
theorem facOf_is {n0 : Nat} (h1 : 1 ≤ n0) {l : List Nat} (hs : l.Pairwise (· < ·)) (hm : ∀ r, r ∈ l ↔ Prm r ∧ r ∣ n0) : facOf n0 = l.map fun q => ⟨q, (vp q n0 : Nat)⟩ := by
  unfold facOf
  rw [sorted_ext (pf_sorted n0) hs fun x => by rw [mem_pf h1, hm]]
theorem RInv.done {n0 n d : Nat} (h : RInv n0 n d) (hn : n ≤ 1) : facTo n0 d = facOf n0 := by
  have := h.one
  obtain rfl : n = 1 := by omega
  refine (facOf_is h.pos (List.Pairwise.filter _ List.pairwise_lt_range) fun r => ?_).symm
  rw [List.mem_filter, List.mem_range, isPf_iff]
  refine ⟨fun ⟨_, h⟩ => h, fun hr => ⟨Nat.lt_of_not_le fun hl => ?_, hr⟩⟩
  have h1 := (vp_pos hr.1.1 h.pos).2 hr.2
  rw [h.hi r hr.1 hl, vp_one hr.1.1] at h1
  omega
theorem RInv.last {n0 n d : Nat} (h : RInv n0 n d) (hn : 1 < n) (hd : n < d * d) : facTo n0 d ++ [⟨n, 1⟩] = facOf n0 := by
  have pn := prm_of_root (by omega) hd h.low
  have hdn : d ≤ n := Nat.le_of_not_lt fun hl => h.low n pn hl (Nat.dvd_refl _)
  have hv : vp n n = 1 := by have := vp_mul (q := n) (n := 1) pn.1 (by omega); rw [Nat.mul_one, vp_one pn.1] at this; exact this
  have hv0 : vp n n0 = 1 := by rw [h.hi n pn hdn]; exact hv
  have hs : ((List.range d).filter (isPf n0) ++ [n]).Pairwise (· < ·) := by
    rw [List.pairwise_append]
    refine ⟨List.Pairwise.filter _ List.pairwise_lt_range, by simp, fun a ha b hb => ?_⟩
    simp at hb; subst hb
    have := List.mem_range.1 (List.mem_filter.1 ha).1; omega
  rw [facOf_is h.pos hs fun r => ?_]
  · rw [List.map_append]
    show facTo n0 d ++ [⟨n, 1⟩] = facTo n0 d ++ [⟨n, (vp n n0 : Nat)⟩]
    rw [hv0]; rfl
  · rw [List.mem_append, List.mem_filter, List.mem_range, isPf_iff, List.mem_singleton]
    constructor
    · rintro (⟨_, h⟩ | rfl)
      · exact h
      · exact ⟨pn, (vp_pos pn.1 h.pos).1 (by omega)⟩
    · intro hr
      by_cases hl : r < d
      · exact Or.inl ⟨hl, hr⟩
      · right
        have h1 := (vp_pos hr.1.1 h.pos).2 hr.2
        rw [h.hi r hr.1 (by omega)] at h1
        rcases pn.2 r ((vp_pos hr.1.1 h.one).1 h1) with e | e
        · have := hr.1.1; omega
        · exact e

theorem infoRP : (Try.prog.info? 34).map (fun i => (i.zero, i.size, i.bytes)) = some (some (.agg #[.int .u64 0, .int .i64 0]), 2, 16) := by kernel_rfl
theorem rfactor_few (n : Nat) (h : n < 2) : FacAns 12 (.int .u64 (n : Int)) [] := by
  intro w
  go_enter Try.func12, Try.ntmps12
  go_wp2
  go_ret
  exact ⟨none, 0, rfl, pows_nil _, Below.refl _ _⟩
theorem rfactor_great (n : Nat) (h2 : 2 ≤ n) (h : 4294967296 < n) (hn : n < 18446744073709551616) : FacAns 12 (.int .u64 (n : Int)) [] := by
  intro w
  go_enter Try.func12, Try.ntmps12
  go_wp2
  go_ret
  exact ⟨none, 0, rfl, pows_nil _, Below.refl _ _⟩
theorem two_news (w : World) (a b : Value) (t : TypeId) : ∀ i u, [a, b][i]? = some u → (w.alloc (.cells #[a, b] t)).cell? ((⟨w.heap.size, 0, none⟩ : Addr).add i) = some u := by
  intro i u hu
  rw [Addr.add_lit, World.cell?_alloc_at _ _ _ _ rfl]
  match i, hu with
  | 0, hu => cases hu; rfl
  | 1, hu => cases hu; rfl
  | i + 2, hu => simp at hu
set_option maxRecDepth 100000 in
set_option maxHeartbeats 4000000 in
theorem rfactor_walk (n0 : Nat) (h2 : 2 ≤ n0) (hle : n0 ≤ 4294967296) : FacAns 12 (.int .u64 (n0 : Int)) (facOf n0) := by
  intro w
  obtain ⟨i1, hi1, hz1, hs1, hb1⟩ := info_parts infoRP
  go_enter Try.func12, Try.ntmps12
  go_wp2
  go_loopw [0, 3, 4] (fun x out y wr => ∃ n d : Nat, x = .int .u64 (n : Int) ∧ y = .int .u64 (d : Int) ∧ 1 ≤ n ∧ n ≤ n0 ∧ 2 ≤ d ∧ d ≤ 65537 ∧ Hid (RInv n0 n d) ∧ Hid (wr.ownsRow w.heap.size 34 2 out (facTo n0 d).length (fl (facTo n0 d))) ∧ Below w.heap.size w wr) (fun _ _ y _ => 65537 - (intOf y).toNat)
  case atStart => exact ⟨n0, 2, rfl, rfl, by omega, by omega, by omega, by omega, RInv.start (by omega), (by unfold Hid; rw [facTo_two]; exact World.ownsRow_nil _ _ _ _), Below.refl _ _⟩
  case round =>
    obtain ⟨n, d, rfl, rfl, hn1, hn0, hd2, hd6, HR, HO, hB⟩ := hrel
    obtain ⟨s, hs⟩ : ∃ s, d * d = s := ⟨_, rfl⟩
    have hm := wrap_sq hs (by omega)
    have HS : Hid (d * d = s) := hs
    by_cases hlq : s ≤ n
    · have hd7 : d ≤ 65536 := sq_root (by omega)
      clear hs
      go_wp2
      go_loopw [0, 5] (fun x y wi => ∃ m k : Nat, x = .int .u64 (m : Int) ∧ y = .int .i64 (k : Int) ∧ 1 ≤ m ∧ m + k ≤ n ∧ Hid (n = d ^ k * m) ∧ wi = wr) (fun x _ _ => (intOf x).toNat)
      case atStart => exact ⟨n, 0, rfl, rfl, hn1, by omega, by unfold Hid; rw [Nat.pow_zero, Nat.one_mul], rfl⟩
      case round =>
        clear hm HS hlq
        obtain ⟨m, k, rfl, rfl, hm1, hmk, HE, rfl⟩ := hrel
        by_cases hr : m % d = 0
        · have hr' : ((m : Int) % (d : Int) == 0) = true := by rw [beq_iff_eq]; omega
          have hdv := Nat.dvd_of_mod_eq_zero hr
          have hdiv : m / d < m := Nat.div_lt_self (by omega) hd2
          have hdiv1 : 1 ≤ m / d := Nat.div_pos (Nat.le_of_dvd hm1 hdv) (by omega)
          have HE2 : Hid (n = d ^ (k + 1) * (m / d)) := by
            unfold Hid; rw [Nat.pow_succ, Nat.mul_assoc, Nat.mul_div_cancel' hdv]; exact HE.out
          clear hr hdv HE
          go_wp2
          go_roundw
          case rel => exact ⟨m / d, k + 1, by go_num, by go_num, hdiv1, by omega, HE2, by first | rfl | trivial⟩
          case measure => simp [intOf]; omega
        · have hr' : ((m : Int) % (d : Int) == 0) = false := by rw [beq_eq_false_iff_ne]; omega
          have hnd : ¬ d ∣ m := fun h => hr (Nat.mod_eq_zero_of_dvd h)
          by_cases hk : 0 < k
          · obtain ⟨hI, hpf, hv⟩ := HR.out.yes hd2 HE.out hnd hk
            have HR2 : Hid (RInv n0 m (d + 1)) := hI
            have HF : Hid (facTo n0 (d + 1) = facTo n0 d ++ [⟨d, (k : Int)⟩]) := by unfold Hid; rw [facTo_yes hpf, hv]
            obtain ⟨L, hL⟩ : ∃ L, (facTo n0 d).length = L := ⟨_, rfl⟩
            have hLl : L ≤ d := hL ▸ facTo_len n0 d
            have HL : Hid ((facTo n0 d).length = L) := hL
            have hO := HO.out
            rw [hL] at hO
            have hnews := two_news wr (.int .u64 (d : Int)) (.int .i64 (k : Int)) 34
            have hO2 := World.ownsRow.alloc hO (.cells #[.int .u64 (d : Int), .int .i64 (k : Int)] 34)
            have hBa : Below w.heap.size w (wr.alloc (.cells #[.int .u64 (d : Int), .int .i64 (k : Int)] 34)) := bb hB (below_alloc _ _)
            have hk' : 0 < (k : Int) := by omega
            clear hI hpf hv hnd hr HR HE HO hL hO
            go_wp2_with (at_builtin; refine Hid.out ?_)
            unfold Hid
            refine (wpList_append_own _ rfl _ _ 30 rfl w.heap.size 34 i1 _ 2 16 Try.underlying30 hi1 hz1 hs1 hb1 rfl (by omega) _ L _ rfl hO2 ⟨wr.heap.size, 0, none⟩ 1 1 [.int .u64 (d : Int), .int .i64 (k : Int)] rfl rfl hnews (by simp [Value.oneCell']) (by unfold maxLen; omega) (by omega) hBa.size ?_)
            intro v' w5 hO3 hG _
            have HO5 : Hid (w5.ownsRow w.heap.size 34 2 v' (facTo n0 (d + 1)).length (fl (facTo n0 (d + 1)))) := by
              unfold Hid; rw [HF.out, List.length_append, HL.out, fl_append]; exact hO3
            have hB5 : Below w.heap.size w w5 := hBa.grown hG hBa.size (fun k hk => (hO2.lt k hk).1)
            clear hO3 hG hO2 hBa hnews hB
            go_wp2
            go_roundw
            case rel => exact ⟨m, d + 1, rfl, by go_num, hm1, by omega, by omega, by omega, HR2, HO5, hB5⟩
            case measure => simp [intOf]; omega
          · obtain rfl : k = 0 := by omega
            have hmn : m = n := by have := HE.out; rw [Nat.pow_zero, Nat.one_mul] at this; exact this.symm
            subst hmn
            obtain ⟨hI, hpf⟩ := HR.out.no hd2 hnd
            have HR2 : Hid (RInv n0 m (d + 1)) := hI
            have HO5 : Hid (wr.ownsRow w.heap.size 34 2 u3 (facTo n0 (d + 1)).length (fl (facTo n0 (d + 1)))) := by
              unfold Hid; rw [facTo_no hpf]; exact HO.out
            clear hI hpf hnd hr HR HE HO
            go_wp2
            go_roundw
            case rel => exact ⟨m, d + 1, rfl, by go_num, hm1, by omega, by omega, by omega, HR2, HO5, hB⟩
            case measure => simp [intOf]; omega
    · by_cases hg1 : 1 < n
      · have hF := HR.out.last hg1 (by omega)
        have HF : Hid (facTo n0 d ++ [⟨n, 1⟩] = facOf n0) := hF
        obtain ⟨L, hL⟩ : ∃ L, (facTo n0 d).length = L := ⟨_, rfl⟩
        have hLl : L ≤ d := hL ▸ facTo_len n0 d
        have HL : Hid ((facTo n0 d).length = L) := hL
        have hO := HO.out
        rw [hL] at hO
        have hnews := two_news wr (.int .u64 (n : Int)) (.int .i64 1) 34
        have hO2 := World.ownsRow.alloc hO (.cells #[.int .u64 (n : Int), .int .i64 1] 34)
        have hBa : Below w.heap.size w (wr.alloc (.cells #[.int .u64 (n : Int), .int .i64 1] 34)) := bb hB (below_alloc _ _)
        clear hs hF HR HO hL hO
        go_wp2_with (at_builtin; refine Hid.out ?_)
        unfold Hid
        refine (wpList_append_own _ rfl _ _ 30 rfl w.heap.size 34 i1 _ 2 16 Try.underlying30 hi1 hz1 hs1 hb1 rfl (by omega) _ L _ rfl hO2 ⟨wr.heap.size, 0, none⟩ 1 1 [.int .u64 (n : Int), .int .i64 1] rfl rfl hnews (by simp [Value.oneCell']) (by unfold maxLen; omega) (by omega) hBa.size ?_)
        intro v' w5 hO3 hG _
        have hO5 : w5.ownsRow w.heap.size 34 2 v' (facOf n0).length (fl (facOf n0)) := by
          rw [← HF.out, List.length_append, HL.out, fl_append]; exact hO3
        have hB5 : Below w.heap.size w w5 := hBa.grown hG hBa.size (fun k hk => (hO2.lt k hk).1)
        obtain ⟨A, C, hv, hPA⟩ := pows_of_row hO5 (facOf_ok (by omega) hle)
        subst hv
        clear hO3 hG hO2 hBa hnews hB hO5
        go_wp2
        go_ret
        exact ⟨A, C, rfl, hPA, hB5⟩
      · have hF := HR.out.done (by omega)
        have hO := HO.out
        rw [hF] at hO
        obtain ⟨A, C, hv, hPA⟩ := pows_of_row hO (facOf_ok (by omega) hle)
        subst hv
        clear hs hF HR HO hO
        go_wp2
        go_ret
        exact ⟨A, C, rfl, hPA, hB⟩
/-- The document's Factor. -/
theorem rfactor_any (n : Nat) (hn : n < 18446744073709551616) : FacAns 12 (.int .u64 (n : Int)) (facS n) := by
  unfold facS
  by_cases h2 : n < 2
  · rw [if_neg (by omega)]; exact rfactor_few n h2
  · by_cases h : n ≤ 4294967296
    · rw [if_pos ⟨by omega, h⟩]; exact rfactor_walk n (by omega) h
    · rw [if_neg (by omega)]; exact rfactor_great n (by omega) (by omega) hn
end Go.Proofs.Ytafmmkhegkceiaa

/-
  What Meet answers, the program's and the document's: whether two rows of cells have one in common. No condition but what Cells answers.
-/
import Derived.Test.YtccknfhhmdoffaaVw11
namespace Go.Proofs.Ytccknfhhmdoffaa
set_option linter.unusedVariables false
open Go.RowKit Go.Maps

theorem IMap.none {w : World} {b n : Nat} {c : Int → Nat} (h : IMap w b n c) (o : Nat) : w.cell? ⟨b, o, none⟩ = none := by
  obtain ⟨D, ⟨es, clock, hb, _⟩, _⟩ := h
  simp [World.cell?, hb]
theorem ZAt.grown {w w' : World} {A : Option Addr} {C : Nat} {zs : List Int} (h : ZAt w A C zs) {m : Nat} (hg : w.grownBy w' (some m)) (hm : ∀ o, w.cell? ⟨m, o, none⟩ = none) : ZAt w' A C zs := by
  refine ⟨h.cap, h.max, fun i f hf => ?_⟩
  obtain ⟨b, o, hA, hl, c0, k⟩ := h.get i f hf
  have hne : b ≠ m := fun e => by subst e; rw [hm] at c0; cases c0
  refine ⟨b, o, hA, Nat.lt_of_lt_of_le hl hg.size, ?_, k⟩
  rw [← c0]
  exact World.cell?_of_block (hg.block b hl (fun e => hne (Option.some.inj e)))
theorem wrap_under {j K : Nat} (h : j < K) (hK : K ≤ 9223372036854775807) : wrap64 ((j : Int) + 1) = (j : Int) + 1 := by unfold wrap64; omega
theorem count_next {zs : List Int} {k : Nat} {x : Int} (hx : zs[k]? = some x) : (fun z => (zs.take (k + 1)).count z) = updI (fun z => (zs.take k).count z) x := by
  funext z
  rw [take_snoc hx, List.count_append]
  unfold updI
  by_cases e : z = x
  · subst e; simp
  · rw [if_neg e]
    have : List.count z [x] = 0 := by simp [List.count_cons]; exact fun h => e h.symm
    rw [this]; exact Nat.add_zero _

set_option maxRecDepth 20000 in
set_option maxHeartbeats 4000000 in
theorem meet_any (W : World) (o : Int) (A : Option Addr) (L C : Nat) (A' : Option Addr) (L' C' : Nat) (p : Int) (B : Option Addr) (M D : Nat) (B' : Option Addr) (M' D' : Nat) (la lb : List Int)
    (H1 : NewRow W 16 #[vw o A L C A' L' C'] la) (H2 : NewRow W 16 #[vw p B M D B' M' D'] lb) (hl : la.length ≤ 4096) (r : Bool) (hr : r = true ↔ ∃ z ∈ la, z ∈ lb) :
    AnsB W 28 #[vw o A L C A' L' C', vw p B M D B' M' D'] (.bool r) := by
  intro w hw
  unfold vw at *
  have H1u := fun {w : World} (hw : Below W.heap.size W w) {R : Ending → World → Prop} k => H1.use hw (R := R) k
  have H2u := fun {w : World} (hw : Below W.heap.size W w) {R : Ending → World → Prop} k => H2.use hw (R := R) k
  have HT : Hid (∀ z, z ∈ la → z ∈ lb → true = r) := fun z h1 h2 => (hr.2 ⟨z, h1, h2⟩).symm
  have HF : Hid ((∀ z, z ∈ lb → ¬ z ∈ la) → false = r) := fun h => by
    cases r with
    | false => rfl
    | true => obtain ⟨z, h1, h2⟩ := hr.1 rfl; exact absurd h1 (h z h2)
  obtain ⟨N, hN⟩ : ∃ N, la.length = N := ⟨_, rfl⟩
  obtain ⟨K, hK⟩ : ∃ K, lb.length = K := ⟨_, rfl⟩
  have HN : Hid (la.length = N) := hN
  have HK : Hid (lb.length = K) := hK
  have HN4 : Hid (N ≤ 4096) := by unfold Hid; rw [← hN]; exact hl
  simp only [hN, hK] at H1u H2u
  clear hN hK hl hr H1 H2
  have hmm := @run_makeMap Try.prog
  have b1 := ((Blk.new (w.alloc (.cells #[.int .i64 o, .slice A L C, .slice A' L' C'] 28)) 28 #[.int .i64 p, .slice B M D, .slice B' M' D'])).alloc (.map #[] 0)
  have b2 := imap_new ((w.alloc (.cells #[.int .i64 o, .slice A L C, .slice A' L' C'] 28)).alloc (.cells #[.int .i64 p, .slice B M D, .slice B' M' D'] 28))
  have hB0 : Below w.heap.size w (((w.alloc (.cells #[.int .i64 o, .slice A L C, .slice A' L' C'] 28)).alloc (.cells #[.int .i64 p, .slice B M D, .slice B' M' D'] 28)).alloc (.map #[] 0)) := bb (bb (below_alloc _ _) (below_alloc _ _)) (below_alloc _ _)
  simp only [World.size_alloc] at b1 b2
  have hw0 := hw.trans (hB0.mono hw.size)
  go_enter Try.func28, Try.ntmps28
  go_wp2_with (go_at_call 16; refine H1u hw0 fun A1 C1 w2 z1 hb2 => ?_)
  have hB2 := bb hB0 hb2
  have e1 := b1.below hb2
  have m1 := b2.below hb2
  clear b1 b2 hw0 hb2 H1u hB0 hmm
  go_loopw [14] (fun v wr => ∃ k : Nat, v = .int .i64 k ∧ k ≤ N ∧ ZAt wr A1 C1 la ∧ Blk wr (w.heap.size + 1) 28 #[.int .i64 p, .slice B M D, .slice B' M' D'] ∧ Hid (IMap wr (w.heap.size + 1 + 1) k (fun z => (la.take k).count z)) ∧ Below w.heap.size w wr) (fun v _ => N - (intOf v).toNat)
  case atStart => exact ⟨0, rfl, by omega, z1, e1, m1, hB2⟩
  case round =>
    obtain ⟨k, rfl, hk, hz, d1, HM, hB⟩ := hrel
    clear z1 e1 m1 hB2
    have Hz : Hid (ZAt wr A1 C1 la) := hz
    have D1 : Hid (Blk wr (w.heap.size + 1) 28 #[.int .i64 p, .slice B M D, .slice B' M' D']) := d1
    by_cases hlt : k < N
    · obtain ⟨z, hx⟩ : ∃ z, la[k]? = some z := ⟨_, List.getElem?_eq_getElem (by rw [HN.out]; exact hlt)⟩
      obtain ⟨b, q, rfl, hb, c0, hz64⟩ := hz.get k z hx
      have hkN : (k : Int) < (N : Int) := by omega
      have hkw : wrap64 ((k : Int) + 1) = (k : Int) + 1 := wrap_next (by have := HN4.out; omega)
      have HC : Hid ((fun z => (la.take (k + 1)).count z) = updI (fun z => (la.take k).count z) z) := count_next hx
      have hcl : (la.take k).count z ≤ k := Nat.le_trans List.count_le_length (by rw [List.length_take]; omega)
      have HZn : Hid (∀ o, wr.cell? ⟨w.heap.size + 1 + 1, o, none⟩ = none) := fun o => HM.out.none o
      obtain ⟨D0, hown, ha⟩ := HM.out
      have HA : Hid (∀ z : Int, D0.atKey (keyI z) (.lit (.int .i64 0)) = .lit (.int .i64 ((la.take k).count z : Int))) := ha
      obtain ⟨e, he⟩ : ∃ e, (la.take k).count z = e := ⟨_, rfl⟩
      have HE : Hid ((la.take k).count z = e) := he
      rw [he] at hcl
      have HKQ : Hid (keyOf Try.prog 3 (.int .i64 z) = some (keyI z)) := keyOfI hz64
      have hwe : Hid (e + 1 ≤ 4294967296) := by unfold Hid; have := HN4.out; omega
      have hew : wrap64 ((e : Int) + 1) = (e : Int) + 1 := wrap_mid (by omega) (by have := HN4.out; omega)
      have HNM : Hid (k < maxLen) := by unfold Hid maxLen; have := HN4.out; omega
      clear ha he hx hz d1 HM hz64
      go_wp2_with (first
        | (at_lookup; refine wpList_lookup_own_int _ rfl _ _ 71 rfl 3 3 .i64 keyedI Try.underlying71 Try.underlying3 (zeroI _) (w.heap.size + 1 + 1) k _ rfl hown _ _ rfl HKQ.out ?_; intro cc hat hwc; obtain rfl := cntI hat (HA.out z) HE.out; clear hat hwc)
        | (at_mapUpdate; refine wpList_mapUpdate_own _ rfl _ _ _ 71 rfl 3 3 keyedI Try.underlying71 _ (w.heap.size + 1 + 1) k _ rfl hown HNM.out _ _ _ rfl rfl HKQ.out _ [] (plainElem_int Try.underlying3 (show (Lit.int .i64 (wrap64 ((e : Int) + 1))).wf = true by rw [hew]; exact wf_cnt1 hwe.out)) ?_; intro w8 hown1 hgrow1; rw [hew] at hown1; have HM2 : Hid (IMap w8 (w.heap.size + 1 + 1) (k + 1) (fun z => (la.take (k + 1)).count z)) := (by unfold Hid; rw [HC.out]; exact imap_put hown.isMap HA.out z (by rw [HE.out]; exact hown1)); have Hz8 := Hz.out.grown hgrow1 HZn.out; have D8 := D1.out.kept hgrow1 (fun e => by injection e with e; omega); have hB8 := hB.grown hgrow1 hB.size (fun k e => by injection e with e; omega); clear hown hown1 hgrow1 HA))
      go_roundw
      case rel => exact ⟨k + 1, by rw [hkw, nat_next], hlt, Hz8, D8, HM2, hB8⟩
      case measure => rw [hkw]; exact sub_next hlt
    · obtain rfl : k = N := by omega
      have HM' : Hid (IMap wr (w.heap.size + 1 + 1) k (fun z => la.count z)) := by unfold Hid; have := HM.out; rw [← HN.out, List.take_length] at this; rw [← HN.out]; exact this
      have hwr := hw.trans (hB.mono hw.size)
      obtain ⟨e0, e1, e2, _⟩ := d1.three
      clear hz d1 HM Hz D1
      go_wp2_with (go_at_call 16; refine H2u hwr fun A2 C2 w5 z2 hb5 => ?_)
      have M5 : Hid (IMap w5 (w.heap.size + 1 + 1) k (fun z => la.count z)) := HM'.out.below hb5
      have hB5 := bthen hB (Nat.le_refl _) hb5
      clear HM' e0 e1 e2 hwr hb5 hB H2u
      go_loopw [26] (fun v wx => ∃ j : Nat, v = .int .i64 j ∧ j ≤ K ∧ Hid (∀ z, z ∈ lb.take j → ¬ z ∈ la) ∧ wx = w5) (fun v _ => K - (intOf v).toNat)
      case atStart => exact ⟨0, rfl, by omega, fun z hz => by simp at hz, rfl⟩
      case round =>
        obtain ⟨j, rfl, hj, HI, rfl⟩ := hrel
        by_cases hjt : j < K
        · obtain ⟨z, hx⟩ : ∃ z, lb[j]? = some z := ⟨_, List.getElem?_eq_getElem (by rw [HK.out]; exact hjt)⟩
          obtain ⟨b, q, rfl, hb, c0, hz64⟩ := z2.get j z hx
          have hjK : (j : Int) < (K : Int) := by omega
          have hjw : wrap64 ((j : Int) + 1) = (j : Int) + 1 := wrap_under hjt (by have := z2.cap; have := z2.max; unfold maxLen at this; have := HK.out; omega)
          obtain ⟨D0, hown, ha⟩ := M5.out
          have HA : Hid (∀ z : Int, D0.atKey (keyI z) (.lit (.int .i64 0)) = .lit (.int .i64 (la.count z : Int))) := ha
          have HKQ : Hid (keyOf Try.prog 3 (.int .i64 z) = some (keyI z)) := keyOfI hz64
          obtain ⟨e, he⟩ : ∃ e, la.count z = e := ⟨_, rfl⟩
          have HE : Hid (la.count z = e) := he
          by_cases hm : z ∈ la
          · have HR : Hid (true = r) := HT.out z hm (List.mem_of_getElem? hx)
            have he0 : (0 : Int) < (e : Int) := by have := List.count_pos_iff.2 hm; omega
            clear ha he hx hm hz64 z2 HI
            go_wp2_with (at_lookup; refine wpList_lookup_own_int _ rfl _ _ 71 rfl 3 3 .i64 keyedI Try.underlying71 Try.underlying3 (zeroI _) (w.heap.size + 1 + 1) k _ rfl hown _ _ rfl HKQ.out ?_; intro cc hat hwc; obtain rfl := cntI hat (HA.out z) HE.out; clear hat hwc)
            go_ret
            exact ⟨ret_b HR.out, hB5⟩
          · have HI' : Hid (∀ z, z ∈ lb.take (j + 1) → ¬ z ∈ la) := fun y hy => by
              rw [take_snoc hx] at hy
              rcases List.mem_append.1 hy with hy | hy
              · exact HI.out y hy
              · simp at hy; subst hy; exact hm
            have he1 : e = 0 := by rw [← he]; exact List.count_eq_zero.2 hm
            subst he1
            clear ha he hx hm hz64 z2 HI
            go_wp2_with (at_lookup; refine wpList_lookup_own_int _ rfl _ _ 71 rfl 3 3 .i64 keyedI Try.underlying71 Try.underlying3 (zeroI _) (w.heap.size + 1 + 1) k _ rfl hown _ _ rfl HKQ.out ?_; intro cc hat hwc; obtain rfl := cntI hat (HA.out z) HE.out; clear hat hwc)
            go_roundw
            case rel => exact ⟨j + 1, by rw [hjw, nat_next], hjt, HI', by first | rfl | trivial⟩
            case measure => rw [hjw]; exact sub_next hjt
        · obtain rfl : j = K := by omega
          have HR : Hid (false = r) := HF.out (by have := HI.out; rw [← HK.out, List.take_length] at this; exact this)
          clear HI
          go_wp2
          go_ret
          exact ⟨ret_b HR.out, hB5⟩

set_option maxRecDepth 20000 in
set_option maxHeartbeats 4000000 in
theorem rmeet_any (W : World) (o : Int) (A : Option Addr) (L C : Nat) (A' : Option Addr) (L' C' : Nat) (p : Int) (B : Option Addr) (M D : Nat) (B' : Option Addr) (M' D' : Nat) (la lb : List Int)
    (H1 : NewRow W 17 #[vw o A L C A' L' C'] la) (H2 : NewRow W 17 #[vw p B M D B' M' D'] lb) (r : Bool) (hr : r = true ↔ ∃ z ∈ la, z ∈ lb) :
    AnsB W 27 #[vw o A L C A' L' C', vw p B M D B' M' D'] (.bool r) := by
  intro w hw
  unfold vw at *
  have H1u := fun {w : World} (hw : Below W.heap.size W w) {R : Ending → World → Prop} k => H1.use hw (R := R) k
  have H2u := fun {w : World} (hw : Below W.heap.size W w) {R : Ending → World → Prop} k => H2.use hw (R := R) k
  have HT : Hid (∀ z, z ∈ la → z ∈ lb → true = r) := fun z h1 h2 => (hr.2 ⟨z, h1, h2⟩).symm
  have HF : Hid ((∀ z, z ∈ la → ¬ z ∈ lb) → false = r) := fun h => by
    cases r with
    | false => rfl
    | true => obtain ⟨z, h1, h2⟩ := hr.1 rfl; exact absurd h2 (h z h1)
  obtain ⟨N, hN⟩ : ∃ N, la.length = N := ⟨_, rfl⟩
  obtain ⟨K, hK⟩ : ∃ K, lb.length = K := ⟨_, rfl⟩
  have HN : Hid (la.length = N) := hN
  have HK : Hid (lb.length = K) := hK
  simp only [hN, hK] at H1u H2u
  clear hN hK hr H1 H2
  have b1 := Blk.new (w.alloc (.cells #[.int .i64 o, .slice A L C, .slice A' L' C'] 24)) 24 #[.int .i64 p, .slice B M D, .slice B' M' D']
  have hB0 : Below w.heap.size w ((w.alloc (.cells #[.int .i64 o, .slice A L C, .slice A' L' C'] 24)).alloc (.cells #[.int .i64 p, .slice B M D, .slice B' M' D'] 24)) := bb (below_alloc _ _) (below_alloc _ _)
  simp only [World.size_alloc] at b1
  have hw0 := hw.trans (hB0.mono hw.size)
  go_enter Try.func27, Try.ntmps27
  go_wp2_with (go_at_call 17; refine H1u hw0 fun A1 C1 w2 z1 hb2 => ?_)
  have hB2 := bb hB0 hb2
  have d1 := b1.below hb2
  clear b1 hw0 hb2 H1u hB0
  go_loopw [12] (fun v wr => ∃ k : Nat, v = .int .i64 k ∧ k ≤ N ∧ Hid (∀ z, z ∈ la.take k → ¬ z ∈ lb) ∧ ZAt wr A1 C1 la ∧ Blk wr (w.heap.size + 1) 24 #[.int .i64 p, .slice B M D, .slice B' M' D'] ∧ Below w.heap.size w wr) (fun v _ => N - (intOf v).toNat)
  case atStart => exact ⟨0, rfl, by omega, fun z hz => by simp at hz, z1, d1, hB2⟩
  case round =>
    obtain ⟨k, rfl, hk, HI, hz, d1, hB⟩ := hrel
    clear z1 hB2
    by_cases hlt : k < N
    · obtain ⟨z, hx⟩ : ∃ z, la[k]? = some z := ⟨_, List.getElem?_eq_getElem (by rw [HN.out]; exact hlt)⟩
      have hkw : wrap64 ((k : Int) + 1) = (k : Int) + 1 := wrap_under hlt (by have := hz.cap; have := hz.max; unfold maxLen at this; have := HN.out; omega)
      obtain ⟨b, q, rfl, hb, c0, hz64⟩ := hz.get k z hx
      have Hz : Hid (ZAt wr (some ⟨b, q, none⟩) C1 la) := hz
      have D1 : Hid (Blk wr (w.heap.size + 1) 24 #[.int .i64 p, .slice B M D, .slice B' M' D']) := d1
      have hkN : (k : Int) < (N : Int) := by omega
      have hwr := hw.trans (hB.mono hw.size)
      obtain ⟨e0, e1, e2, _⟩ := d1.three
      have HX : Hid (la[k]? = some z) := hx
      obtain ⟨sz, hsz⟩ : ∃ sz, wr.heap.size = sz := ⟨_, rfl⟩
      clear hz d1 hx
      go_wp2_with (go_at_call 17; refine H2u hwr fun A2 C2 w5 z2 hb5 => ?_)
      have Hz5 : Hid (ZAt w5 (some ⟨b, q, none⟩) C1 la) := Hz.out.below hb5
      have D5 : Hid (Blk w5 (w.heap.size + 1) 24 #[.int .i64 p, .slice B M D, .slice B' M' D']) := D1.out.below hb5
      have hB5 := bthen hB (Nat.le_refl _) hb5
      clear e0 e1 e2 hwr hb5 hB Hz D1 c0 hb hsz
      go_loopw [19] (fun v wx => ∃ j : Nat, v = .int .i64 j ∧ j ≤ K ∧ Hid (∀ y, y ∈ lb.take j → ¬ y = z) ∧ wx = w5) (fun v _ => K - (intOf v).toNat)
      case atStart => exact ⟨0, rfl, by omega, fun z hz => by simp at hz, rfl⟩
      case round =>
        obtain ⟨j, rfl, hj, HJ, rfl⟩ := hrel
        by_cases hjt : j < K
        · obtain ⟨y, hy⟩ : ∃ y, lb[j]? = some y := ⟨_, List.getElem?_eq_getElem (by rw [HK.out]; exact hjt)⟩
          have hjw : wrap64 ((j : Int) + 1) = (j : Int) + 1 := wrap_under hjt (by have := z2.cap; have := z2.max; unfold maxLen at this; have := HK.out; omega)
          obtain ⟨b', q', rfl, hb', c0', _⟩ := z2.get j y hy
          have hjK : (j : Int) < (K : Int) := by omega
          by_cases hm : z = y
          · subst hm
            have HR : Hid (true = r) := HT.out z (List.mem_of_getElem? HX.out) (List.mem_of_getElem? hy)
            clear hy z2 HI HJ
            go_wp2
            go_ret
            exact ⟨ret_b HR.out, hB5⟩
          · have HJ' : Hid (∀ x, x ∈ lb.take (j + 1) → ¬ x = z) := fun x hx => by
              rw [take_snoc hy] at hx
              rcases List.mem_append.1 hx with hx | hx
              · exact HJ.out x hx
              · simp at hx; subst hx; exact fun e => hm e.symm
            clear hy z2 HJ
            go_wp2
            go_roundw
            case rel => exact ⟨j + 1, by rw [hjw, nat_next], hjt, HJ', by first | rfl | trivial⟩
            case measure => rw [hjw]; exact sub_next hjt
        · obtain rfl : j = K := by omega
          have HI' : Hid (∀ x, x ∈ la.take (k + 1) → ¬ x ∈ lb) := fun x hx => by
            rw [take_snoc HX.out] at hx
            rcases List.mem_append.1 hx with hx | hx
            · exact HI.out x hx
            · simp at hx; subst hx
              intro h
              have := HJ.out
              rw [← HK.out, List.take_length] at this
              exact this x h rfl
          clear HI HJ z2
          go_wp2
          go_roundw
          case rel => exact ⟨k + 1, by rw [hkw, nat_next], hlt, HI', Hz5.out, D5.out, hB5⟩
          case measure => rw [hkw]; exact sub_next hlt
    · obtain rfl : k = N := by omega
      have HR : Hid (false = r) := HF.out (by have := HI.out; rw [← HN.out, List.take_length] at this; exact this)
      clear HI hz d1
      go_wp2
      go_ret
      exact ⟨ret_b HR.out, hB⟩
end Go.Proofs.Ytccknfhhmdoffaa

/-
  What the document's Check answers. No condition but that the rows lie there.
-/
import Derived.Test.YtccknfhhmdoffaaVw2
import Derived.Deep.DrawnRows
namespace Go.Proofs.Ytccknfhhmdoffaa
set_option linter.unusedVariables false
open Go.RowKit
attribute [local go_sem ↓] Go.wp_at_zero Go.wp_at_succ

/-- 4096 marks. -/
def sn (b : Nat → Bool) : Array Value := ((List.range 4096).map fun i => Value.bool (b i)).toArray
theorem sn_size (b : Nat → Bool) : (sn b).size = 4096 := by simp [sn]
theorem sn_get (b : Nat → Bool) (i : Nat) (h : i < 4096) : (sn b)[i]? = some (.bool (b i)) := by simp [sn, h]
theorem sn_congr {a b : Nat → Bool} (h : ∀ i, i < 4096 → a i = b i) : sn a = sn b := by
  unfold sn
  refine congrArg List.toArray (List.map_congr_left fun i hi => ?_)
  rw [h i (by simpa using hi)]
theorem sn_set (b : Nat → Bool) (i : Nat) (v : Bool) : (sn b).setIfInBounds i (.bool v) = sn (fun j => if j = i then v else b j) := by
  apply Array.ext_getElem?
  intro j
  rw [Array.getElem?_setIfInBounds]
  by_cases hj : j < 4096
  · rw [sn_get (fun j => if j = i then v else b j) j hj]
    by_cases h : i = j
    · subst h; simp [sn_size, hj]
    · have h' : ¬ j = i := fun e => h e.symm
      simp [h, h', sn_get b j hj]
  · have e1 : (sn b)[j]? = none := by simp [sn_size]; omega
    have e2 : (sn (fun j => if j = i then v else b j))[j]? = none := by simp [sn_size]; omega
    rw [e1, e2]
    by_cases h : i = j
    · subst h; simp [sn_size, hj]
    · simp [h]
theorem zero_sn (w : World) : Go.Sem.run Try.prog (Go.zeroValue 58) w = .ok (.agg (sn fun _ => false)) w := by kernel_rfl

/-! ### Which are met -/
/-- Among the first so many: is that one met? -/
def mtB (g : Nat → Int) : Nat → Int → Bool
  | 0, _ => false
  | n + 1, z => mtB g n z || (z == g n)
/-- .. is one met twice? -/
def twB (g : Nat → Int) : Nat → Bool
  | 0 => false
  | n + 1 => twB g n || mtB g n (g n)
theorem mtB_iff (g : Nat → Int) (z : Int) : ∀ n, mtB g n z = true ↔ ∃ m, m < n ∧ g m = z
  | 0 => by simp [mtB]
  | n + 1 => by
    simp only [mtB, Bool.or_eq_true, mtB_iff g z n, beq_iff_eq]
    constructor
    · rintro (⟨m, h1, h2⟩ | h)
      · exact ⟨m, by omega, h2⟩
      · exact ⟨n, by omega, h.symm⟩
    · rintro ⟨m, h1, h2⟩
      by_cases h : m = n
      · subst h; exact .inr h2.symm
      · exact .inl ⟨m, by omega, h2⟩
theorem twB_iff (g : Nat → Int) : ∀ n, twB g n = true ↔ ∃ l m, l < m ∧ m < n ∧ g l = g m
  | 0 => by simp [twB]
  | n + 1 => by
    simp only [twB, Bool.or_eq_true, twB_iff g n, mtB_iff]
    constructor
    · rintro (⟨l, m, h1, h2, h3⟩ | ⟨m, h1, h2⟩)
      · exact ⟨l, m, h1, by omega, h3⟩
      · exact ⟨m, n, h1, by omega, h2⟩
    · rintro ⟨l, m, h1, h2, h3⟩
      by_cases h : m = n
      · subst h; exact .inr ⟨l, h1, h3⟩
      · exact .inl ⟨l, m, h1, by omega, h3⟩
theorem twB_twice {o : Int} {ss : List Int} {ds : List Nat} : twB (ce o ss ds) (pr ds) = true ↔ Twice o ss ds := by
  rw [twB_iff]
  rfl
theorem mt_set (g : Nat → Int) (n : Nat) {j : Nat} (h : g n = (j : Int)) : (sn fun i => mtB g n (i : Int)).setIfInBounds j (.bool true) = sn fun i => mtB g (n + 1) (i : Int) := by
  rw [sn_set]
  apply sn_congr
  intro i _
  simp only [mtB]
  by_cases e : i = j
  · subst e; simp [h]
  · rw [if_neg e]
    have : ((i : Int) == g n) = false := by rw [h]; simp; omega
    rw [this]; simp
theorem vw_len {o : Int} {A A' : Option Addr} {L L' C C' : Nat} (h : L = L') : vw o A L C A' L' C' = vw o A L C A' L C' := by rw [h]

set_option maxHeartbeats 4000000 in
set_option maxRecDepth 20000 in
theorem rcheck_shape (W : World) (o : Int) (A : Option Addr) (C : Nat) (A' : Option Addr) (C' : Nat) (ds : List Nat) (hS : Shp ds) (hD : ZAt W A C (ints ds)) (ss : List Int) (hl : ss.length = ds.length) (hZ : ZAt W A' C' ss) (c : Int) (h0 : 0 ≤ c) (hc : c ≤ 4096) (e : Int)
    (h6 : ¬ Among o ss ds c → e = 6) (h7 : Among o ss ds c → Twice o ss ds → e = 7) (hok : Among o ss ds c → ¬ Twice o ss ds → e = 0) :
    AnsB W 14 #[vw o A ds.length C A' ss.length C', .int .i64 c] (.int .i64 e) := by
  intro w hw
  have HR := rsize_any W A C (ints ds) hD
  rw [ints_len, errV_shape hS, sizeV_shape hS] at HR
  have HAt : ∀ n, n < pr ds → AnsB W 23 #[.slice A ds.length C, .int .i64 (n : Int)] (.agg #[.int .i64 (ix ds n 0 : Int), .int .i64 (ix ds n 1 : Int), .int .i64 (ix ds n 2 : Int), .int .i64 (ix ds n 3 : Int)]) := fun n hn => rat_any W A C ds hS hD n hn
  have hix : ∀ n j, j < 4 → 0 ≤ (ix ds n j : Int) ∧ (ix ds n j : Int) < 4096 := fun n j hj => by
    have a := ix_lt hS n hj
    have b : ln ds j ≤ 4096 := by
      by_cases h : j < ds.length
      · obtain ⟨d, hd⟩ : ∃ d, ds[j]? = some d := ⟨_, List.getElem?_eq_getElem h⟩
        rw [ln_in hd]; exact ln_le hS hd
      · rw [ln_out (by omega)]; omega
    omega
  have HCe : ∀ n, AnsB W 24 #[.agg #[.int .i64 o, .slice A ds.length C, .slice A' ds.length C'], .agg #[.int .i64 (ix ds n 0 : Int), .int .i64 (ix ds n 1 : Int), .int .i64 (ix ds n 2 : Int), .int .i64 (ix ds n 3 : Int)]] (.int .i64 (ce (ct o) (ss.map ct) ds n)) := fun n => by
    have := rcell_any W o A C A' C' ss hZ (by rw [hl]; exact hS.few) (fun j => (ix ds n j : Int)) (hix n)
    rw [hl] at this
    exact this
  obtain ⟨g, hg⟩ : ∃ g, ce (ct o) (ss.map ct) ds = g := ⟨_, rfl⟩
  have HG : Hid (ce (ct o) (ss.map ct) ds = g) := hg
  have H6 : Hid (∀ n, n < pr ds → ¬ (0 ≤ g n ∧ g n < c) → e = 6) := fun n hn h => h6 fun k => h (by rw [← hg]; exact (among_cut hS hc).2 k n hn)
  have HAm : Hid ((∀ n, n < pr ds → 0 ≤ g n ∧ g n < c) → Among o ss ds c) := fun h => (among_cut hS hc).1 fun n hn => by rw [hg]; exact h n hn
  have HTw : Hid (Among o ss ds c → (twB g (pr ds) = true ↔ Twice o ss ds)) := fun h => by
    rw [← hg, twB_twice]
    unfold Twice
    simp only [ce_cut hS hc h]
  have H7 : Hid ((∀ n, n < pr ds → 0 ≤ g n ∧ g n < c) → twB g (pr ds) = true → e = 7) := fun h k => h7 (HAm.out h) ((HTw.out (HAm.out h)).1 k)
  have H0 : Hid ((∀ n, n < pr ds → 0 ≤ g n ∧ g n < c) → twB g (pr ds) = false → e = 0) := fun h k => hok (HAm.out h) fun t => by rw [(HTw.out (HAm.out h)).2 t] at k; cases k
  rw [hg] at HCe
  unfold vw
  rw [hl]
  clear HAm HTw h6 h7 hok hg hix hl hZ
  have HS4 : Hid (pr ds ≤ 4096) := hS.max
  have Hc4 : Hid (c ≤ 4096) := hc
  obtain ⟨S, hSe⟩ : ∃ S, pr ds = S := ⟨_, rfl⟩
  rw [hSe] at HR HAt H6 H7 H0 HS4
  obtain ⟨L, hL⟩ : ∃ L, ds.length = L := ⟨_, rfl⟩
  simp only [hL] at HR HAt HCe ⊢
  clear hS hSe hL hD
  have hz := zero_sn
  have b0 := (Blk.new w 24 #[.int .i64 o, .slice A L C, .slice A' L C']).alloc (.cells (sn fun _ => false) 58)
  have b1 := Blk.new (w.alloc (.cells #[.int .i64 o, .slice A L C, .slice A' L C'] 24)) 58 (sn fun _ => false)
  rw [World.size_alloc] at b1
  have hB0 := below_alloc w (.cells #[.int .i64 o, .slice A L C, .slice A' L C'] 24)
  have hB1 := bb hB0 (below_alloc _ (.cells (sn fun _ => false) 58))
  have hw0 := hw.trans (hB0.mono hw.size)
  have hc0 : ¬ c < 0 := by omega
  have hc4 : ¬ 4096 < c := by omega
  clear hc
  go_enter Try.func14, Try.ntmps14
  go_wp2_with (go_at_call 19; with_reducible refine AnsQ.use HR hw0 ?_)
  go_loopw [8, 9] (fun x v wr => ∃ k : Nat, x = .bool (twB g k) ∧ v = .int .i64 k ∧ k ≤ S ∧ Hid (∀ n, n < k → 0 ≤ g n ∧ g n < c) ∧ Blk wr w.heap.size 24 #[.int .i64 o, .slice A L C, .slice A' L C'] ∧ Blk wr (w.heap.size + 1) 58 (sn fun i => mtB g k (i : Int)) ∧ Below w.heap.size w wr) (fun _ v _ => S - (intOf v).toNat)
  case atStart => exact ⟨0, rfl, rfl, by omega, fun n hn => absurd hn (by omega), b0, b1, hB1⟩
  case round =>
    obtain ⟨k, rfl, rfl, hk, HI, d0, d1, hB⟩ := hrel
    clear b0 b1 hB1 hB0 hw0
    by_cases hlt : k < S
    · have hlt' : (k : Int) < (S : Int) := by omega
      have HK := HAt k hlt
      have HZ := HCe k
      have hkw : wrap64 ((k : Int) + 1) = (k : Int) + 1 := wrap_next (by have := HS4.out; omega)
      have hBW := hw.trans (hB.mono hw.size)
      have D0 : Hid (Blk wr w.heap.size 24 #[.int .i64 o, .slice A L C, .slice A' L C']) := d0
      have D1 : Hid (Blk wr (w.heap.size + 1) 58 (sn fun i => mtB g k (i : Int))) := d1
      have e0 : wr.cell? ⟨w.heap.size, 0, none⟩ = some (.int .i64 o) := d0.cell 0
      have e1 : wr.cell? ⟨w.heap.size, 1, none⟩ = some (.slice A L C) := d0.cell 1
      have e2 : wr.cell? ⟨w.heap.size, 2, none⟩ = some (.slice A' L C') := d0.cell 2
      have E6 : Hid (¬ (0 ≤ g k ∧ g k < c) → e = 6) := H6.out k hlt
      have HI' : Hid (0 ≤ g k ∧ g k < c → ∀ n, n < k + 1 → 0 ≤ g n ∧ g n < c) := fun h n hn => by
        by_cases e : n = k
        · subst e; exact h
        · exact HI.out n (by omega)
      have HT : Hid (twB g (k + 1) = (twB g k || mtB g k (g k))) := rfl
      have HM : Hid (∀ j : Nat, g k = (j : Int) → (sn fun i => mtB g k (i : Int)).setIfInBounds j (.bool true) = sn fun i => mtB g (k + 1) (i : Int)) := fun j hj => mt_set g k hj
      have HQ : Hid (∀ j : Nat, g k = (j : Int) → mtB g k (g k) = mtB g k (j : Int)) := fun j hj => by rw [hj]
      obtain ⟨z, hzz⟩ : ∃ z, g k = z := ⟨_, rfl⟩
      rw [hzz] at HZ E6 HI' HM HQ HT
      obtain ⟨t, ht⟩ : ∃ t, twB g k = t := ⟨_, rfl⟩
      rw [ht] at HT
      rw [ht]
      clear d0 d1 HI HAt HCe H6 hzz ht
      by_cases hz0 : z < 0
      · have HE : Hid (e = 6) := E6.out (by omega)
        clear E6 HI' HM HQ HT
        go_wp2
        go_region_with (first
          | (go_at_call 23; refine AnsB.use HK (below_dN hBW _) fun w2 hb2 => ?_; have hb2' := bb (below_dN (Below.refl _ _) _) hb2; have q0 : w2.cell? ⟨w.heap.size, 0, none⟩ = some (.int .i64 o) := (D0.out.below hb2').cell 0; have q1 : w2.cell? ⟨w.heap.size, 1, none⟩ = some (.slice A L C) := (D0.out.below hb2').cell 1; have q2 : w2.cell? ⟨w.heap.size, 2, none⟩ = some (.slice A' L C') := (D0.out.below hb2').cell 2)
          | (go_at_call 24; refine AnsB.use HZ (hBW.trans (hb2'.mono hBW.size)) fun w3 hb3 => ?_; have hb3' := bb hb2' hb3))
        all_goals
          go_wp2
          go_ret
          exact ⟨ret_int HE.out.symm, bthen hB (Nat.le_refl _) hb3'⟩
      by_cases hz1 : c ≤ z
      · have HE : Hid (e = 6) := E6.out (by omega)
        clear E6 HI' HM HQ HT
        go_wp2
        go_region_with (first
          | (go_at_call 23; refine AnsB.use HK (below_dN hBW _) fun w2 hb2 => ?_; have hb2' := bb (below_dN (Below.refl _ _) _) hb2; have q0 : w2.cell? ⟨w.heap.size, 0, none⟩ = some (.int .i64 o) := (D0.out.below hb2').cell 0; have q1 : w2.cell? ⟨w.heap.size, 1, none⟩ = some (.slice A L C) := (D0.out.below hb2').cell 1; have q2 : w2.cell? ⟨w.heap.size, 2, none⟩ = some (.slice A' L C') := (D0.out.below hb2').cell 2)
          | (go_at_call 24; refine AnsB.use HZ (hBW.trans (hb2'.mono hBW.size)) fun w3 hb3 => ?_; have hb3' := bb hb2' hb3))
        all_goals
          go_wp2
          go_ret
          exact ⟨ret_int HE.out.symm, bthen hB (Nat.le_refl _) hb3'⟩
      obtain ⟨j, rfl⟩ := Int.eq_ofNat_of_zero_le (show 0 ≤ z by omega)
      have hj4 : j < 4096 := by have := Hc4.out; omega
      have hj4' : (j : Int) < 4096 := by omega
      have HI2 := HI'.out (by omega)
      have HI3 : Hid (∀ n, n < k + 1 → 0 ≤ g n ∧ g n < c) := HI2
      have HM2 : Hid ((sn fun i => mtB g k (i : Int)).setIfInBounds j (.bool true) = sn fun i => mtB g (k + 1) (i : Int)) := HM.out j rfl
      clear E6 HI' HM HQ HI2
      have FIN : Hid (∀ w3, Below wr.heap.size wr w3 → ∃ v, (w3.setCell ⟨w.heap.size + 1, j, none⟩ (.bool true)) = v ∧ Blk v w.heap.size 24 #[.int .i64 o, .slice A L C, .slice A' L C'] ∧ Blk v (w.heap.size + 1) 58 (sn fun i => mtB g (k + 1) (i : Int)) ∧ Below w.heap.size w v) := fun w3 h3 =>
        ⟨_, rfl, (D0.out.below h3).other (by omega) _ _, by rw [← HM2.out]; exact (D1.out.below h3).set j _, (bthen hB (Nat.le_refl _) h3).setCell (p := ⟨w.heap.size + 1, j, none⟩) (Nat.le_succ _) _⟩
      cases t with
      | true =>
        have HT2 : Hid (twB g (k + 1) = true) := by unfold Hid; rw [HT.out]; rfl
        clear HT
        go_wp2
        go_region_with (first
          | (go_at_call 23; refine AnsB.use HK (below_dN hBW _) fun w2 hb2 => ?_; have hb2' := bb (below_dN (Below.refl _ _) _) hb2; have q0 : w2.cell? ⟨w.heap.size, 0, none⟩ = some (.int .i64 o) := (D0.out.below hb2').cell 0; have q1 : w2.cell? ⟨w.heap.size, 1, none⟩ = some (.slice A L C) := (D0.out.below hb2').cell 1; have q2 : w2.cell? ⟨w.heap.size, 2, none⟩ = some (.slice A' L C') := (D0.out.below hb2').cell 2)
          | (go_at_call 24; refine AnsB.use HZ (hBW.trans (hb2'.mono hBW.size)) fun w3 hb3 => ?_; have hb3' := bb hb2' hb3; have r1 : w3.cell? ⟨w.heap.size + 1, j, none⟩ = some (.bool (mtB g k (j : Int))) := ((D1.out.below hb3').cell j).trans (sn_get _ j hj4); have r2 := (D1.out.below hb3').frozen j))
        all_goals
          go_wp2
          obtain ⟨v, hv, f1, f2, f3⟩ := FIN.out w3 hb3'
          go_roundw
          case rel => exact ⟨k + 1, by rw [HT2.out], by rw [hkw, nat_next], by omega, HI3, by rw [hv]; exact f1, by rw [hv]; exact f2, by rw [hv]; exact f3⟩
          case measure => rw [hkw]; exact sub_next hlt
      | false =>
        cases hm : mtB g k (j : Int) with
        | true =>
          have HT2 : Hid (twB g (k + 1) = true) := by unfold Hid; rw [HT.out, hm]; rfl
          clear HT
          go_wp2
          go_region_with (first
          | (go_at_call 23; refine AnsB.use HK (below_dN hBW _) fun w2 hb2 => ?_; have hb2' := bb (below_dN (Below.refl _ _) _) hb2; have q0 : w2.cell? ⟨w.heap.size, 0, none⟩ = some (.int .i64 o) := (D0.out.below hb2').cell 0; have q1 : w2.cell? ⟨w.heap.size, 1, none⟩ = some (.slice A L C) := (D0.out.below hb2').cell 1; have q2 : w2.cell? ⟨w.heap.size, 2, none⟩ = some (.slice A' L C') := (D0.out.below hb2').cell 2)
          | (go_at_call 24; refine AnsB.use HZ (hBW.trans (hb2'.mono hBW.size)) fun w3 hb3 => ?_; have hb3' := bb hb2' hb3; have r1 : w3.cell? ⟨w.heap.size + 1, j, none⟩ = some (.bool (mtB g k (j : Int))) := ((D1.out.below hb3').cell j).trans (sn_get _ j hj4); have r2 := (D1.out.below hb3').frozen j))
          all_goals
            go_wp2
            obtain ⟨v, hv, f1, f2, f3⟩ := FIN.out w3 hb3'
            go_roundw
            case rel => exact ⟨k + 1, by rw [HT2.out], by rw [hkw, nat_next], by omega, HI3, by rw [hv]; exact f1, by rw [hv]; exact f2, by rw [hv]; exact f3⟩
            case measure => rw [hkw]; exact sub_next hlt
        | false =>
          have HT2 : Hid (twB g (k + 1) = false) := by unfold Hid; rw [HT.out, hm]; rfl
          clear HT
          go_wp2
          go_region_with (first
          | (go_at_call 23; refine AnsB.use HK (below_dN hBW _) fun w2 hb2 => ?_; have hb2' := bb (below_dN (Below.refl _ _) _) hb2; have q0 : w2.cell? ⟨w.heap.size, 0, none⟩ = some (.int .i64 o) := (D0.out.below hb2').cell 0; have q1 : w2.cell? ⟨w.heap.size, 1, none⟩ = some (.slice A L C) := (D0.out.below hb2').cell 1; have q2 : w2.cell? ⟨w.heap.size, 2, none⟩ = some (.slice A' L C') := (D0.out.below hb2').cell 2)
          | (go_at_call 24; refine AnsB.use HZ (hBW.trans (hb2'.mono hBW.size)) fun w3 hb3 => ?_; have hb3' := bb hb2' hb3; have r1 : w3.cell? ⟨w.heap.size + 1, j, none⟩ = some (.bool (mtB g k (j : Int))) := ((D1.out.below hb3').cell j).trans (sn_get _ j hj4); have r2 := (D1.out.below hb3').frozen j))
          all_goals
            go_wp2
            obtain ⟨v, hv, f1, f2, f3⟩ := FIN.out w3 hb3'
            go_roundw
            case rel => exact ⟨k + 1, by rw [HT2.out], by rw [hkw, nat_next], by omega, HI3, by rw [hv]; exact f1, by rw [hv]; exact f2, by rw [hv]; exact f3⟩
            case measure => rw [hkw]; exact sub_next hlt
    · obtain rfl : k = S := by omega
      have hlt' : ¬ (k : Int) < (k : Int) := by omega
      cases ht : twB g k with
      | true =>
        have HE : Hid (e = 7) := H7.out HI.out ht
        clear d0 d1 HI ht H6 H7 H0
        go_wp2
        go_ret
        exact ⟨ret_int HE.out.symm, hB⟩
      | false =>
        have HE : Hid (e = 0) := H0.out HI.out ht
        clear d0 d1 HI ht H6 H7 H0
        go_wp2
        go_ret
        exact ⟨ret_int HE.out.symm, hB⟩
end Go.Proofs.Ytccknfhhmdoffaa

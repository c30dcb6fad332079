/-
  What the document's Cells answers. No condition but that the rows lie there.
-/
import Derived.Test.YtccknfhhmdoffaaVw6
import Derived.Deep.DrawnRows
namespace Go.Proofs.Ytccknfhhmdoffaa
set_option linter.unusedVariables false
open Go.RowKit Go.Maps
attribute [local go_sem ↓] appS_eq Go.wp_at_zero Go.wp_at_succ

theorem row_more {base : Nat} {zs : List Int} {v : Value} {X : World} (h : X.ownsRow base 3 1 v zs.length (zcells zs)) (hX : base ≤ X.heap.size) (hl : zs.length < 4096) (z : Int) :
    ∃ g cap Y, (appS #[v, .slice (some ⟨X.heap.size, 0, none⟩) 1 1]).run Try.prog (X.alloc (.cells #[.int .i64 z] 3)) = .ok (.slice (some ⟨g, 0, none⟩) (zs.length + 1) cap) Y ∧
      Y.ownsRow base 3 1 (.slice (some ⟨g, 0, none⟩) (zs.length + 1) cap) (zs ++ [z]).length (zcells (zs ++ [z])) ∧ (∀ b t cs, b < base → Blk X b t cs → Blk Y b t cs) ∧ base ≤ Y.heap.size ∧ (∀ n w0, n ≤ base → n ≤ w0.heap.size → Below n w0 X → Below n w0 Y) := by
  obtain ⟨i1, hi1, hz1, hs1, hb1⟩ := info_parts infoZ
  obtain ⟨v', Y, hr, ho, hg, _⟩ := run_append_own (P := Try.prog) (X.alloc (.cells #[.int .i64 z] 3)) base 22 22 3 i1 (.int .i64 0) 1 8 Try.underlying22 hi1 hz1 hs1 hb1 rfl (by omega) v zs.length (zcells zs) (h.alloc _) ⟨X.heap.size, 0, none⟩ 1 1 [.int .i64 z] rfl (cell_one_new _ _ _) (by simp [Value.oneCell']) (by unfold maxLen; omega) (by omega) (by simp; omega)
  obtain ⟨g, cap, rfl⟩ := ownsRow_succ ho
  have e1 : (zs ++ [z]).length = zs.length + 1 := by simp
  have e2 : zcells (zs ++ [z]) = zcells zs ++ [.int .i64 z] := by simp [zcells]
  have hsz := hg.size
  rw [World.size_alloc] at hsz
  refine ⟨g, cap, Y, hr, by rw [e1, e2]; exact ho, fun b t cs hb hB => (hB.alloc _).kept hg (fun e => by have := (h.lt b e.symm).1; omega), by omega, fun n w0 hn h0 hw0 => ?_⟩
  have h1 := hw0.size
  exact (hw0.alloc (by omega) _).grown hg (by simp; omega) (fun k e => by have := (h.lt k e).1; omega)
set_option maxHeartbeats 1000000 in
theorem rcells_no (W : World) (o : Int) (A : Option Addr) (C : Nat) (A' : Option Addr) (C' : Nat) (zs ss : List Int) (hD : ZAt W A C zs) (hZ : ZAt W A' C' ss) (e : Int) (h : Chk o zs ss 4096 e) (he : e ≠ 0) : NewRow W 17 #[vw o A zs.length C A' ss.length C'] [] := by
  intro w hw
  have HC := rcheck_any W o A C A' C' zs ss hD hZ 4096 e h
  unfold vw at *
  generalize zs.length = L at *
  generalize ss.length = L' at *
  have hB0 := below_alloc w (.cells #[.int .i64 o, .slice A L C, .slice A' L' C'] 24)
  have hw0 := hw.trans (hB0.mono hw.size)
  clear h hD hZ
  go_enter Try.func17, Try.ntmps17
  go_wp2_with (go_at_call 14; with_reducible refine AnsB.use HC hw0 fun w2 hb2 => ?_)
  go_ret
  exact ⟨none, 0, rfl, ZAt.nil _, bb hB0 hb2⟩

set_option maxRecDepth 20000 in
set_option maxHeartbeats 4000000 in
theorem rcells_ok (W0 : World) (o : Int) (A : Option Addr) (C : Nat) (A' : Option Addr) (C' : Nat) (ds : List Nat) (ss : List Int) (hD : ZAt W0 A C (ints ds)) (hZ : ZAt W0 A' C' ss) (hO : Ok o ds ss) : NewRow W0 17 #[vw o A ds.length C A' ds.length C'] (cls o ss ds) := by
  intro w hw
  have hS := hO.shp
  have hl := hO.len
  have HC := rcheck_any W0 o A C A' C' (ints ds) ss hD hZ 4096 0 hO.chk
  rw [ints_len, hl] at HC
  have HR := rsize_any W0 A C (ints ds) hD
  rw [ints_len, errV_shape hS, sizeV_shape hS] at HR
  have HAt : ∀ n, n < pr ds → AnsB W0 23 #[.slice A ds.length C, .int .i64 (n : Int)] (.agg #[.int .i64 (ix ds n 0 : Int), .int .i64 (ix ds n 1 : Int), .int .i64 (ix ds n 2 : Int), .int .i64 (ix ds n 3 : Int)]) := fun n hn => rat_any W0 A C ds hS hD n hn
  have hix : ∀ n j, j < 4 → 0 ≤ (ix ds n j : Int) ∧ (ix ds n j : Int) < 4096 := fun n j hj => by
    have a := ix_lt hS n hj
    have b : ln ds j ≤ 4096 := by
      by_cases h : j < ds.length
      · obtain ⟨d, hd⟩ : ∃ d, ds[j]? = some d := ⟨_, List.getElem?_eq_getElem h⟩
        rw [ln_in hd]; exact ln_le hS hd
      · rw [ln_out (by omega)]; omega
    omega
  have HCe : ∀ n, AnsB W0 24 #[.agg #[.int .i64 o, .slice A ds.length C, .slice A' ds.length C'], .agg #[.int .i64 (ix ds n 0 : Int), .int .i64 (ix ds n 1 : Int), .int .i64 (ix ds n 2 : Int), .int .i64 (ix ds n 3 : Int)]] (.int .i64 (ce o ss ds n)) := fun n => by
    have := rcell_any W0 o A C A' C' ss hZ (by rw [hl]; exact hS.few) (fun j => (ix ds n j : Int)) (hix n)
    rw [hl] at this
    have e : cl (ct o) (ss.map ct) (fun j => (ix ds n j : Int)) ds.length = ce o ss ds n := ce_cut hS (Int.le_refl _) hO.am n
    rw [e] at this
    exact this
  obtain ⟨g, hg⟩ : ∃ g, ce o ss ds = g := ⟨_, rfl⟩
  have HGb : Hid (∀ z ∈ cls o ss ds, I64 z) := fun z hz => by
    unfold cls at hz
    obtain ⟨n, hn, rfl⟩ := List.mem_map.1 hz
    have := hO.am n (by simpa using hn)
    unfold I64; omega
  have HCl : Hid (cls o ss ds = (List.range (pr ds)).map g) := by unfold Hid cls; rw [hg]
  rw [hg] at HCe
  unfold vw at *
  obtain ⟨L, hL⟩ : ∃ L, ds.length = L := ⟨_, rfl⟩
  obtain ⟨S, hSe⟩ : ∃ S, pr ds = S := ⟨_, rfl⟩
  have HS4 : Hid (S ≤ 4096) := by unfold Hid; rw [← hSe]; exact hS.max
  rw [hSe] at HR HAt HCl
  simp only [hL] at HR HAt HCe HC ⊢
  clear hS hSe hL hg hl hZ hO hix hD
  have hB0 := below_alloc w (.cells #[.int .i64 o, .slice A L C, .slice A' L C'] 24)
  have b0 := Blk.new w 24 #[.int .i64 o, .slice A L C, .slice A' L C']
  have hw0 := hw.trans (hB0.mono hw.size)
  go_enter Try.func17, Try.ntmps17
  go_wp2_with (first
    | (go_at_call 14; refine AnsB.use HC hw0 fun w2 hb2 => ?_; have hw2 := hw0.trans (hb2.mono hw0.size); have e1 : w2.cell? ⟨w.heap.size, 1, none⟩ = some (.slice A L C) := (b0.below hb2).cell 1)
    | (go_at_call 19; with_reducible refine AnsQ.use HR hw2 ?_))
  have z0 := b0.below hb2
  have hB2 := bb hB0 hb2
  have lt2 := z0.lt
  clear b0 e1 HC
  go_loopw [3, 6] (fun x v wr => ∃ k : Nat, v = .int .i64 k ∧ k ≤ S ∧ Hid (wr.ownsRow w2.heap.size 3 1 x ((List.range k).map g).length (zcells ((List.range k).map g))) ∧ Blk wr w.heap.size 24 #[.int .i64 o, .slice A L C, .slice A' L C'] ∧ w2.heap.size ≤ wr.heap.size ∧ Below w.heap.size w wr) (fun _ v _ => S - (intOf v).toNat)
  case atStart => exact ⟨0, rfl, by omega, World.ownsRow_nil _ _ _ _, z0, Nat.le_refl _, hB2⟩
  case round =>
    obtain ⟨k, rfl, hk, HO, d0, hsz, hB⟩ := hrel
    clear z0 hB2
    by_cases hlt : k < S
    · have hlt' : (k : Int) < (S : Int) := by omega
      have HK := HAt k hlt
      have HZ := HCe k
      have hkw : wrap64 ((k : Int) + 1) = (k : Int) + 1 := wrap_next (by have := HS4.out; omega)
      have hBW := hw.trans (hB.mono hw.size)
      have D0 : Hid (Blk wr w.heap.size 24 #[.int .i64 o, .slice A L C, .slice A' L C']) := d0
      have e0 : wr.cell? ⟨w.heap.size, 0, none⟩ = some (.int .i64 o) := d0.cell 0
      have e1 : wr.cell? ⟨w.heap.size, 1, none⟩ = some (.slice A L C) := d0.cell 1
      have e2 : wr.cell? ⟨w.heap.size, 2, none⟩ = some (.slice A' L C') := d0.cell 2
      have HN : Hid ((List.range (k + 1)).map g = (List.range k).map g ++ [g k]) := by unfold Hid; rw [List.range_succ]; simp
      have HP4 : Hid (((List.range k).map g).length < 4096) := by unfold Hid; simp; have := HS4.out; omega
      have HLk : Hid (((List.range k).map g).length = k) := by unfold Hid; simp
      have HB : Hid (Below w.heap.size w wr) := hB
      have HLt : Hid (w.heap.size < w2.heap.size) := lt2
      obtain ⟨zs, hzs⟩ : ∃ zs, (List.range k).map g = zs := ⟨_, rfl⟩
      rw [hzs] at HN HP4 HO HLk
      obtain ⟨z, hz⟩ : ∃ z, g k = z := ⟨_, rfl⟩
      rw [hz] at HN HZ
      clear d0 hzs hz hB HAt HCe lt2
      go_wp2
      go_region_with (first
        | (go_at_call 23; refine AnsB.use HK (below_dN hBW _) fun w4 hb4 => ?_; have hb4' := bb (below_dN (Below.refl _ _) _) hb4; have q0 : w4.cell? ⟨w.heap.size, 0, none⟩ = some (.int .i64 o) := (D0.out.below hb4').cell 0; have q1 : w4.cell? ⟨w.heap.size, 1, none⟩ = some (.slice A L C) := (D0.out.below hb4').cell 1; have q2 : w4.cell? ⟨w.heap.size, 2, none⟩ = some (.slice A' L C') := (D0.out.below hb4').cell 2)
        | (go_at_call 24; refine AnsB.use HZ (hBW.trans (hb4'.mono hBW.size)) fun w3 hb3 => ?_; have hb3' := bb hb4' hb3; obtain ⟨g8, cap8, w8, hr8, ho8, hk8, hs8, hB8⟩ := row_more (row_below HO.out hb3') (Nat.le_trans hsz hb3'.size) HP4.out z; rw [HLk.out] at hr8 ho8))
      all_goals
        go_wp2
        go_roundw
        case rel => exact ⟨k + 1, by rw [hkw, nat_next], hlt, by unfold Hid; rw [HN.out]; exact ho8, hk8 _ _ _ HLt.out (D0.out.below hb3'), hs8, hB8 _ _ (Nat.le_of_lt HLt.out) (Nat.le_refl _) (bthen HB.out (Nat.le_refl _) hb3')⟩
        case measure => rw [hkw]; exact sub_next hlt
    · obtain rfl : k = S := by omega
      have hlt' : ¬ (k : Int) < (k : Int) := by omega
      have ho := HO.out
      rw [← HCl.out] at ho
      obtain ⟨A1, C1, hv, hz1⟩ := own_ints ho HGb.out
      have HZ1 : Hid (ZAt wr A1 C1 (cls o ss ds)) := hz1
      have HV : Hid (u3 = .slice A1 (cls o ss ds).length C1) := hv
      clear d0 ho hz1 hv HO
      go_wp2
      go_ret
      exact ⟨A1, C1, congrArg Ending.returned HV.out, HZ1.out, hB⟩
end Go.Proofs.Ytccknfhhmdoffaa

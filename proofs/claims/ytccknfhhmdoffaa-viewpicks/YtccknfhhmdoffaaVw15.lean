/-
  What Reverse and Pick of a view answer. No condition but that the rows lie there.
-/
import Derived.Test.YtccknfhhmdoffaaVw14
import Derived.Test.YtccknfhhmdoffaaVw13
namespace Go.Proofs.Ytccknfhhmdoffaa
set_option linter.unusedVariables false
open Go.RowKit

set_option maxHeartbeats 1000000 in
theorem reverse_ok (W : World) (o : Int) (A : Option Addr) (C : Nat) (A' : Option Addr) (C' : Nat) (ds : List Nat) (ss : List Int) (hD : ZAt W A C (ints ds)) (hZ : ZAt W A' C' ss) (hO : Ok o ds ss) (k d : Nat) (hd : ds[k]? = some d) :
    NewE W 25 #[vw o A ds.length C A' ds.length C', .int .i64 (k : Int)] (o + ((d : Int) - 1) * sg ss k) ((ints ds).set k d) (sts ss k d (-1)) := by
  intro w hw
  have hS := hO.shp
  have hk : k < ds.length := (List.getElem?_eq_some_iff.1 hd).1
  have h4 := hS.few
  have HC := checkAxis_any W o A C A' C' (ints ds) ss hD hZ 0 hO.chk (k : Int)
  rw [ints_len, caE_in hk, hO.len] at HC
  have hld := ln_le hS hd
  have hlp := hS.pos d (List.mem_of_getElem? hd)
  have hdw : wrap64 ((d : Int) - 1) = (d : Int) - 1 := wrap_mid (by omega) (by omega)
  obtain ⟨f, hf⟩ : ∃ f, (d : Int) - 1 = f := ⟨_, rfl⟩
  have n1 : 0 ≤ f := by omega
  have n2 : f < d := by omega
  have HP := part_any W o A C A' C' (ints ds) ss hD hZ (by rw [ints_len]; omega) (by rw [hO.len]; omega) k (by rw [ints_len]; exact hk) (by rw [hO.len]; exact hk) f (-1) d (ok_mul hO hd n1 n2).1 (ok_mul hO hd n1 n2).2 (fun h => (ok_step hO hd (by omega) (by omega)).1)
  have HI1 : Hid (∀ z ∈ (ints ds).set k d, I64 z) := ints_i64 hS (by omega) (by omega)
  have HI2 : Hid (∀ z ∈ sts ss k d (-1), I64 z) := sts_i64 (zat_i64 hZ) fun h => (ok_step hO hd (by omega) (by omega)).2
  rw [hf]
  rw [hf] at hdw
  have hdv : wrap64 ((d : Int) - 1) = f := by rw [hf]; exact hdw
  clear hdw
  have HPu : ∀ {w : World}, Below W.heap.size W w → ∀ {R : Ending → World → Prop}, (∀ A1 C1 A2 C2 w', Two w' w.heap.size A1 C1 ((ints ds).set k d) A2 C2 (sts ss k d (-1)) → Below w.heap.size w w' → R (.returned (.agg #[.int .i64 (o + f * sg ss k), .slice A1 ds.length C1, .slice A2 ds.length C2])) w') → Calls Try.prog 40 #[vw o A ds.length C A' ds.length C', .int .i64 (k : Int), .int .i64 f, .int .i64 (-1), .int .i64 (d : Int)] w R := fun {w} hw {R} K => by
    rw [ints_len, hO.len] at HP
    exact HP.use hw (fun A1 C1 A2 C2 w' h1 h2 => by have := K A1 C1 A2 C2 w' h1 h2; rw [List.length_set, ints_len, sts_len, hO.len]; exact this)
  rw [List.length_set, ints_len, sts_len, hO.len]
  obtain ⟨pz, hpz⟩ : ∃ pz, (ints ds).set k d = pz := ⟨_, rfl⟩
  obtain ⟨ps, hps⟩ : ∃ ps, sts ss k d (-1) = ps := ⟨_, rfl⟩
  obtain ⟨u, hu⟩ : ∃ u, o + f * sg ss k = u := ⟨_, rfl⟩
  simp only [hpz, hps, hu] at HPu HI1 HI2 ⊢
  obtain ⟨b, q, rfl, hb, c0⟩ := hD.nat hd
  unfold vw at *
  generalize ds.length = L at *
  have hkL : (k : Int) < (L : Int) := by omega
  have hB0 : Below w.heap.size w ((w.alloc (.cells #[.int .i64 o, .slice (some ⟨b, q, none⟩) L C, .slice A' L C'] 28)).alloc (.cells #[.int .i64 0, .slice none 0 0, .slice none 0 0] 28)) := bb (below_alloc _ _) (below_alloc _ _)
  have b0 := (Blk.new w 28 #[.int .i64 o, .slice (some ⟨b, q, none⟩) L C, .slice A' L C']).alloc (.cells #[.int .i64 0, .slice none 0 0, .slice none 0 0] 28)
  have b1 := Blk.new (w.alloc (.cells #[.int .i64 o, .slice (some ⟨b, q, none⟩) L C, .slice A' L C'] 28)) 28 #[.int .i64 0, .slice none 0 0, .slice none 0 0]
  rw [World.size_alloc] at b1
  have hw0 := hw.trans (hB0.mono hw.size)
  clear hO hD hZ hS hd n1 n2 HP hld hlp h4 hpz hps hu hf
  go_enter Try.func25, Try.ntmps25
  go_wp2_with (first
    | (go_at_call 38; (with_reducible refine AnsB.use HC hw0 fun w2 hb2 => ?_); have b1' := b1.below hb2; obtain ⟨v0, v1, v2, _⟩ := (b0.below hb2).three; have B1 : Hid (Blk w2 (w.heap.size + 1) 28 #[.int .i64 0, .slice none 0 0, .slice none 0 0]) := b1'; clear b1'; have hw2 := hw0.trans (hb2.mono hw0.size); have c1 := ((bcell hw2).1 b (q + k) hb).trans c0)
    | (go_at_call 40; refine HPu hw2 fun A1 C1 A2 C2 w4 tw hb4 => ?_; obtain ⟨Y, hY, bY, tY, kY⟩ := put_fin (w := w) (B := w.heap.size + 1) (B1.out.below hb4) (tw.mono (Nat.succ_le_of_lt B1.out.lt)) (Nat.le_succ _) (bb (bb hB0 hb2) hb4) u L L; obtain ⟨x0, x1, x2, z0, z1, z2⟩ := (B1.out.below hb4).three; obtain ⟨y0, y1, y2, _⟩ := bY.three; have K1 : Hid (ZAt Y A1 C1 pz) := tY.sh.ints HI1.out; have K2 : Hid (ZAt Y A2 C2 ps) := tY.st.ints HI2.out; clear bY tY))
  exact bodyPost_ret (v := .tuple #[.agg #[.int .i64 u, .slice A1 L C1, .slice A2 L C2], .int .i64 0]) (by simp [results, Try.results25, go_sem, y0, y1, y2]) rfl ⟨_, _, _, _, rfl, K1.out, K2.out, kY⟩

set_option maxHeartbeats 1000000 in
theorem pick_err (W : World) (o : Int) (A : Option Addr) (C : Nat) (A' : Option Addr) (C' : Nat) (zs ss : List Int) (hD : ZAt W A C zs) (hZ : ZAt W A' C' ss) (e : Int) (h : Chk o zs ss 4096 e) (k : Int) (i : Int) (he : caE e zs.length k ≠ 0) :
    AnsB W 26 #[vw o A zs.length C A' ss.length C', .int .i64 k, .int .i64 i] (.tuple #[vw0, .int .i64 (caE e zs.length k)]) := by
  intro w hw
  have HC := checkAxis_any W o A C A' C' zs ss hD hZ e h k
  generalize caE e zs.length k = e1 at *
  unfold vw vw0 at *
  generalize zs.length = L at *
  generalize ss.length = L' at *
  have hB0 : Below w.heap.size w ((w.alloc (.cells #[.int .i64 o, .slice A L C, .slice A' L' C'] 28)).alloc (.cells #[.int .i64 0, .slice none 0 0, .slice none 0 0] 28)) := bb (below_alloc _ _) (below_alloc _ _)
  have b1 := Blk.new (w.alloc (.cells #[.int .i64 o, .slice A L C, .slice A' L' C'] 28)) 28 #[.int .i64 0, .slice none 0 0, .slice none 0 0]
  rw [World.size_alloc] at b1
  have hw0 := hw.trans (hB0.mono hw.size)
  clear h hD hZ
  go_enter Try.func26, Try.ntmps26
  go_wp2_with (go_at_call 38; (with_reducible refine AnsB.use HC hw0 fun w2 hb2 => ?_); have b1' := b1.below hb2; obtain ⟨x0, x1, x2, z0, z1, z2⟩ := b1'.three; obtain ⟨Y, hY, ⟨y0, y1, y2⟩, kY⟩ := put_err b1' (Nat.le_succ _) (bb hB0 hb2); clear b1')
  exact bodyPost_ret (v := .tuple #[.agg #[.int .i64 0, .slice none 0 0, .slice none 0 0], .int .i64 e1]) (by simp [results, Try.results26, go_sem, y0, y1, y2]) rfl ⟨rfl, kY⟩

set_option maxHeartbeats 1000000 in
theorem pick_range (W : World) (o : Int) (A : Option Addr) (C : Nat) (A' : Option Addr) (C' : Nat) (ds : List Nat) (ss : List Int) (hD : ZAt W A C (ints ds)) (hZ : ZAt W A' C' ss) (hO : Ok o ds ss) (k d : Nat) (hd : ds[k]? = some d) (i : Int) (hi : ¬ (0 ≤ i ∧ i < d)) :
    AnsB W 26 #[vw o A ds.length C A' ds.length C', .int .i64 (k : Int), .int .i64 i] (.tuple #[vw0, .int .i64 6]) := by
  intro w hw
  have hS := hO.shp
  have hk : k < ds.length := (List.getElem?_eq_some_iff.1 hd).1
  have h4 := hS.few
  have HC := checkAxis_any W o A C A' C' (ints ds) ss hD hZ 0 hO.chk (k : Int)
  rw [ints_len, caE_in hk, hO.len] at HC
  have hld := ln_le hS hd
  have hlp := hS.pos d (List.mem_of_getElem? hd)
  obtain ⟨b, q, rfl, hb, c0⟩ := hD.nat hd
  unfold vw vw0 at *
  generalize ds.length = L at *
  have hkL : (k : Int) < (L : Int) := by omega
  have hB0 : Below w.heap.size w ((w.alloc (.cells #[.int .i64 o, .slice (some ⟨b, q, none⟩) L C, .slice A' L C'] 28)).alloc (.cells #[.int .i64 0, .slice none 0 0, .slice none 0 0] 28)) := bb (below_alloc _ _) (below_alloc _ _)
  have b0 := (Blk.new w 28 #[.int .i64 o, .slice (some ⟨b, q, none⟩) L C, .slice A' L C']).alloc (.cells #[.int .i64 0, .slice none 0 0, .slice none 0 0] 28)
  have b1 := Blk.new (w.alloc (.cells #[.int .i64 o, .slice (some ⟨b, q, none⟩) L C, .slice A' L C'] 28)) 28 #[.int .i64 0, .slice none 0 0, .slice none 0 0]
  rw [World.size_alloc] at b1
  have hw0 := hw.trans (hB0.mono hw.size)
  clear hO hD hZ hS hd hld hlp h4
  by_cases h0 : i < 0
  · clear hi
    go_enter Try.func26, Try.ntmps26
    go_wp2_with (go_at_call 38; (with_reducible refine AnsB.use HC hw0 fun w2 hb2 => ?_); have b1' := b1.below hb2; obtain ⟨v0, v1, v2, _⟩ := (b0.below hb2).three; have B1 : Hid (Blk w2 (w.heap.size + 1) 28 #[.int .i64 0, .slice none 0 0, .slice none 0 0]) := b1'; clear b1'; have hw2 := hw0.trans (hb2.mono hw0.size); have c1 := ((bcell hw2).1 b (q + k) hb).trans c0; obtain ⟨x0, x1, x2, z0, z1, z2⟩ := B1.out.three; obtain ⟨Y, hY, ⟨y0, y1, y2⟩, kY⟩ := put_err B1.out (Nat.le_succ _) (bb hB0 hb2))
    exact bodyPost_ret (v := .tuple #[.agg #[.int .i64 0, .slice none 0 0, .slice none 0 0], .int .i64 6]) (by simp [results, Try.results26, go_sem, y0, y1, y2]) rfl ⟨rfl, kY⟩
  · have h1 : (d : Int) ≤ i := by omega
    clear hi
    go_enter Try.func26, Try.ntmps26
    go_wp2_with (go_at_call 38; (with_reducible refine AnsB.use HC hw0 fun w2 hb2 => ?_); have b1' := b1.below hb2; obtain ⟨v0, v1, v2, _⟩ := (b0.below hb2).three; have B1 : Hid (Blk w2 (w.heap.size + 1) 28 #[.int .i64 0, .slice none 0 0, .slice none 0 0]) := b1'; clear b1'; have hw2 := hw0.trans (hb2.mono hw0.size); have c1 := ((bcell hw2).1 b (q + k) hb).trans c0; obtain ⟨x0, x1, x2, z0, z1, z2⟩ := B1.out.three; obtain ⟨Y, hY, ⟨y0, y1, y2⟩, kY⟩ := put_err B1.out (Nat.le_succ _) (bb hB0 hb2))
    exact bodyPost_ret (v := .tuple #[.agg #[.int .i64 0, .slice none 0 0, .slice none 0 0], .int .i64 6]) (by simp [results, Try.results26, go_sem, y0, y1, y2]) rfl ⟨rfl, kY⟩

theorem erase_set (ds : List Nat) (k : Nat) (c : Int) : ((ints ds).set k c).eraseIdx k = ints (ds.eraseIdx k) := by
  apply List.ext_getElem?
  intro i
  unfold ints
  rw [List.getElem?_eraseIdx, List.getElem?_map, List.getElem?_eraseIdx, List.getElem?_set, List.getElem?_set]
  by_cases h : i < k
  · rw [if_pos h, if_pos h, if_neg (by omega), List.getElem?_map]
  · rw [if_neg h, if_neg h, if_neg (by omega), List.getElem?_map]
theorem OwnZ.grown {w w' : World} {base g : Nat} {A : Option Addr} {C : Nat} {zs : List Int} (h : OwnZ w base A C zs) (hg : w.grownBy w' (some g)) (hne : ∀ g' o, A = some ⟨g', o, none⟩ → g' ≠ g) : OwnZ w' base A C zs := by
  refine World.ownsRow.kept h hg ?_
  rcases h.2 with ⟨hv, _⟩ | ⟨g', cap, cur, hv, _⟩
  · rw [hv]; exact .inl rfl
  · refine .inr ?_
    cases hv
    intro e
    exact hne g' 0 rfl (by simpa [Value.ownBlock] using e)

set_option maxRecDepth 20000 in
set_option maxHeartbeats 4000000 in
theorem pick_ok (W : World) (o : Int) (A : Option Addr) (C : Nat) (A' : Option Addr) (C' : Nat) (ds : List Nat) (ss : List Int) (hD : ZAt W A C (ints ds)) (hZ : ZAt W A' C' ss) (hO : Ok o ds ss) (k d : Nat) (hd : ds[k]? = some d) (i : Int) (n1 : 0 ≤ i) (n2 : i < d) :
    NewE W 26 #[vw o A ds.length C A' ds.length C', .int .i64 (k : Int), .int .i64 i] (o + i * sg ss k) (ints (ds.eraseIdx k)) (ss.eraseIdx k) := by
  intro w hw
  have hS := hO.shp
  have hk : k < ds.length := (List.getElem?_eq_some_iff.1 hd).1
  have h4 := hS.few
  have HC := checkAxis_any W o A C A' C' (ints ds) ss hD hZ 0 hO.chk (k : Int)
  rw [ints_len, caE_in hk, hO.len] at HC
  have hld := ln_le hS hd
  have hlp := hS.pos d (List.mem_of_getElem? hd)
  have HP := part_any W o A C A' C' (ints ds) ss hD hZ (by rw [ints_len]; omega) (by rw [hO.len]; omega) k (by rw [ints_len]; exact hk) (by rw [hO.len]; exact hk) i 1 1 (ok_mul hO hd n1 n2).1 (ok_mul hO hd n1 n2).2 (fun h => absurd h (by omega))
  have hs1 : sts ss k 1 1 = ss := by unfold sts; rw [if_neg (by omega)]
  rw [hs1] at HP
  have hl1 : ((ints ds).set k 1).length = ds.length := by rw [List.length_set, ints_len]
  have HI1 : Hid (∀ z ∈ ints (ds.eraseIdx k), I64 z) := fun z hz => by
    rw [← erase_set ds k 1] at hz
    exact ints_i64 hS (k := k) (c := 1) (by omega) (by omega) z (List.mem_of_mem_eraseIdx hz)
  have HI2 : Hid (∀ z ∈ ss.eraseIdx k, I64 z) := fun z hz => zat_i64 hZ z (List.mem_of_mem_eraseIdx hz)
  have HPu : ∀ {w : World}, Below W.heap.size W w → ∀ {R : Ending → World → Prop}, (∀ A1 C1 A2 C2 w', Two w' w.heap.size A1 C1 ((ints ds).set k 1) A2 C2 ss → Below w.heap.size w w' → R (.returned (.agg #[.int .i64 (o + i * sg ss k), .slice A1 ds.length C1, .slice A2 ds.length C2])) w') → Calls Try.prog 40 #[vw o A ds.length C A' ds.length C', .int .i64 (k : Int), .int .i64 i, .int .i64 1, .int .i64 1] w R := fun {w} hw {R} K => by
    rw [ints_len, hO.len] at HP
    exact HP.use hw (fun A1 C1 A2 C2 w' h1 h2 => by have := K A1 C1 A2 C2 w' h1 h2; rw [hl1, hO.len]; exact this)
  have hle1 : (ints (ds.eraseIdx k)).length = ds.length - 1 := by rw [ints_len, List.length_eraseIdx, if_pos hk]
  have hle2 : (ss.eraseIdx k).length = ds.length - 1 := by rw [List.length_eraseIdx, hO.len, if_pos hk]
  rw [hle1, hle2]
  have HE1 : Hid (((ints ds).set k 1).eraseIdx k = ints (ds.eraseIdx k)) := erase_set ds k 1
  have HL2 : Hid (ss.length = ds.length) := hO.len
  obtain ⟨pz, hpz⟩ : ∃ pz, (ints ds).set k 1 = pz := ⟨_, rfl⟩
  obtain ⟨qz, hqz⟩ : ∃ qz, ints (ds.eraseIdx k) = qz := ⟨_, rfl⟩
  obtain ⟨u, hu⟩ : ∃ u, o + i * sg ss k = u := ⟨_, rfl⟩
  simp only [hpz, hu, hqz] at HPu HI1 HE1 hl1 ⊢
  have HL1 : Hid (pz.length = ds.length) := hl1
  obtain ⟨b, q, rfl, hb, c0⟩ := hD.nat hd
  obtain ⟨j, hj⟩ : ∃ j, k + 1 = j := ⟨_, rfl⟩
  have hkw : wrap64 ((k : Int) + 1) = (j : Int) := by rw [wrap_next (by omega)]; omega
  have HJ : Hid (j = k + 1) := hj.symm
  unfold vw at *
  generalize ds.length = L at *
  have hkL : (k : Int) < (L : Int) := by omega
  have hB0 : Below w.heap.size w ((w.alloc (.cells #[.int .i64 o, .slice (some ⟨b, q, none⟩) L C, .slice A' L C'] 28)).alloc (.cells #[.int .i64 0, .slice none 0 0, .slice none 0 0] 28)) := bb (below_alloc _ _) (below_alloc _ _)
  have b0 := (Blk.new w 28 #[.int .i64 o, .slice (some ⟨b, q, none⟩) L C, .slice A' L C']).alloc (.cells #[.int .i64 0, .slice none 0 0, .slice none 0 0] 28)
  have b1 := Blk.new (w.alloc (.cells #[.int .i64 o, .slice (some ⟨b, q, none⟩) L C, .slice A' L C'] 28)) 28 #[.int .i64 0, .slice none 0 0, .slice none 0 0]
  rw [World.size_alloc] at b1
  have hw0 := hw.trans (hB0.mono hw.size)
  have hLn : ¬ (i : Int) < 0 := by omega
  have hLm : ¬ (d : Int) ≤ i := by omega
  clear hO hD hZ hS hd n1 n2 HP hld hlp h4 hpz hqz hu hl1 hs1 hle1 hle2 hj
  obtain ⟨M, hM⟩ : ∃ M, L - 1 = M := ⟨_, rfl⟩
  rw [hM]
  have HDel := fun (V : World) (base g C1 : Nat) (zs : List Int) (h : OwnZ V base (some ⟨g, 0, none⟩) C1 zs) (hl : zs.length = L) => delete_any V base g C1 L k j zs h hl hk HJ.out
  rw [hM] at HDel
  clear hM
  go_enter Try.func26, Try.ntmps26
  go_wp2_with (first
    | (go_at_call 38; (with_reducible refine AnsB.use HC hw0 fun w2 hb2 => ?_); have b1' := b1.below hb2; obtain ⟨v0, v1, v2, _⟩ := (b0.below hb2).three; have B1 : Hid (Blk w2 (w.heap.size + 1) 28 #[.int .i64 0, .slice none 0 0, .slice none 0 0]) := b1'; clear b1'; have hw2 := hw0.trans (hb2.mono hw0.size); have c1 := ((bcell hw2).1 b (q + k) hb).trans c0)
    | (go_at_call 40; refine HPu hw2 fun A1 C1 A2 C2 w4 tw hb4 => ?_; obtain ⟨g1, cur1, rfl, d1, l1, _⟩ := tw.sh.blk (by rw [HL1.out]; omega); obtain ⟨g2, cur2, rfl, d2, l2, _⟩ := tw.st.blk (by rw [HL2.out]; omega); have hne := tw.ne g1 g2 0 0 rfl rfl; obtain ⟨P, hP⟩ : ∃ P, w4.heap.size = P := ⟨_, rfl⟩; obtain ⟨V, hV⟩ : ∃ V, w4.alloc (.cells #[.int .i64 u, .slice (some ⟨g1, 0, none⟩) L C1, .slice (some ⟨g2, 0, none⟩) L C2] 28) = V := ⟨_, rfl⟩; have bP : Hid (Blk V P 28 #[.int .i64 u, .slice (some ⟨g1, 0, none⟩) L C1, .slice (some ⟨g2, 0, none⟩) L C2]) := (by rw [← hV, ← hP]; exact Blk.new _ _ _); have tV : Hid (Two V w2.heap.size (some ⟨g1, 0, none⟩) C1 pz (some ⟨g2, 0, none⟩) C2 ss) := (by rw [← hV]; exact tw.alloc _); have B2 : Hid (Blk V (w.heap.size + 1) 28 #[.int .i64 0, .slice none 0 0, .slice none 0 0]) := (by rw [← hV]; exact (B1.out.below hb4).alloc _); have kV : Hid (Below w.heap.size w V) := (by rw [← hV]; exact bthen (bb (bb hB0 hb2) hb4) (Nat.le_refl _) (below_alloc _ _)); have lt1 : g1 < P := hP ▸ d1.lt; have lt2 : g2 < P := hP ▸ d2.lt; have lt3 := B1.out.lt; have lt4 : w.heap.size + 1 < P := (by have := hb4.size; omega); obtain ⟨r0, r1, r2, f0, f1, f2⟩ := bP.out.three; clear d1 d2 tw)
    | (go_at_call_of 43 g1; refine (HDel V w2.heap.size g1 C1 pz tV.out.sh HL1.out).mono ?_; rintro e w5 ⟨rfl, o5, g5⟩; have p5 := bP.out.kept g5 (fun e => by cases e; omega); have q5 := B2.out.kept g5 (fun e => by cases e; omega); have t5 := tV.out.st.grown g5 (fun g' o e => by cases e; exact fun e' => hne e'.symm); have k5 := kV.out.grown g5 (by have := kV.out.size; omega) (fun n e => by cases e; omega); obtain ⟨V5, hV5⟩ : ∃ X, w5.setCell ⟨P, 1, none⟩ (.slice (some ⟨g1, 0, none⟩) M C1) = X := ⟨_, rfl⟩; obtain ⟨s0, s1, s2, s3, s4, s5⟩ := p5.three; have P5 : Hid (Blk V5 P 28 #[.int .i64 u, .slice (some ⟨g1, 0, none⟩) M C1, .slice (some ⟨g2, 0, none⟩) L C2]) := (by rw [← hV5]; exact p5.set 1 _); have Q5 : Hid (Blk V5 (w.heap.size + 1) 28 #[.int .i64 0, .slice none 0 0, .slice none 0 0]) := (by rw [← hV5]; exact q5.other (by omega) _ _); have O5 : Hid (OwnZ V5 w2.heap.size (some ⟨g1, 0, none⟩) C1 qz) := (by rw [← hV5, ← HE1.out]; exact o5.other (fun g o e => by cases e; omega) _ _); have T5 : Hid (OwnZ V5 w2.heap.size (some ⟨g2, 0, none⟩) C2 ss) := (by rw [← hV5]; exact t5.other (fun g o e => by cases e; omega) _ _); have K5 : Hid (Below w.heap.size w V5) := (by rw [← hV5]; exact k5.setCell (p := ⟨P, 1, none⟩) (by show w.heap.size ≤ P; omega) _); obtain ⟨u0, u1, u2, u3, u4, u5⟩ := P5.out.three; clear o5 g5 p5 q5 t5 k5)
    | (go_at_call_of 43 g2; refine (HDel V5 w2.heap.size g2 C2 ss T5.out HL2.out).mono ?_; rintro e w7 ⟨rfl, o7, g7⟩; have p7 := P5.out.kept g7 (fun e => by cases e; omega); have q7 := Q5.out.kept g7 (fun e => by cases e; omega); have t7 := O5.out.grown g7 (fun g' o e => by cases e; exact hne); have k7 := K5.out.grown g7 (by have := K5.out.size; omega) (fun n e => by cases e; omega); obtain ⟨V7, hV7⟩ : ∃ X, w7.setCell ⟨P, 2, none⟩ (.slice (some ⟨g2, 0, none⟩) M C2) = X := ⟨_, rfl⟩; obtain ⟨m0, m1, m2, m3, m4, m5⟩ := p7.three; have P7 : Hid (Blk V7 P 28 #[.int .i64 u, .slice (some ⟨g1, 0, none⟩) M C1, .slice (some ⟨g2, 0, none⟩) M C2]) := (by rw [← hV7]; exact p7.set 2 _); have Q7 : Hid (Blk V7 (w.heap.size + 1) 28 #[.int .i64 0, .slice none 0 0, .slice none 0 0]) := (by rw [← hV7]; exact q7.other (by omega) _ _); have T7 : Hid (Two V7 w2.heap.size (some ⟨g1, 0, none⟩) C1 qz (some ⟨g2, 0, none⟩) C2 (ss.eraseIdx k)) := (by rw [← hV7]; exact ⟨t7.other (fun g o e => by cases e; omega) _ _, o7.other (fun g o e => by cases e; omega) _ _, fun g h o p e1 e2 => by cases e1; cases e2; exact hne⟩); have K7 : Hid (Below w.heap.size w V7) := (by rw [← hV7]; exact k7.setCell (p := ⟨P, 2, none⟩) (by show w.heap.size ≤ P; omega) _); obtain ⟨Y, hY, bY, tY, kY⟩ := put_fin (w := w) (B := w.heap.size + 1) Q7.out (T7.out.mono (Nat.succ_le_of_lt B1.out.lt)) (Nat.le_succ _) K7.out u M M; obtain ⟨n0, n1, n2, _⟩ := P7.out.three; obtain ⟨x0, x1, x2, z0, z1, z2⟩ := Q7.out.three; obtain ⟨y0, y1, y2, _⟩ := bY.three; have K1 : Hid (ZAt Y (some ⟨g1, 0, none⟩) C1 qz) := tY.sh.ints HI1.out; have K2 : Hid (ZAt Y (some ⟨g2, 0, none⟩) C2 (ss.eraseIdx k)) := tY.st.ints HI2.out; clear bY tY o7 g7 p7 q7 t7 k7))
  exact bodyPost_ret (v := .tuple #[.agg #[.int .i64 u, .slice (some ⟨g1, 0, none⟩) M C1, .slice (some ⟨g2, 0, none⟩) M C2], .int .i64 0]) (by simp [results, Try.results26, go_sem, y0, y1, y2]) rfl ⟨_, _, _, _, rfl, K1.out, K2.out, kY⟩
end Go.Proofs.Ytccknfhhmdoffaa

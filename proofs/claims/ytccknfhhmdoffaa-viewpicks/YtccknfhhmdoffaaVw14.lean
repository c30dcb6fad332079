/-
  What Slice and Reverse of a view answer. No condition but that the rows lie there.
-/
import Derived.Test.YtccknfhhmdoffaaVw11
namespace Go.Proofs.Ytccknfhhmdoffaa
set_option linter.unusedVariables false
open Go.RowKit

theorem caE_zero {e : Int} {L : Nat} {k : Int} (h : caE e L k = 0) : e = 0 ∧ ∃ j : Nat, k = j ∧ j < L := by
  unfold caE at h
  split at h
  · split at h
    · rename_i h1 h2
      simp [axB] at h2
      exact ⟨h1, k.toNat, by omega, by omega⟩
    · cases h
  · rename_i h1; exact absurd h h1
theorem caE_in {L j : Nat} (h : j < L) : caE 0 L (j : Int) = 0 := by simp [caE, axB]; omega
set_option maxHeartbeats 1000000 in
theorem slice_err (W : World) (o : Int) (A : Option Addr) (C : Nat) (A' : Option Addr) (C' : Nat) (zs ss : List Int) (hD : ZAt W A C zs) (hZ : ZAt W A' C' ss) (e : Int) (h : Chk o zs ss 4096 e) (k : Int) (f s c : Int) (he : caE e zs.length k ≠ 0) :
    AnsB W 22 #[vw o A zs.length C A' ss.length C', .int .i64 k, .int .i64 f, .int .i64 s, .int .i64 c] (.tuple #[vw0, .int .i64 (caE e zs.length k)]) := by
  intro w hw
  have HC := checkAxis_any W o A C A' C' zs ss hD hZ e h k
  generalize caE e zs.length k = e1 at *
  unfold vw vw0 at *
  generalize zs.length = L at *
  generalize ss.length = L' at *
  have hB0 : Below w.heap.size w ((w.alloc (.cells #[.int .i64 o, .slice A L C, .slice A' L' C'] 28)).alloc (.cells #[.int .i64 0, .slice none 0 0, .slice none 0 0] 28)) := bb (below_alloc _ _) (below_alloc _ _)
  have b1 := Blk.new (w.alloc (.cells #[.int .i64 o, .slice A L C, .slice A' L' C'] 28)) 28 #[.int .i64 0, .slice none 0 0, .slice none 0 0]
  rw [World.size_alloc] at b1
  have hw0 := hw.trans (hB0.mono hw.size)
  clear h hD hZ
  go_enter Try.func22, Try.ntmps22
  go_wp2_with (go_at_call 38; (with_reducible refine AnsB.use HC hw0 fun w2 hb2 => ?_); have b1' := b1.below hb2; obtain ⟨x0, x1, x2, z0, z1, z2⟩ := b1'.three; obtain ⟨Y, hY, ⟨y0, y1, y2⟩, kY⟩ := put_err b1' (Nat.le_succ _) (bb hB0 hb2); clear b1')
  exact bodyPost_ret (v := .tuple #[.agg #[.int .i64 0, .slice none 0 0, .slice none 0 0], .int .i64 e1]) (by simp [results, Try.results22, go_sem, y0, y1, y2]) rfl ⟨rfl, kY⟩

set_option maxHeartbeats 1000000 in
theorem reverse_err (W : World) (o : Int) (A : Option Addr) (C : Nat) (A' : Option Addr) (C' : Nat) (zs ss : List Int) (hD : ZAt W A C zs) (hZ : ZAt W A' C' ss) (e : Int) (h : Chk o zs ss 4096 e) (k : Int) (he : caE e zs.length k ≠ 0) :
    AnsB W 25 #[vw o A zs.length C A' ss.length C', .int .i64 k] (.tuple #[vw0, .int .i64 (caE e zs.length k)]) := by
  intro w hw
  have HC := checkAxis_any W o A C A' C' zs ss hD hZ e h k
  generalize caE e zs.length k = e1 at *
  unfold vw vw0 at *
  generalize zs.length = L at *
  generalize ss.length = L' at *
  have hB0 : Below w.heap.size w ((w.alloc (.cells #[.int .i64 o, .slice A L C, .slice A' L' C'] 28)).alloc (.cells #[.int .i64 0, .slice none 0 0, .slice none 0 0] 28)) := bb (below_alloc _ _) (below_alloc _ _)
  have b1 := Blk.new (w.alloc (.cells #[.int .i64 o, .slice A L C, .slice A' L' C'] 28)) 28 #[.int .i64 0, .slice none 0 0, .slice none 0 0]
  rw [World.size_alloc] at b1
  have hw0 := hw.trans (hB0.mono hw.size)
  clear h hD hZ
  go_enter Try.func25, Try.ntmps25
  go_wp2_with (go_at_call 38; (with_reducible refine AnsB.use HC hw0 fun w2 hb2 => ?_); have b1' := b1.below hb2; obtain ⟨x0, x1, x2, z0, z1, z2⟩ := b1'.three; obtain ⟨Y, hY, ⟨y0, y1, y2⟩, kY⟩ := put_err b1' (Nat.le_succ _) (bb hB0 hb2); clear b1')
  exact bodyPost_ret (v := .tuple #[.agg #[.int .i64 0, .slice none 0 0, .slice none 0 0], .int .i64 e1]) (by simp [results, Try.results25, go_sem, y0, y1, y2]) rfl ⟨rfl, kY⟩

set_option maxHeartbeats 1000000 in
theorem slice_range (W : World) (o : Int) (A : Option Addr) (C : Nat) (A' : Option Addr) (C' : Nat) (ds : List Nat) (ss : List Int) (hD : ZAt W A C (ints ds)) (hZ : ZAt W A' C' ss) (hO : Ok o ds ss) (k d : Nat) (hd : ds[k]? = some d) (f s c : Int) (hn : ¬ Fit d f s c) :
    AnsB W 22 #[vw o A ds.length C A' ds.length C', .int .i64 (k : Int), .int .i64 f, .int .i64 s, .int .i64 c] (.tuple #[vw0, .int .i64 6]) := by
  intro w hw
  have hS := hO.shp
  have hk : k < ds.length := (List.getElem?_eq_some_iff.1 hd).1
  have HC := checkAxis_any W o A C A' C' (ints ds) ss hD hZ 0 hO.chk (k : Int)
  rw [ints_len, caE_in hk, hO.len] at HC
  have HF := stepsFit_no d f s c (by have := hS.pos d (List.mem_of_getElem? hd); omega) (by have := ln_le hS hd; omega) hn
  obtain ⟨b, q, rfl, hb, c0⟩ := hD.nat hd
  unfold vw vw0 at *
  generalize ds.length = L at *
  have hkL : (k : Int) < (L : Int) := by omega
  have hB0 : Below w.heap.size w ((w.alloc (.cells #[.int .i64 o, .slice (some ⟨b, q, none⟩) L C, .slice A' L C'] 28)).alloc (.cells #[.int .i64 0, .slice none 0 0, .slice none 0 0] 28)) := bb (below_alloc _ _) (below_alloc _ _)
  have b0 := (Blk.new w 28 #[.int .i64 o, .slice (some ⟨b, q, none⟩) L C, .slice A' L C']).alloc (.cells #[.int .i64 0, .slice none 0 0, .slice none 0 0] 28)
  have b1 := Blk.new (w.alloc (.cells #[.int .i64 o, .slice (some ⟨b, q, none⟩) L C, .slice A' L C'] 28)) 28 #[.int .i64 0, .slice none 0 0, .slice none 0 0]
  rw [World.size_alloc] at b1
  have hw0 := hw.trans (hB0.mono hw.size)
  clear hO hD hZ hS hd hn
  go_enter Try.func22, Try.ntmps22
  go_wp2_with (first
    | (go_at_call 38; (with_reducible refine AnsB.use HC hw0 fun w2 hb2 => ?_); have b1' := b1.below hb2; obtain ⟨x0, x1, x2, z0, z1, z2⟩ := b1'.three; obtain ⟨v0, v1, v2, _⟩ := (b0.below hb2).three; have B1 : Hid (Blk w2 (w.heap.size + 1) 28 #[.int .i64 0, .slice none 0 0, .slice none 0 0]) := b1'; clear b1'; have c1 := ((bcell (hw0.trans (hb2.mono hw0.size))).1 b (q + k) hb).trans c0)
    | (go_at_call 39; with_reducible refine Ans.use HF _ fun n1 => ?_; obtain ⟨Y, hY, ⟨y0, y1, y2⟩, kY⟩ := put_err (B1.out.below (below_dN (Below.refl _ _) n1)) (Nat.le_succ _) (below_dN (bb hB0 hb2) n1)))
  exact bodyPost_ret (v := .tuple #[.agg #[.int .i64 0, .slice none 0 0, .slice none 0 0], .int .i64 6]) (by simp [results, Try.results22, go_sem, y0, y1, y2]) rfl ⟨rfl, kY⟩

theorem sts_i64 {ss : List Int} {k : Nat} {c s : Int} (h : ∀ z ∈ ss, I64 z) (hs : 1 < c → I64 (sg ss k * s)) : ∀ z ∈ sts ss k c s, I64 z := fun z hz => by
  unfold sts at hz
  split at hz
  · rename_i hc
    rcases List.mem_or_eq_of_mem_set hz with hz | rfl
    · exact h z hz
    · exact hs hc
  · exact h z hz
theorem ints_i64 {ds : List Nat} (hS : Shp ds) {k : Nat} {c : Int} (h0 : 0 ≤ c) (h1 : c ≤ 4096) : ∀ z ∈ (ints ds).set k c, I64 z := fun z hz => by
  rcases List.mem_or_eq_of_mem_set hz with hz | rfl
  · unfold ints at hz
    obtain ⟨d, hd, rfl⟩ := List.mem_map.1 hz
    obtain ⟨i, hi, rfl⟩ := List.getElem_of_mem hd
    have := ln_le hS (List.getElem?_eq_getElem hi)
    unfold I64; simp only [Int.ofNat_eq_natCast]; omega
  · unfold I64; omega
theorem zat_i64 {w : World} {A : Option Addr} {C : Nat} {ss : List Int} (hZ : ZAt w A C ss) : ∀ z ∈ ss, I64 z := fun z hz => by
  obtain ⟨i, hi, rfl⟩ := List.getElem_of_mem hz
  obtain ⟨_, _, _, _, _, h⟩ := hZ.get _ _ (List.getElem?_eq_getElem hi)
  exact h
/-- Nothing goes round. -/
theorem ok_cell {o : Int} {ds : List Nat} {ss : List Int} (hO : Ok o ds ss) {k d : Nat} (hd : ds[k]? = some d) {f : Int} (h0 : 0 ≤ f) (h1 : f < d) : 0 ≤ o + f * sg ss k ∧ o + f * sg ss k < 4096 := by
  have hS := hO.shp
  have hk : k < ds.length := (List.getElem?_eq_some_iff.1 hd).1
  obtain ⟨n, rfl⟩ := Int.eq_ofNat_of_zero_le h0
  obtain ⟨m, hm, he⟩ := idx_num hS (i := fun j => if j = k then n else 0) (fun j _ => by
    show (if j = k then n else 0) < ln ds j
    split
    · rename_i e; subst e; rw [ln_in hd]; omega
    · exact ln_pos hS j)
  have := hO.am m hm
  rw [ce_idx hS he] at this
  have e : ∀ L, k < L → cl o ss (fun j => ((if j = k then n else 0 : Nat) : Int)) L = o + (n : Int) * sg ss k := by
    intro L
    induction L with
    | zero => intro h; omega
    | succ L ih =>
      intro h
      simp only [cl]
      by_cases hL : L = k
      · subst hL
        have z : ∀ M, M ≤ L → cl o ss (fun j => ((if j = L then n else 0 : Nat) : Int)) M = o := by
          intro M
          induction M with
          | zero => intro _; rfl
          | succ M ih2 => intro hM; simp only [cl]; rw [ih2 (by omega), if_neg (by omega)]; simp
        rw [z L (Nat.le_refl _)]; simp
      · rw [ih (by omega), if_neg hL]; simp
  rw [e _ hk] at this
  exact this
theorem ok_str {o : Int} {ds : List Nat} {ss : List Int} (hO : Ok o ds ss) {k d : Nat} (hd : ds[k]? = some d) (h1 : 1 < d) : -4096 < sg ss k ∧ sg ss k < 4096 :=
  (way_of hO.shp hO.am).str k (List.getElem?_eq_some_iff.1 hd).1 (by rw [ln_in hd]; omega)
theorem ok_mul {o : Int} {ds : List Nat} {ss : List Int} (hO : Ok o ds ss) {k d : Nat} (hd : ds[k]? = some d) {f : Int} (h0 : 0 ≤ f) (h1 : f < d) : wrap64 (f * sg ss k) = f * sg ss k ∧ wrap64 (o + f * sg ss k) = o + f * sg ss k := by
  have a := ok_cell hO hd h0 h1
  have b := ok_cell hO hd (f := 0) (Int.le_refl _) (by omega)
  rw [Int.zero_mul, Int.add_zero] at b
  exact ⟨wrap_mid (by omega) (by omega), wrap_mid (by omega) (by omega)⟩
theorem ok_step {o : Int} {ds : List Nat} {ss : List Int} (hO : Ok o ds ss) {k d : Nat} (hd : ds[k]? = some d) (h1 : 1 < d) {s : Int} (hs : -(d : Int) < s ∧ s < d) : wrap64 (sg ss k * s) = sg ss k * s ∧ I64 (sg ss k * s) := by
  have a := ok_str hO hd h1
  have l := ln_le hO.shp hd
  have m : -16777216 ≤ sg ss k * s ∧ sg ss k * s ≤ 16777216 := by
    rcases Int.lt_or_le (sg ss k) 0 with h | h
    · have := mul_small (a := -sg ss k) (b := s) (n := 4096) (by omega) (by omega) (by omega)
      rw [Int.neg_mul] at this; omega
    · exact mul_small (n := 4096) (by omega) (by omega) (by omega)
  exact ⟨wrap_mid (by omega) (by omega), by unfold I64; omega⟩

set_option maxHeartbeats 1000000 in
theorem slice_ok (W : World) (o : Int) (A : Option Addr) (C : Nat) (A' : Option Addr) (C' : Nat) (ds : List Nat) (ss : List Int) (hD : ZAt W A C (ints ds)) (hZ : ZAt W A' C' ss) (hO : Ok o ds ss) (k d : Nat) (hd : ds[k]? = some d) (f s c : Int) (hn : Fit d f s c) :
    NewE W 22 #[vw o A ds.length C A' ds.length C', .int .i64 (k : Int), .int .i64 f, .int .i64 s, .int .i64 c] (o + f * sg ss k) ((ints ds).set k c) (sts ss k c s) := by
  intro w hw
  have hS := hO.shp
  have hk : k < ds.length := (List.getElem?_eq_some_iff.1 hd).1
  have h4 := hS.few
  have HC := checkAxis_any W o A C A' C' (ints ds) ss hD hZ 0 hO.chk (k : Int)
  rw [ints_len, caE_in hk, hO.len] at HC
  have HF := stepsFit_yes d f s c (by have := ln_le hS hd; omega) hn
  obtain ⟨n1, n2, n3, n4, n5⟩ := hn
  have hld := ln_le hS hd
  have hst : 1 < c → -(d : Int) < s ∧ s < d := fun h => by have := n5 (by omega); omega
  have HP := part_any W o A C A' C' (ints ds) ss hD hZ (by rw [ints_len]; omega) (by rw [hO.len]; omega) k (by rw [ints_len]; exact hk) (by rw [hO.len]; exact hk) f s c (ok_mul hO hd n1 n2).1 (ok_mul hO hd n1 n2).2 (fun h => (ok_step hO hd (by omega) (hst h)).1)
  have HI1 : Hid (∀ z ∈ (ints ds).set k c, I64 z) := ints_i64 hS (by omega) (by omega)
  have HI2 : Hid (∀ z ∈ sts ss k c s, I64 z) := sts_i64 (zat_i64 hZ) fun h => (ok_step hO hd (by omega) (hst h)).2
  have HPu : ∀ {w : World}, Below W.heap.size W w → ∀ {R : Ending → World → Prop}, (∀ A1 C1 A2 C2 w', Two w' w.heap.size A1 C1 ((ints ds).set k c) A2 C2 (sts ss k c s) → Below w.heap.size w w' → R (.returned (.agg #[.int .i64 (o + f * sg ss k), .slice A1 ds.length C1, .slice A2 ds.length C2])) w') → Calls Try.prog 40 #[vw o A ds.length C A' ds.length C', .int .i64 (k : Int), .int .i64 f, .int .i64 s, .int .i64 c] w R := fun {w} hw {R} K => by
    rw [ints_len, hO.len] at HP
    exact HP.use hw (fun A1 C1 A2 C2 w' h1 h2 => by have := K A1 C1 A2 C2 w' h1 h2; rw [List.length_set, ints_len, sts_len, hO.len]; exact this)
  rw [List.length_set, ints_len, sts_len, hO.len]
  obtain ⟨pz, hpz⟩ : ∃ pz, (ints ds).set k c = pz := ⟨_, rfl⟩
  obtain ⟨ps, hps⟩ : ∃ ps, sts ss k c s = ps := ⟨_, rfl⟩
  obtain ⟨u, hu⟩ : ∃ u, o + f * sg ss k = u := ⟨_, rfl⟩
  simp only [hpz, hps, hu] at HPu HI1 HI2 ⊢
  obtain ⟨b, q, rfl, hb, c0⟩ := hD.nat hd
  unfold vw at *
  generalize ds.length = L at *
  have hkL : (k : Int) < (L : Int) := by omega
  have hB0 : Below w.heap.size w ((w.alloc (.cells #[.int .i64 o, .slice (some ⟨b, q, none⟩) L C, .slice A' L C'] 28)).alloc (.cells #[.int .i64 0, .slice none 0 0, .slice none 0 0] 28)) := bb (below_alloc _ _) (below_alloc _ _)
  have b0 := (Blk.new w 28 #[.int .i64 o, .slice (some ⟨b, q, none⟩) L C, .slice A' L C']).alloc (.cells #[.int .i64 0, .slice none 0 0, .slice none 0 0] 28)
  have b1 := Blk.new (w.alloc (.cells #[.int .i64 o, .slice (some ⟨b, q, none⟩) L C, .slice A' L C'] 28)) 28 #[.int .i64 0, .slice none 0 0, .slice none 0 0]
  rw [World.size_alloc] at b1
  have hw0 := hw.trans (hB0.mono hw.size)
  clear hO hD hZ hS hd n1 n2 n3 n4 n5 hst HP hld h4 hpz hps hu
  go_enter Try.func22, Try.ntmps22
  go_wp2_with (first
    | (go_at_call 38; (with_reducible refine AnsB.use HC hw0 fun w2 hb2 => ?_); have b1' := b1.below hb2; obtain ⟨v0, v1, v2, _⟩ := (b0.below hb2).three; have B1 : Hid (Blk w2 (w.heap.size + 1) 28 #[.int .i64 0, .slice none 0 0, .slice none 0 0]) := b1'; clear b1'; have hw2 := hw0.trans (hb2.mono hw0.size); have c1 := ((bcell hw2).1 b (q + k) hb).trans c0)
    | (go_at_call 39; with_reducible refine Ans.use HF _ fun n1 => ?_)
    | (go_at_call 40; refine HPu (below_dN hw2 _) fun A1 C1 A2 C2 w4 tw hb4 => ?_; have hb4' := bb (below_dN (Below.refl _ _) _) hb4; obtain ⟨Y, hY, bY, tY, kY⟩ := put_fin (w := w) (B := w.heap.size + 1) (B1.out.below hb4') (tw.mono (Nat.succ_le_of_lt B1.out.lt)) (Nat.le_succ _) (bb (bb hB0 hb2) hb4') u L L; obtain ⟨x0, x1, x2, z0, z1, z2⟩ := (B1.out.below hb4').three; obtain ⟨y0, y1, y2, _⟩ := bY.three; have K1 : Hid (ZAt Y A1 C1 pz) := tY.sh.ints HI1.out; have K2 : Hid (ZAt Y A2 C2 ps) := tY.st.ints HI2.out; clear bY tY))
  exact bodyPost_ret (v := .tuple #[.agg #[.int .i64 u, .slice A1 L C1, .slice A2 L C2], .int .i64 0]) (by simp [results, Try.results22, go_sem, y0, y1, y2]) rfl ⟨_, _, _, _, rfl, K1.out, K2.out, kY⟩
end Go.Proofs.Ytccknfhhmdoffaa

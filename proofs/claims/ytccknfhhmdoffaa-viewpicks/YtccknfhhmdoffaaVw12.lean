/-
  What Permute of a view that can be answers: the view with its axes in another order. No condition but that the rows lie there.
-/
import Derived.Test.YtccknfhhmdoffaaVw11
namespace Go.Proofs.Ytccknfhhmdoffaa
set_option linter.unusedVariables false
open Go.RowKit

/-- What lies there at each round. -/
structure PInv (w : World) (P : Nat) (vv : Array Value) (o : Int) (N : Nat) (A1 : Option Addr) (C1 : Nat) (A2 : Option Addr) (C2 : Nat) (zs ss : List Int) (wr : World) : Prop where
  view : Blk wr w.heap.size 28 vv
  res : Blk wr (w.heap.size + 1) 28 #[.int .i64 0, .slice none 0 0, .slice none 0 0]
  per : Blk wr P 28 #[.int .i64 o, .slice A1 N C1, .slice A2 N C2]
  two : Two wr (w.heap.size + 1 + 1) A1 C1 zs A2 C2 ss
  low : Below w.heap.size w wr
theorem PInv.drew {w : World} {P : Nat} {vv : Array Value} {o : Int} {N : Nat} {A1 : Option Addr} {C1 : Nat} {A2 : Option Addr} {C2 : Nat} {zs ss : List Int} {wr : World} (h : PInv w P vv o N A1 C1 A2 C2 zs ss wr) : PInv w P vv o N A1 C1 A2 C2 zs ss wr.drew :=
  ⟨h.view.below (below_drewZ _), h.res.below (below_drewZ _), h.per.below (below_drewZ _), h.two.below (below_drewZ _), bthen h.low (Nat.le_refl _) (below_drewZ _)⟩
theorem PInv.set1 {w : World} {P : Nat} {vv : Array Value} {o : Int} {N : Nat} {g1 : Nat} {C1 : Nat} {A2 : Option Addr} {C2 : Nat} {zs ss : List Int} {wr : World} (h : PInv w P vv o N (some ⟨g1, 0, none⟩) C1 A2 C2 zs ss wr) (hP : g1 < P) (k : Nat) (z : Int) : PInv w P vv o N (some ⟨g1, 0, none⟩) C1 A2 C2 (zs.set k z) ss (wr.setCell ⟨g1, k, none⟩ (.int .i64 z)) := by
  have hb := h.two.sh.base.1
  exact ⟨h.view.other (by omega) _ _, h.res.other (by omega) _ _, h.per.other (by omega) _ _, h.two.set1 k z, h.low.setCell (p := ⟨g1, k, none⟩) (show w.heap.size ≤ g1 by omega) _⟩
theorem PInv.set2 {w : World} {P : Nat} {vv : Array Value} {o : Int} {N : Nat} {g2 : Nat} {C1 : Nat} {A1 : Option Addr} {C2 : Nat} {zs ss : List Int} {wr : World} (h : PInv w P vv o N A1 C1 (some ⟨g2, 0, none⟩) C2 zs ss wr) (hP : g2 < P) (k : Nat) (z : Int) : PInv w P vv o N A1 C1 (some ⟨g2, 0, none⟩) C2 zs (ss.set k z) (wr.setCell ⟨g2, k, none⟩ (.int .i64 z)) := by
  have hb := h.two.st.base.1
  exact ⟨h.view.other (by omega) _ _, h.res.other (by omega) _ _, h.per.other (by omega) _ _, h.two.set2 k z, h.low.setCell (p := ⟨g2, k, none⟩) (show w.heap.size ≤ g2 by omega) _⟩
theorem pmS_i64 {w : World} {A : Option Addr} {C : Nat} {ss xs : List Int} (hZ : ZAt w A C ss) : ∀ z ∈ pmS ss xs, I64 z := fun z hz => by
  unfold pmS at hz
  obtain ⟨x, _, rfl⟩ := List.mem_map.1 hz
  unfold sg
  cases e : ss[x.toNat]? with
  | none => unfold I64; simp
  | some y => obtain ⟨_, _, _, _, _, h⟩ := hZ.get _ y e; exact h
theorem pmZ_i64 {ds : List Nat} (hS : Shp ds) {xs : List Int} : ∀ z ∈ ints (pmZ ds xs), I64 z := fun z hz => by
  unfold ints pmZ at hz
  simp only [List.map_map, List.mem_map] at hz
  obtain ⟨x, _, rfl⟩ := hz
  have : ln ds x.toNat ≤ 4096 := by
    unfold ln
    cases e : ds[x.toNat]? with
    | none => simp
    | some d => exact ln_le hS e
  unfold I64
  simp only [Function.comp_apply, Int.ofNat_eq_natCast]
  omega

set_option maxRecDepth 20000 in
set_option maxHeartbeats 4000000 in
theorem permute_ok (W : World) (o : Int) (A : Option Addr) (C : Nat) (A' : Option Addr) (C' : Nat) (ds : List Nat) (ss : List Int) (hD : ZAt W A C (ints ds)) (hZ : ZAt W A' C' ss) (hO : Ok o ds ss) (X : Option Addr) (CX : Nat) (xs : List Int) (hX : ZAt W X CX xs) (hn : eoB ds.length xs = true) :
    NewE W 21 #[vw o A ds.length C A' ds.length C', .slice X xs.length CX] o (ints (pmZ ds xs)) (pmS ss xs) := by
  intro w hw
  have hS := hO.shp
  have hl := hO.len
  have h4 := hS.few
  have HC := check_any W o A C A' C' (ints ds) ss hD hZ 4096 0 hO.chk
  have HE := eachOnce_any W o A ds.length C A' ds.length C' X CX xs hX
  have HK := copied_any W o A C A' C' (ints ds) ss hD hZ (by rw [ints_len]; omega) (by omega)
  rw [hn] at HE
  rw [ints_len, hl] at HC HK
  have HKu : ∀ {w : World}, Below W.heap.size W w → ∀ {R : Ending → World → Prop}, (∀ A1 C1 A2 C2 w', Two w' w.heap.size A1 C1 (ints ds) A2 C2 ss → Below w.heap.size w w' → R (.returned (.agg #[.int .i64 o, .slice A1 ds.length C1, .slice A2 ds.length C2])) w') → Calls Try.prog 37 #[vw o A ds.length C A' ds.length C'] w R := fun {w} hw {R} k => HK.use hw (fun A1 C1 A2 C2 w' h1 h2 => by have := k A1 C1 A2 C2 w' h1 h2; rw [ints_len, hl]; exact this)
  have hxl : xs.length = ds.length := by simp only [eoB, decide_eq_true_eq] at hn; exact hn.1
  have hz1 : (ints (pmZ ds xs)).length = ds.length := by simp [ints, pmZ, hxl]
  have hz2 : (pmS ss xs).length = ds.length := by simp [pmS, hxl]
  have HI1 : Hid (∀ z ∈ ints (pmZ ds xs), I64 z) := pmZ_i64 hS
  have HI2 : Hid (∀ z ∈ pmS ss xs, I64 z) := pmS_i64 hZ
  rw [hz1, hz2, hxl]
  rw [hxl] at HE
  have HG : Hid (∀ (k : Nat) (x : Int), xs[k]? = some x → ∃ (j : Nat) (d : Nat) (z : Int), x = j ∧ j < ds.length ∧ ds[j]? = some d ∧ ss[j]? = some z ∧ (ints (pmZ ds xs))[k]? = some (d : Int) ∧ (pmS ss xs)[k]? = some z) := fun k x hx => by
    obtain ⟨j, rfl, hj⟩ := eo_get hn hx
    obtain ⟨d, hd⟩ : ∃ d, ds[j]? = some d := ⟨_, List.getElem?_eq_getElem hj⟩
    obtain ⟨z, hz⟩ : ∃ z, ss[j]? = some z := ⟨_, List.getElem?_eq_getElem (by omega)⟩
    refine ⟨j, d, z, rfl, hj, hd, hz, ?_, ?_⟩
    · unfold ints; rw [List.getElem?_map]; unfold pmZ; rw [pm_get hx, Int.toNat_natCast, ln_in hd]; rfl
    · unfold pmS; rw [pm_get hx, Int.toNat_natCast, sg_in hz]
  obtain ⟨pz, hpz⟩ : ∃ pz, ints (pmZ ds xs) = pz := ⟨_, rfl⟩
  obtain ⟨ps, hps⟩ : ∃ ps, pmS ss xs = ps := ⟨_, rfl⟩
  rw [hpz] at HG hz1 HI1 ⊢
  rw [hps] at HG hz2 HI2 ⊢
  obtain ⟨N, hN⟩ : ∃ N, ds.length = N := ⟨_, rfl⟩
  unfold vw at *
  have hil := ints_len ds
  simp only [hN] at HC HE HKu HG hz1 hz2 hxl hl hil ⊢
  have Hz1 : Hid (pz.length = N) := hz1
  have Hz2 : Hid (ps.length = N) := hz2
  have Hxl : Hid (xs.length = N) := hxl
  have Hsl : Hid (ss.length = N) := hl
  have Hil : Hid ((ints ds).length = N) := hil
  have hB0 : Below w.heap.size w ((w.alloc (.cells #[.int .i64 o, .slice A N C, .slice A' N C'] 28)).alloc (.cells #[.int .i64 0, .slice none 0 0, .slice none 0 0] 28)) := bb (below_alloc _ _) (below_alloc _ _)
  have b0 := (Blk.new w 28 #[.int .i64 o, .slice A N C, .slice A' N C']).alloc (.cells #[.int .i64 0, .slice none 0 0, .slice none 0 0] 28)
  have b1 := Blk.new (w.alloc (.cells #[.int .i64 o, .slice A N C, .slice A' N C'] 28)) 28 #[.int .i64 0, .slice none 0 0, .slice none 0 0]
  rw [World.size_alloc] at b1
  have hw0 := hw.trans (hB0.mono hw.size)
  have HN4 : Hid (N ≤ 4) := by unfold Hid; rw [← hN]; exact h4
  clear hn hS hO hz1 hz2 hxl hl hil hN h4 hpz hps HK
  go_enter Try.func21, Try.ntmps21
  go_wp2_with (first
    | (go_at_call 13; (with_reducible refine AnsB.use HC hw0 fun w2 hb2 => ?_); have hw2 := hw0.trans (hb2.mono hw0.size); obtain ⟨v0, v1, v2, _⟩ := (b0.below hb2).three)
    | (go_at_call 36; (with_reducible refine AnsB.use HE hw2 fun w3 hb3 => ?_); have hw3 := hw2.trans (hb3.mono hw2.size); obtain ⟨v3, v4, v5, _⟩ := ((b0.below hb2).below hb3).three)
    | (go_at_call 37; refine HKu hw3 fun A1 C1 A2 C2 w4 tw hb4 => ?_))
  have tw' : Two w4 (w.heap.size + 1 + 1) A1 C1 (ints ds) A2 C2 ss := tw.mono (by have h2 := hb2.size; have h3 := hb3.size; simp only [World.size_alloc] at h2; omega)
  have hB4 := bb (bb (bb hB0 hb2) hb3) hb4
  have e0 := ((b0.below hb2).below hb3).below hb4
  have e1 := ((b1.below hb2).below hb3).below hb4
  have lt1 := e1.lt
  have HP1 : Hid (∀ g o, A1 = some ⟨g, o, none⟩ → g < w4.heap.size) := fun g o e => by subst e; exact tw'.sh.base.2
  have HP2 : Hid (∀ g o, A2 = some ⟨g, o, none⟩ → g < w4.heap.size) := fun g o e => by subst e; exact tw'.st.base.2
  have hI : PInv w w4.heap.size #[.int .i64 o, .slice A N C, .slice A' N C'] o N A1 C1 A2 C2 (ints ds) ss (w4.alloc (.cells #[.int .i64 o, .slice A1 N C1, .slice A2 N C2] 28)) :=
    ⟨e0.alloc _, e1.alloc _, Blk.new _ _ _, tw'.alloc _, bthen hB4 (Nat.le_refl _) (below_alloc _ _)⟩
  obtain ⟨P, hP⟩ : ∃ P, w4.heap.size = P := ⟨_, rfl⟩
  obtain ⟨V, hV⟩ : ∃ V, w4.alloc (.cells #[.int .i64 o, .slice A1 N C1, .slice A2 N C2] 28) = V := ⟨_, rfl⟩
  rw [hP] at hI HP1 HP2 lt1
  rw [hV] at hI
  rw [hP, hV]
  clear tw tw' hB4 e0 e1 b0 b1 hw0 hw2 hw3 hb2 hb3 hb4 hB0 HC HE HKu v0 v1 v2 v3 v4 v5 hV
  go_loopw [25] (fun v wr => ∃ k : Nat, v = .int .i64 k ∧ k ≤ N ∧ PInv w P #[.int .i64 o, .slice A N C, .slice A' N C'] o N A1 C1 A2 C2 (mx pz (ints ds) k) (mx ps ss k) wr) (fun v _ => N - (intOf v).toNat)
  case atStart => exact ⟨0, rfl, by omega, by rw [mx_zero, mx_zero]; exact hI⟩
  case round =>
    obtain ⟨k, rfl, hk, hJ⟩ := hrel
    clear hI
    by_cases hlt : k < N
    · obtain ⟨x, hx⟩ : ∃ x, xs[k]? = some x := ⟨_, List.getElem?_eq_getElem (by rw [Hxl.out]; exact hlt)⟩
      obtain ⟨bx, qx, rfl, hbx, cx, _⟩ := hX.get k x hx
      obtain ⟨j, d, z, rfl, hj, hd, hz, hd', hz'⟩ := HG.out k x hx
      obtain ⟨ba, qa, rfl, hba, ca⟩ := hD.nat hd
      obtain ⟨bs, qs, rfl, hbs, cs, _⟩ := hZ.get j z hz
      have hBW := hw.trans (hJ.low.mono hw.size)
      obtain ⟨g1, cur1, rfl, d1, l1, m1, n1, z1, r1⟩ := hJ.two.sh.blk (by rw [mx_len (by rw [Hz1.out, Hil.out]) (by rw [Hz1.out]; exact hk), Hz1.out]; omega)
      obtain ⟨g2, cur2, rfl, d2, l2, m2, n2, z2, r2⟩ := hJ.two.st.blk (by rw [mx_len (by rw [Hz2.out, Hsl.out]) (by rw [Hz2.out]; exact hk), Hz2.out]; omega)
      rw [mx_len (by rw [Hz1.out, Hil.out]) (by rw [Hz1.out]; exact hk), Hz1.out] at m1
      rw [mx_len (by rw [Hz2.out, Hsl.out]) (by rw [Hz2.out]; exact hk), Hz2.out] at m2
      obtain ⟨x1, hx1⟩ := mx_at (a := pz) (b := ints ds) (k := k) (by rw [Hz1.out, Hil.out]) (by rw [Hz1.out]; exact hlt)
      obtain ⟨x2, hx2⟩ := mx_at (a := ps) (b := ss) (k := k) (by rw [Hz2.out, Hsl.out]) (by rw [Hz2.out]; exact hlt)
      have hp1 := HP1.out g1 0 rfl
      have hp2 := HP2.out g2 0 rfl
      have hJ1 := hJ.set1 hp1 k (d : Int)
      have hJ2 := hJ1.set2 hp2 k z
      rw [mx_next (by rw [Hz1.out, Hil.out]) hd'] at hJ1 hJ2
      rw [mx_next (by rw [Hz2.out, Hsl.out]) hz'] at hJ2
      have hne := hJ.two.ne g1 g2 0 0 rfl rfl
      obtain ⟨Y1, hY1⟩ : ∃ Y, wr.setCell ⟨g1, k, none⟩ (.int .i64 (d : Int)) = Y := ⟨_, rfl⟩
      obtain ⟨Y2, hY2⟩ : ∃ Y, Y1.setCell ⟨g2, k, none⟩ (.int .i64 z) = Y := ⟨_, rfl⟩
      have d2' := d2.other (B' := g1) (fun e => hne e.symm) k (.int .i64 (d : Int))
      rw [hY1] at hJ1 hJ2 d2'
      rw [hY2] at hJ2
      have hBW1 := hw.trans (hJ1.low.mono hw.size)
      have c0 := ((bcell hBW).1 bx (qx + k) hbx).trans cx
      have c1 := ((bcell hBW).1 ba (qa + j) hba).trans ca
      have c2 := ((bcell hBW1).1 bs (qs + j) hbs).trans cs
      have c3 : wr.cell? ⟨g1, k, none⟩ = some (.int .i64 x1) := (d1.cell k).trans (r1 k x1 hx1)
      have c4 : Y1.cell? ⟨g2, k, none⟩ = some (.int .i64 x2) := (d2'.cell k).trans (r2 k x2 hx2)
      have f3 := d1.frozen k
      have f4 := d2'.frozen k
      obtain ⟨p0, p1, p2, _⟩ := hJ.per.three
      obtain ⟨q0, q1, q2, _⟩ := hJ.view.three
      obtain ⟨s0, s1, s2, _⟩ := hJ1.per.three
      obtain ⟨t0, t1, t2, _⟩ := hJ1.view.three
      have hkN : (k : Int) < (N : Int) := by omega
      have hkw : wrap64 ((k : Int) + 1) = (k : Int) + 1 := wrap_next (by have := HN4.out; omega)
      have hjN : (j : Int) < (N : Int) := by omega
      have HJ2 : Hid (PInv w P #[.int .i64 o, .slice (some ⟨ba, qa, none⟩) N C, .slice (some ⟨bs, qs, none⟩) N C'] o N (some ⟨g1, 0, none⟩) C1 (some ⟨g2, 0, none⟩) C2 (mx pz (ints ds) (k + 1)) (mx ps ss (k + 1)) Y2) := hJ2
      clear hJ hJ1 hJ2 HP1 HP2 d1 d2 d2' r1 r2 hx hx1 hx2 hd hz hd' hz' HG hX hD hZ hBW hBW1 cx ca cs HI1 HI2
      go_wp2
      go_region
      all_goals
        go_wp2
      all_goals
        go_region
      all_goals
        go_wp2
        go_roundw
      all_goals
        first
          | exact ⟨k + 1, by rw [hkw, nat_next], hlt, HJ2.out.drew.drew⟩
          | (rw [hkw]; exact sub_next hlt)
    · obtain rfl : k = N := by omega
      have hJt := hJ.two
      have e1 : mx pz (ints ds) k = pz := by have := mx_all (a := pz) (b := ints ds) (by rw [Hz1.out, Hil.out]; exact Nat.le_refl _); rw [Hz1.out] at this; exact this
      have e2 : mx ps ss k = ps := by have := mx_all (a := ps) (b := ss) (by rw [Hz2.out, Hsl.out]; exact Nat.le_refl _); rw [Hz2.out] at this; exact this
      rw [e1, e2] at hJt
      obtain ⟨Y, hY, bY, tY, kY⟩ := put_fin (w := w) (B := w.heap.size + 1) hJ.res hJt (Nat.le_succ _) hJ.low o k k
      obtain ⟨y0, y1, y2, _⟩ := bY.three
      obtain ⟨p0, p1, p2, _⟩ := hJ.per.three
      obtain ⟨q0, q1, q2, q3, q4, q5⟩ := hJ.res.three
      have hz1 := tY.sh.ints HI1.out
      have hz2 := tY.st.ints HI2.out
      have K1 : Hid (ZAt Y A1 C1 pz) := hz1
      have K2 : Hid (ZAt Y A2 C2 ps) := hz2
      clear hJ hJt bY tY hz1 hz2 HP1 HP2 HG hX hD hZ
      go_wp2
      exact bodyPost_ret (v := .tuple #[.agg #[.int .i64 o, .slice A1 k C1, .slice A2 k C2], .int .i64 0]) (by simp [results, Try.results21, go_sem, y0, y1, y2]) rfl ⟨_, _, _, _, rfl, K1.out, K2.out, kY⟩
end Go.Proofs.Ytccknfhhmdoffaa

/-
  The walk of ViewPermutes, of a view that can be and an order of its axes: true. No condition but that the rows lie there.
-/
import Derived.Test.YtccknfhhmdoffaaVl4
namespace Go.Proofs.Ytccknfhhmdoffaa
set_option linter.unusedVariables false
open Go.RowKit

theorem eo_len {L : Nat} {xs : List Int} (h : eoB L xs = true) : xs.length = L := by simp only [eoB, decide_eq_true_eq] at h; exact h.1
theorem eo_fresh {L : Nat} {xs : List Int} (h : eoB L xs = true) {k : Nat} {x : Int} (hx : xs[k]? = some x) : inB (xs.take k) x = false := by
  cases hi : inB (xs.take k) x with
  | false => rfl
  | true => rw [eo_no2 hx hi] at h; cases h

set_option maxRecDepth 20000 in
set_option maxHeartbeats 4000000 in
theorem permutes_good (W : World) (o : Int) (A : Option Addr) (C : Nat) (A' : Option Addr) (C' : Nat) (ds : List Nat) (ss : List Int) (hD : ZAt W A C (ints ds)) (hZ : ZAt W A' C' ss) (hO : Ok o ds ss) (X : Option Addr) (CX : Nat) (xs : List Int) (hX : ZAt W X CX xs) (hn : eoB ds.length xs = true) (h : gtB ds.length ds.length = false) :
    AnsB W 5 #[vw o A ds.length C A' ds.length C', .slice X xs.length CX] (.bool true) := by
  intro w hw
  have hS := hO.shp
  have h4 := hS.few
  have HA := alive_any W
  have HG := great_any W o A ds.length C A' ds.length C'
  have HO := of_any W o A ds.length C A' ds.length C'
  rw [h] at HG
  have hxl := eo_len hn
  have HP := permute_ok W o A C A' C' ds ss hD hZ hO X CX xs hX hn
  obtain ⟨fst, hst⟩ := permute_stand hO hn
  have hO' := hst.ok hO
  have hz1 : (ints (pmZ ds xs)).length = ds.length := by simp [ints, pmZ, hxl]
  have hz2 : (pmS ss xs).length = ds.length := by simp [pmS, hxl]
  have HPu : ∀ {w : World}, Below W.heap.size W w → ∀ {R : Ending → World → Prop}, (∀ A1 C1 A2 C2 w', ZAt w' A1 C1 (ints (pmZ ds xs)) → ZAt w' A2 C2 (pmS ss xs) → Below w.heap.size w w' → R (.returned (.tuple #[.agg #[.int .i64 o, .slice A1 ds.length C1, .slice A2 ds.length C2], .int .i64 0])) w') → Calls Try.prog 21 #[vw o A ds.length C A' ds.length C', .slice X ds.length CX] w R := fun {w} hw {R} K => by
    rw [hxl] at HP
    refine HP.use hw fun A1 C1 A2 C2 w' h1 h2 h3 => ?_
    rw [hz1, hz2]
    exact K A1 C1 A2 C2 w' h1 h2 h3
  have HAll : Hid (∀ (Y : World) A1 C1 A2 C2, Below W.heap.size W Y → ZAt Y A1 C1 (ints (pmZ ds xs)) → ZAt Y A2 C2 (pmS ss xs) → ZAt Y A C (ints ds) ∧ ZAt Y A' C' ss ∧ ZAt Y X CX xs ∧
      AnsB Y 14 #[.agg #[.int .i64 o, .slice A ds.length C, .slice A' ds.length C'], .int .i64 4096] (.int .i64 0) ∧
      AnsB Y 13 #[.agg #[.int .i64 o, .slice A1 ds.length C1, .slice A2 ds.length C2], .int .i64 4096] (.int .i64 0)) := fun Y A1 C1 A2 C2 hb h1 h2 => by
    have a1 := rcheck_any Y o A C A' C' (ints ds) ss (hD.below hb) (hZ.below hb) 4096 0 hO.chk
    have a2 := check_any Y o A1 C1 A2 C2 _ _ h1 h2 4096 0 hO'.chk
    rw [ints_len, hO.len] at a1
    rw [hz1, hz2] at a2
    exact ⟨hD.below hb, hZ.below hb, hX.below hb, a1, a2⟩
  have HV : Hid (∀ (k : Nat) (x : Int), xs[k]? = some x → ∃ (j : Nat) (d : Nat) (z : Int), x = j ∧ j < ds.length ∧ (ints ds)[j]? = some (d : Int) ∧ ss[j]? = some z ∧ (ints (pmZ ds xs))[k]? = some (d : Int) ∧ (pmS ss xs)[k]? = some z) := fun k x hx => by
    obtain ⟨j, rfl, hj⟩ := eo_get hn hx
    obtain ⟨d, hd⟩ : ∃ d, ds[j]? = some d := ⟨_, List.getElem?_eq_getElem hj⟩
    obtain ⟨z, hz⟩ : ∃ z, ss[j]? = some z := ⟨_, List.getElem?_eq_getElem (by rw [hO.len]; exact hj)⟩
    refine ⟨j, d, z, rfl, hj, ?_, hz, ?_, ?_⟩
    · unfold ints; rw [List.getElem?_map, hd]; rfl
    · unfold ints; rw [List.getElem?_map]; unfold pmZ; rw [pm_get hx, Int.toNat_natCast, ln_in hd]; rfl
    · unfold pmS; rw [pm_get hx, Int.toNat_natCast, sg_in hz]
  have HF : Hid (∀ (k : Nat) (x : Int), xs[k]? = some x → inB (xs.take k) x = false) := fun k x hx => eo_fresh hn hx
  obtain ⟨pz, hpz⟩ : ∃ pz, ints (pmZ ds xs) = pz := ⟨_, rfl⟩
  obtain ⟨ps, hps⟩ : ∃ ps, pmS ss xs = ps := ⟨_, rfl⟩
  obtain ⟨zs, hzs⟩ : ∃ zs, ints ds = zs := ⟨_, rfl⟩
  obtain ⟨N, hN⟩ : ∃ N, ds.length = N := ⟨_, rfl⟩
  have HN : Hid (xs.length = N) := by unfold Hid; rw [hxl, hN]
  rw [hxl]
  unfold vw at *
  simp only [hpz, hps, hzs, hN] at HPu HAll HV HG HO h4 ⊢
  have hN' : ¬ (20 : Int) < (N : Int) := by omega
  have HL4 : Hid (N ≤ 4) := h4
  have hz4 := zero_sn4
  have S := L1.new W w hw 24 (.int .i64 o) (.slice A N C) (.slice A' N C')
  clear hO hS hst hO' hD hZ hX hn h hxl HP hz1 hz2 hpz hps hzs hN h4
  go_enter Try.func5, Try.ntmps5
  go_wp2_with (first
    | (go_at_call 10; (with_reducible refine L1.use HA S fun X2 S hb q0 q1 q2 => ?_))
    | (go_at_call 11; (with_reducible refine L1.use HG S fun X3 S hb q0 q1 q2 => ?_))
    | (go_at_call 12; (with_reducible refine L1.use HO S fun X4 S hb q0 q1 q2 => ?_))
    | (go_at_call 21; refine HPu S.hW fun A1 C1 A2 C2 X5 z1 z2 hb5 => ?_; have S := S.next hb5; obtain ⟨zD, zZ, zX, HR, HC⟩ := HAll.out X5 A1 C1 A2 C2 S.hW z1 z2; have T0 := S.two 28 (.int .i64 o) (.slice A1 N C1) (.slice A2 N C2); have T : L2 X5 w w.heap.size X5.heap.size 24 28 #[.int .i64 o, .slice A N C, .slice A' N C'] #[.int .i64 o, .slice A1 N C1, .slice A2 N C2] _ := ⟨below_alloc _ _, T0.hB, T0.b1, T0.b2⟩; clear T0; obtain ⟨q0, q1, q2, p0, p1, p2⟩ := T.cells)
    | (go_at_call 14; (with_reducible refine L2.use HR T fun X6 T hb q0 q1 q2 p0 p1 p2 => ?_)))
  have b4 := Blk.new X6 43 (sn4 fun _ => false)
  have ltP := T.b2.lt
  have ltB := T.b1.lt
  have lt5 := T.hW.size
  have T := T.next (below_alloc X6 (.cells (sn4 fun _ => false) 43))
  rw [mt4_zero xs] at b4
  obtain ⟨P, hP⟩ : ∃ P, X5.heap.size = P := ⟨_, rfl⟩
  obtain ⟨Q, hQ⟩ : ∃ Q, X6.heap.size = Q := ⟨_, rfl⟩
  rw [hP] at T ltP ⊢
  rw [hQ] at b4 ltP ltB lt5 ⊢
  have HP5 : Hid (X5.heap.size ≤ Q) := lt5
  clear S hP hQ hb q0 q1 q2 p0 p1 p2 lt5
  go_loopw [8, 49] (fun y v wr => ∃ k : Nat, y = .bool true ∧ v = .int .i64 k ∧ k ≤ N ∧ L2 X5 w w.heap.size P 24 28 #[.int .i64 o, .slice A N C, .slice A' N C'] #[.int .i64 o, .slice A1 N C1, .slice A2 N C2] wr ∧ Blk wr Q 43 (sn4 (mt4 xs k))) (fun _ v _ => N - (intOf v).toNat)
  case atStart => exact ⟨0, by first | rfl | simp, rfl, by omega, T, b4⟩
  case round =>
    clear T b4
    obtain ⟨k, rfl, rfl, hk, T, b4⟩ := hrel
    by_cases hlt : k < N
    · obtain ⟨x, hx⟩ : ∃ x, xs[k]? = some x := ⟨_, List.getElem?_eq_getElem (by rw [HN.out]; exact hlt)⟩
      obtain ⟨b, q, rfl, hb, c0, _⟩ := zX.get k x hx
      have c0' := ((bcell T.hW).1 b (q + k) hb).trans c0
      obtain ⟨j, d, z, rfl, hj, _⟩ := HV.out k x hx
      have hkN : (k : Int) < (N : Int) := by omega
      have hjN : (j : Int) < (N : Int) := by omega
      have hj4 : j < 4 := by have := HL4.out; omega
      have hj4' : (j : Int) < 4 := by omega
      obtain ⟨e0, e1, e2, p0, p1, p2⟩ := T.cells
      have hm : mt4 xs k j = false := HF.out k _ hx
      have c4 : wr.cell? ⟨Q, j, none⟩ = some (.bool false) := ((b4.cell j).trans (sn4_get _ hj4)).trans (by rw [hm])
      have f4 := b4.frozen j
      have H42 : Hid (Blk (wr.setCell ⟨Q, j, none⟩ (.bool true)) Q 43 (sn4 (mt4 xs (k + 1)))) := by unfold Hid; rw [← mt4_next hx hj4]; exact b4.set j _
      have HQ2 : Hid (L2 X5 w w.heap.size P 24 28 #[.int .i64 o, .slice A N C, .slice A' N C'] #[.int .i64 o, .slice A1 N C1, .slice A2 N C2] (wr.setCell ⟨Q, j, none⟩ (.bool true))) := ⟨T.hW.setCell (p := ⟨Q, j, none⟩) HP5.out _, T.hB.setCell (p := ⟨Q, j, none⟩) (by show w.heap.size ≤ Q; omega) _, T.b1.other (by omega) _ _, T.b2.other (by omega) _ _⟩
      clear T b4 hx c0 hm
      go_wp2
      go_roundw
      case rel => exact ⟨k + 1, rfl, by rw [nat_next], hlt, HQ2.out, H42.out⟩
      case measure => exact sub_next hlt
    · obtain rfl : k = N := by omega
      obtain ⟨e0, e1, e2, p0, p1, p2⟩ := T.cells
      have HT : Hid (L2 X5 w w.heap.size P 24 28 #[.int .i64 o, .slice A k C, .slice A' k C'] #[.int .i64 o, .slice A1 k C1, .slice A2 k C2] wr) := T
      clear T b4
      go_wp2
      go_loopw [98] (fun v wx => ∃ i m : Nat, v = .int .i64 i ∧ i ≤ k ∧ wx = wr.drewN m) (fun v _ => k - (intOf v).toNat)
      case atStart => exact ⟨0, 0, rfl, by omega, rfl⟩
      case round =>
        obtain ⟨i, m, rfl, hi, rfl⟩ := hrel
        by_cases hit : i < k
        · obtain ⟨x, hx⟩ : ∃ x, xs[i]? = some x := ⟨_, List.getElem?_eq_getElem (by rw [HN.out]; exact hit)⟩
          obtain ⟨j, d, z, rfl, hj, hd, hz, hd', hz'⟩ := HV.out i x hx
          have hb5 := bcell HT.out.hW
          obtain ⟨bx, qx, rfl, hbx, cx, _⟩ := zX.get i _ hx
          obtain ⟨ba, qa, rfl, hba, ca, _⟩ := zD.get j _ hd
          obtain ⟨bs, qs, rfl, hbs, cs, _⟩ := zZ.get j _ hz
          obtain ⟨b1, r1, rfl, hb1, c1, _⟩ := z1.get i _ hd'
          obtain ⟨b2, r2, rfl, hb2, c2, _⟩ := z2.get i _ hz'
          have cx' := (hb5.1 bx (qx + i) hbx).trans cx
          have ca' := (hb5.1 ba (qa + j) hba).trans ca
          have cs' := (hb5.1 bs (qs + j) hbs).trans cs
          have c1' := (hb5.1 b1 (r1 + i) hb1).trans c1
          have c2' := (hb5.1 b2 (r2 + i) hb2).trans c2
          have hik : (i : Int) < (k : Int) := by omega
          have hjk : (j : Int) < (k : Int) := by omega
          clear hx hd hz hd' hz' cx ca cs c1 c2 hb5
          go_wp2
          go_quiet ((fail))
          go_wp2
          go_roundw
          case rel => exact ⟨i + 1, _, by rw [nat_next], hit, rfl⟩
          case measure => exact sub_next hit
        · obtain rfl : i = k := by omega
          have T := HT.out.next (below_drewN _ m)
          go_wp2_with (go_at_call 13; (with_reducible refine L2.use HC T fun X7 T hb q0 q1 q2 p0 p1 p2 => ?_))
          go_ret
          exact ⟨rfl, T.hB⟩
/-- ViewPermutes. -/
theorem permutes_law (W : World) (o : Int) (A : Option Addr) (C : Nat) (A' : Option Addr) (C' : Nat) (zs ss : List Int) (hD : ZAt W A C zs) (hZ : ZAt W A' C' ss) (X : Option Addr) (CX : Nat) (xs : List Int) (hX : ZAt W X CX xs) :
    AnsB W 5 #[vw o A zs.length C A' ss.length C', .slice X xs.length CX] (.bool true) := by
  cases hg : gtB zs.length ss.length with
  | true => exact permutes_great W o A _ C A' _ C' X _ CX hg
  | false =>
    by_cases hN : 20 < xs.length
    · exact permutes_many W o A _ C A' _ C' X _ CX hg hN
    · obtain ⟨e, he⟩ := chk_any o zs ss 4096
      by_cases h0 : e = 0
      · subst h0
        obtain ⟨ds, rfl, hO⟩ := he.ok rfl
        cases hb : eoB (ints ds).length xs with
        | false =>
          have HP := permute_axis W o A C A' C' (ints ds) ss hD hZ he X CX xs hX hb
          have HR := rcheck_any W o A C A' C' (ints ds) ss hD hZ 4096 0 he
          have h4 : (ints ds).length ≤ 4 := by rw [ints_len]; exact hO.shp.few
          by_cases hNL : xs.length = (ints ds).length
          · exact permutes_bad1 W o A _ C A' _ C' X _ CX hg hN h4 xs hX rfl hb hNL HP HR
          · exact permutes_bad2 W o A _ C A' _ C' X _ CX hg hN h4 xs hX rfl hb hNL HP HR
        | true =>
          rw [ints_len] at hb hg ⊢
          rw [hO.len] at hg ⊢
          exact permutes_good W o A C A' C' ds ss hD hZ hO X CX xs hX hb hg
      · exact permutes_err W o A _ C A' _ C' X _ CX hg hN e h0 (permute_err W o A C A' C' zs ss hD hZ X _ CX e he h0) (rcheck_any W o A C A' C' zs ss hD hZ 4096 e he)
end Go.Proofs.Ytccknfhhmdoffaa

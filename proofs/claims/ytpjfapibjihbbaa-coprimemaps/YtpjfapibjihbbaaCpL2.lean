/-
  The statement CoprimeMaps: true, of all numbers. No condition.
-/
import Derived.Test.YtpjfapibjihbbaaCpB
import Derived.Test.YtpjfapibjihbbaaCpL4
namespace Go.Proofs.Ytpjfapibjihbbaa
set_option linter.unusedVariables false
open Go.RowKit

theorem mp_far (W : World) (n a b : Int) (h : 1048576 < n ∨ (¬ 1048576 < n ∧ 1048576 < a)) : AnsB W 3 #[.int .i64 n, .int .i64 a, .int .i64 b] (.bool true) := by
  intro w hw
  rcases h with h | ⟨h, h2⟩
  · go_enter Try.func3, Try.ntmps3
    go_wp2_with (go_at_call 5; with_reducible refine AnsB.use (alive15 _) hw fun w1 hb1 => ?_)
    go_ret
    exact ⟨rfl, hb1⟩
  · go_enter Try.func3, Try.ntmps3
    go_wp2_with (go_at_call 5; with_reducible refine AnsB.use (alive15 _) hw fun w1 hb1 => ?_)
    go_ret
    exact ⟨rfl, hb1⟩
theorem mp_no (W : World) (n a b : Int) (g : Bool) (h1 : ¬ 1048576 < n) (h2 : ¬ 1048576 < a) (HF : Ans 6 #[.int .i64 n, .int .i64 a] (.bool g)) (HG : Ans 7 #[.int .i64 n, .int .i64 a] (.bool g))
    (HT : Ans 10 #[.int .i64 a, .int .i64 b] (.bool false)) (HI : AnsB W 8 #[.int .i64 a, .int .i64 b] (.slice none 0 0)) (HO : AnsB W 9 #[.int .i64 a, .int .i64 b] (.slice none 0 0)) :
    AnsB W 3 #[.int .i64 n, .int .i64 a, .int .i64 b] (.bool true) := by
  intro w hw
  have hg : (g != g) = false := by cases g <;> rfl
  go_enter Try.func3, Try.ntmps3
  go_wp2_with (first
    | (go_at_call 5; with_reducible refine AnsB.use (alive15 _) hw fun w1 hb1 => ?_; have hw1 := bb hw hb1)
    | (go_at_call 6; with_reducible refine Ans.use HF _ fun n2 => ?_)
    | (go_at_call 7; with_reducible refine Ans.use HG _ fun n3 => ?_; have hw3 := bb hw1 (below_drewN w1 (n2 + n3)))
    | (go_at_call 8; with_reducible refine AnsB.use HI hw3 fun w4 hb4 => ?_; have hw4 := bb hw3 hb4)
    | (go_at_call 9; with_reducible refine AnsB.use HO hw4 fun w5 hb5 => ?_)
    | (go_at_call 10; with_reducible refine Ans.use HT _ fun n6 => ?_))
  go_ret
  exact ⟨rfl, bb hb1 (bb (below_drewN w1 (n2 + n3)) (bb hb4 (bb hb5 (below_drewN _ _))))⟩
set_option maxHeartbeats 4000000 in
set_option maxRecDepth 100000 in
theorem mp_yes (W : World) (m : Int) (a b n : Nat) (g : Bool) (h1 : ¬ 1048576 < m) (h2 : ¬ 1048576 < (a : Int)) (hT : Tab a b) (hn : a * b = n) (HF : Ans 6 #[.int .i64 m, .int .i64 (a : Int)] (.bool g)) (HG : Ans 7 #[.int .i64 m, .int .i64 (a : Int)] (.bool g))
    (HTB : Ans 10 #[.int .i64 (a : Int), .int .i64 (b : Int)] (.bool true))
    (HI : NewRow W 8 #[.int .i64 (a : Int), .int .i64 (b : Int)] (ints (inL a b))) (HO : NewRow W 9 #[.int .i64 (a : Int), .int .i64 (b : Int)] (ints (ouL a b))) :
    AnsB W 3 #[.int .i64 m, .int .i64 (a : Int), .int .i64 (b : Int)] (.bool true) := by
  intro w hw
  have hg : (g != g) = false := by cases g <;> rfl
  have hmax := hT.max
  obtain ⟨hal, hbl⟩ := hT.le
  have hm := mulW hn (by omega)
  have hne : ((n : Int) != wrap64 ((a : Int) * (b : Int))) = false := by rw [hm]; simp
  have hne2 : ((n : Int) != (n : Int)) = false := by simp
  have hl1 : (ints (inL a b)).length = n := by rw [ints_len, inL_len, hn]
  have hl2 : (ints (ouL a b)).length = n := by rw [ints_len, ouL_len, hn]
  have hs : ¬ wrap64 ((n : Int) + (n : Int)) = 0 := by
    have := Nat.mul_le_mul hT.a2 hT.b2
    rw [wrSum (by omega) (by omega)]; omega
  obtain ⟨zs, hz, hz1, hz2, hz3⟩ := zero_bools
  have HZ : Hid (zs.size = 1024 ∧ ∀ k, k < 1024 → zs[k]? = some (.bool false)) := ⟨hz1, hz2⟩
  have HTT : Hid (Tab a b) := hT
  have HN : Hid (a * b = n ∧ n ≤ 1024) := ⟨hn, by omega⟩
  have HM : Hid (wrap64 ((a : Int) * (b : Int)) = (n : Int)) := hm
  clear hz1 hz2 hT hn hmax hm
  go_enter Try.func3, Try.ntmps3
  go_wp2_with (first
    | (go_at_call 5; with_reducible refine AnsB.use (alive15 _) hw fun w1 hb1 => ?_; have hw1 := bb hw hb1)
    | (go_at_call 6; with_reducible refine Ans.use HF _ fun n2 => ?_)
    | (go_at_call 7; with_reducible refine Ans.use HG _ fun n3 => ?_; have hw3 := bb hw1 (below_drewN w1 (n2 + n3)))
    | (go_at_call 8; with_reducible refine NewRow.useL HI hl1 hw3 fun A4 C4 w4 hZ4 hb4 => ?_; have hw4 := bb hw3 hb4)
    | (go_at_call 9; with_reducible refine NewRow.useL HO hl2 hw4 fun A5 C5 w5 hZ5 hb5 => ?_; have hZ45 := hZ4.below hb5; have hB0 := bb hb1 (bb (below_drewN w1 (n2 + n3)) (bb hb4 hb5)))
    | (go_at_call 10; with_reducible refine Ans.use HTB _ fun n6 => ?_; have hB1 := bb hB0 (below_drewN w5 n6)))
  have hn1 := HN.out.2
  have hba : 1 ≤ n := by
    have := Nat.mul_le_mul HTT.out.a2 HTT.out.b2
    have := HN.out.1; omega
  obtain ⟨bi, oi, rfl, _, _⟩ := hZ45.nat (i := 0) (d := inS a b 0) (inL_get (by rw [HN.out.1]; omega))
  obtain ⟨bo, oo, rfl, _, _⟩ := hZ5.nat (i := 0) (d := ouS a b 0) (ouL_get (by rw [HN.out.1]; omega))
  have HX : Hid (ZAt w5 (some ⟨bi, oi, none⟩) C4 (ints (inL a b))) := hZ45
  have HY : Hid (ZAt w5 (some ⟨bo, oo, none⟩) C5 (ints (ouL a b))) := hZ5
  have HB0 : Hid (Below w.heap.size w w5) := hB0
  have hBa : Below w5.heap.size w5 (((w5.drewN n6).alloc (.cells zs 26)).alloc (.cells zs 26)) := bb (below_drewN w5 n6) (bb (below_alloc (w5.drewN n6) _) (below_alloc _ _))
  have HS1 : Hid (BA (((w5.drewN n6).alloc (.cells zs 26)).alloc (.cells zs 26)) w5.heap.size (met (inS a b) 0)) := (ba_new (w5.drewN n6) HZ.out.1 HZ.out.2 (inS a b)).below (below_alloc _ _)
  have HS2 : Hid (BA (((w5.drewN n6).alloc (.cells zs 26)).alloc (.cells zs 26)) (w5.heap.size + 1) (met (ouS a b) 0)) := by
    have h := ba_new ((w5.drewN n6).alloc (.cells zs 26)) HZ.out.1 HZ.out.2 (ouS a b)
    have e : ((w5.drewN n6).alloc (.cells zs 26)).heap.size = w5.heap.size + 1 := by simp
    rw [e] at h
    exact h
  obtain ⟨gs, hgs⟩ : ∃ gs, w5.heap.size = gs := ⟨_, rfl⟩
  have HGS : Hid (w5.heap.size = gs) := hgs
  rw [hgs] at HS1 HS2 ⊢
  clear hb1 hw1 hw3 hw4 hZ4 hb4 hZ5 hb5 hZ45 hB0 hB1 hz hz3 HZ hgs hg hne hne2 hl1 hl2 hs HI HO HF HG HTB h1 h2 hw
  go_loopw [11] (fun v wr => ∃ (i L : Nat), v = .int .i64 (i : Int) ∧ i ≤ a ∧ Hid (L = i * b) ∧ Hid (BA wr gs (met (inS a b) L)) ∧ Hid (BA wr (gs + 1) (met (ouS a b) 0)) ∧ Below w5.heap.size w5 wr) (fun v _ => a - (intOf v).toNat)
  case atStart => exact ⟨0, 0, rfl, by omega, (Nat.zero_mul b).symm, HS1, HS2, hBa⟩
  case round =>
    clear HS1 HS2 hBa
    obtain ⟨i, L, rfl, hi, HL, HS1, HS2, hB⟩ := hrel
    by_cases hlt : i < a
    · go_wp2
      go_loopw [12] (fun v wi => ∃ (j K : Nat), v = .int .i64 (j : Int) ∧ j ≤ b ∧ Hid (K = i * b + j) ∧ Hid (BA wi gs (met (inS a b) K)) ∧ Hid (BA wi (gs + 1) (met (ouS a b) 0)) ∧ Below w5.heap.size w5 wi) (fun v _ => b - (intOf v).toNat)
      case atStart => exact ⟨0, L, rfl, by omega, HL, HS1, HS2, hB⟩
      case round =>
        clear HL HS1 HS2 hB
        obtain ⟨j, K, rfl, hj, HK, HS1, HS2, hB⟩ := hrel
        by_cases hlj : j < b
        · have hK : K < n := by rw [HK.out, ← HN.out.1]; exact place_lt hlt hlj
          obtain ⟨z, hz⟩ : ∃ z, (b * i + a * j) % n = z := ⟨_, rfl⟩
          have hzn : z < n := by rw [← hz]; exact Nat.mod_lt _ (by omega)
          have hzs : inS a b K = z := by rw [HK.out, inS_at hlj, HN.out.1]; exact hz
          have hc := (HX.out.below hB).atn (inL_get (show K < a * b by rw [HN.out.1]; exact hK))
          rw [hzs] at hc
          have hinj : ∀ i j, i < n → j < n → inS a b i = inS a b j → i = j := fun i j h1 h2 => by
            rw [← HN.out.1] at h1 h2
            exact inS_inj (by have := HTT.out.a2; omega) (by have := HTT.out.b2; omega) HTT.out.cop h1 h2
          obtain ⟨hsc, hsf⟩ := HS1.out.at (show z < 1024 by omega)
          have hmn := met_new hinj hK
          rw [hzs] at hmn
          rw [hmn] at hsc
          have HP : Hid (BA (wr.setCell ⟨gs, z, none⟩ (.bool true)) gs (met (inS a b) (K + 1))) := HS1.out.put z fun k => by rw [met_next, hzs]
          have HQ : Hid (BA (wr.setCell ⟨gs, z, none⟩ (.bool true)) (gs + 1) (met (ouS a b) 0)) := HS2.out.other (by omega) z _
          have HK2 : Hid (K + 1 = i * b + (j + 1)) := by unfold Hid; rw [HK.out]; omega
          have hB2 : Below w5.heap.size w5 (wr.setCell ⟨gs, z, none⟩ (.bool true)) := hB.setCell (p := ⟨gs, z, none⟩) (by rw [HGS.out]; exact Nat.le_refl _) _
          have hzz : ((z : Int) != (z : Int)) = false := by simp
          have hix := bools_at (show z < 1024 by omega) gs
          have hn0 : ¬ (n : Int) = 0 := by omega
          have hK1 : K ≤ 1024 := by omega
          have hm0 : ¬ wrap64 ((a : Int) * (b : Int)) = 0 := by rw [HM.out]; exact hn0
          have hraw := raw_place (b := b) (i := i) (j := j) HK.out.symm hK1
          have hraw2 := raw_in HN.out.1 hn1 hlt hlj hz
          clear hz hzs hinj hmn HS1 HS2 hB hn0 hK1
          go_wp2
          go_roundw
          case rel => exact ⟨j + 1, K + 1, by go_num, by omega, HK2, HP, HQ, hB2⟩
          case measure => simp [intOf]; omega
        · obtain rfl : j = b := by omega
          have HL2 : Hid (K = (i + 1) * j) := by unfold Hid; rw [HK.out, Nat.add_mul, Nat.one_mul]
          go_wp2
          go_roundw
          case rel => exact ⟨i + 1, K, by go_num, by omega, HL2, HS1, HS2, hB⟩
          case measure => simp [intOf]; omega
    · obtain rfl : i = a := by omega
      clear HS1
      go_wp2
      go_loopw [101] (fun v wr => ∃ k : Nat, v = .int .i64 (k : Int) ∧ k ≤ n ∧ Hid (BA wr (gs + 1) (met (ouS i b) k)) ∧ Below w5.heap.size w5 wr) (fun v _ => n - (intOf v).toNat)
      case atStart => exact ⟨0, rfl, by omega, HS2, hB⟩
      case round =>
        clear HS2 hB
        obtain ⟨k, rfl, hk, HS2, hB⟩ := hrel
        by_cases hlk : k < n
        · have hi0 : 1 ≤ i := by have := HTT.out.a2; omega
          have hb0 : 1 ≤ b := by have := HTT.out.b2; omega
          have hc := (HY.out.below hB).atn (ouL_get (show k < i * b by rw [HN.out.1]; exact hlk))
          obtain ⟨r, hr⟩ : ∃ r, k % i = r := ⟨_, rfl⟩
          obtain ⟨c, hcm⟩ : ∃ c, k % b = c := ⟨_, rfl⟩
          obtain ⟨x, hx⟩ : ∃ x, ouS i b k = x := ⟨_, rfl⟩
          have hxn : x < n := by rw [← hx, ← HN.out.1]; exact ouS_lt hi0 hb0 k
          have hpl : r * b + c = x := by rw [← hx, ← hr, ← hcm]; rfl
          rw [hx] at hc
          have hinj : ∀ j l, j < n → l < n → ouS i b j = ouS i b l → j = l := fun j l h1 h2 => by
            rw [← HN.out.1] at h1 h2
            exact ouS_inj hb0 HTT.out.cop h1 h2
          obtain ⟨hsc, hsf⟩ := HS2.out.at (show x < 1024 by omega)
          have hmn := met_new hinj hlk
          rw [hx] at hmn
          rw [hmn] at hsc
          have HP : Hid (∀ q, BA ((wr.drewN q).setCell ⟨gs + 1, x, none⟩ (.bool true)) (gs + 1) (met (ouS i b) (k + 1))) := fun q => by
            have h0 : BA (wr.drewN q) (gs + 1) (met (ouS i b) k) := HS2.out
            exact h0.put x fun j => by rw [met_next, hx]
          have HB2 : Hid (∀ q, Below w5.heap.size w5 ((wr.drewN q).setCell ⟨gs + 1, x, none⟩ (.bool true))) := fun q => (bb hB (below_drewN wr q)).setCell (p := ⟨gs + 1, x, none⟩) (by rw [HGS.out]; exact Nat.le_succ _) _
          have hxx : ((x : Int) != (x : Int)) = false := by simp
          have hix := bools_at (show x < 1024 by omega) (gs + 1)
          have hr1 := modB hr
          have hc1 := modB hcm
          have hi1 : ¬ (i : Int) = 0 := by omega
          have hb1 : ¬ (b : Int) = 0 := by omega
          have hxl : x ≤ 1024 := by omega
          have hraw := raw_place hpl hxl
          clear hr hcm hx hinj hmn HS2 hB hpl
          go_wp2
          go_quiet (fail)
          all_goals go_wp2
          go_roundw
          case rel => exact ⟨k + 1, by go_num, by omega, HP.out _, HB2.out _⟩
          case measure => simp [intOf]; omega
        · go_wp2
          go_ret
          exact ⟨rfl, bb HB0.out hB⟩
/-- The statement's walk: of all numbers. -/
theorem maps_law (W : World) (n : Int) (hn : I64 n) (a : Int) (ha : I64 a) (b : Int) (hb : I64 b) : AnsB W 3 #[.int .i64 n, .int .i64 a, .int .i64 b] (.bool true) := by
  by_cases h1 : 1048576 < n
  · exact mp_far W n a b (.inl h1)
  · by_cases h2 : 1048576 < a
    · exact mp_far W n a b (.inr ⟨h1, h2⟩)
    · have HF := cfit_any n a (by omega)
      have HG := dfit_any n a (by omega)
      have HT := dtab_any a b
      cases hq : tabQ a b with
      | false =>
        rw [hq] at HT
        exact mp_no W n a b _ h1 h2 HF HG HT (in_no W a b hq) (out_no W a b hq)
      | true =>
        rw [hq] at HT
        obtain ⟨a, b, rfl, rfl, hT⟩ := tab_yes hq
        exact mp_yes W n a b _ _ h1 h2 hT rfl HF HG HT (in_yes W hT) (out_yes W hT)
end Go.Proofs.Ytpjfapibjihbbaa

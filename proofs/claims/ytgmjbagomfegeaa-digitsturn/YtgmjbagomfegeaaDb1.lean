/-
  What math/bits' ReverseBytes64 and Reverse64, digits.Bits and the document's Bits answer. No condition.
-/
import Derived.Test.YtgmjbagomfegeaaDg3
import Derived.Test.YtgmjbagomfegeaaDb0
namespace Go.Proofs.Ytgmjbagomfegeaa
set_option linter.unusedVariables false
open Go.RowKit

theorem stp_int (s m P x : Nat) (hM : Mask s m) (hs : s ≤ 64) (hP : P = 2 ^ s) (hx : x < 18446744073709551616) :
    bits .or .u64 (bits .and .u64 ((x : Int) / (P : Int)) (m : Int)) (IntKind.u64.wrap (bits .and .u64 (x : Int) (m : Int) * (P : Int))) = (stp s m x : Int) := by
  obtain ⟨_, h1, h2, h3⟩ := stp_lt (x := x) hM hs
  have hm : m < 18446744073709551616 := Nat.lt_of_lt_of_le hM.1 (show 2 ^ (64 - s) ≤ 2 ^ 64 from Nat.pow_le_pow_right (by omega) (by omega))
  subst hP
  have e1 : (x : Int) / ((2 ^ s : Nat) : Int) = ((x >>> s : Nat) : Int) := by rw [Nat.shiftRight_eq_div_pow]; rfl
  have hq : x >>> s < 18446744073709551616 := Nat.lt_of_le_of_lt (by rw [Nat.shiftRight_eq_div_pow]; exact Nat.div_le_self _ _) hx
  rw [e1, u64_and_nat _ _ hq hm, u64_and_nat _ _ hx hm, ← Int.natCast_mul]
  have e2 : IntKind.u64.wrap (((x &&& m) * 2 ^ s : Nat) : Int) = (((x &&& m) <<< s : Nat) : Int) := by
    rw [IntKind.wrap_u64, Nat.shiftLeft_eq]
    have h3' : (x &&& m) * 2 ^ s < 18446744073709551616 := h3
    generalize (x &&& m) * 2 ^ s = y at h3'
    omega
  rw [e2, u64_or_nat _ _ h1 h2]
  rfl
theorem half_int (x : Nat) (hx : x < 18446744073709551616) : bits .or .u64 ((x : Int) / 4294967296) (IntKind.u64.wrap ((x : Int) * 4294967296)) = (half x : Int) := by
  have e1 : (x : Int) / (4294967296 : Int) = ((x >>> 32 : Nat) : Int) := by rw [Nat.shiftRight_eq_div_pow]; rfl
  have hq : x >>> 32 < 18446744073709551616 := Nat.lt_of_le_of_lt (by rw [Nat.shiftRight_eq_div_pow]; exact Nat.div_le_self _ _) hx
  have e2 : IntKind.u64.wrap ((x : Int) * 4294967296) = ((x <<< 32 % 2 ^ 64 : Nat) : Int) := by
    rw [IntKind.wrap_u64, Nat.shiftLeft_eq]
    show _ = ((x * 4294967296 % 18446744073709551616 : Nat) : Int)
    omega
  rw [e1, e2, u64_or_nat _ _ hq (Nat.mod_lt _ (by decide))]
  rfl
theorem st1 (x : Nat) (hx : x < 18446744073709551616) : bits .or .u64 (bits .and .u64 ((x : Int) / 2) 6148914691236517205) (IntKind.u64.wrap (bits .and .u64 (x : Int) 6148914691236517205 * 2)) = (stp 1 m1 x : Int) := stp_int 1 m1 2 x mask1 (by omega) rfl hx
theorem st2 (x : Nat) (hx : x < 18446744073709551616) : bits .or .u64 (bits .and .u64 ((x : Int) / 4) 3689348814741910323) (IntKind.u64.wrap (bits .and .u64 (x : Int) 3689348814741910323 * 4)) = (stp 2 m2 x : Int) := stp_int 2 m2 4 x mask2 (by omega) rfl hx
theorem st4 (x : Nat) (hx : x < 18446744073709551616) : bits .or .u64 (bits .and .u64 ((x : Int) / 16) 1085102592571150095) (IntKind.u64.wrap (bits .and .u64 (x : Int) 1085102592571150095 * 16)) = (stp 4 m4 x : Int) := stp_int 4 m4 16 x mask4 (by omega) rfl hx
theorem st8 (x : Nat) (hx : x < 18446744073709551616) : bits .or .u64 (bits .and .u64 ((x : Int) / 256) 71777214294589695) (IntKind.u64.wrap (bits .and .u64 (x : Int) 71777214294589695 * 256)) = (stp 8 m8 x : Int) := stp_int 8 m8 256 x mask8 (by omega) rfl hx
theorem st16 (x : Nat) (hx : x < 18446744073709551616) : bits .or .u64 (bits .and .u64 ((x : Int) / 65536) 281470681808895) (IntKind.u64.wrap (bits .and .u64 (x : Int) 281470681808895 * 65536)) = (stp 16 m16 x : Int) := stp_int 16 m16 65536 x mask16 (by omega) rfl hx

theorem rb_any (W : World) (u v1 v2 v3 : Nat) (h8 : bits .or .u64 (bits .and .u64 ((u : Int) / 256) 71777214294589695) (IntKind.u64.wrap (bits .and .u64 (u : Int) 71777214294589695 * 256)) = (v1 : Int))
    (h16 : bits .or .u64 (bits .and .u64 ((v1 : Int) / 65536) 281470681808895) (IntKind.u64.wrap (bits .and .u64 (v1 : Int) 281470681808895 * 65536)) = (v2 : Int))
    (h32 : bits .or .u64 ((v2 : Int) / 4294967296) (IntKind.u64.wrap ((v2 : Int) * 4294967296)) = (v3 : Int)) :
    AnsQ W 29 #[.int .u64 (u : Int)] (.int .u64 (v3 : Int)) := by
  intro w hw
  go_enter Try.func29, Try.ntmps29
  go_wp2
  go_ret
  exact ⟨rfl, rfl⟩
theorem r64_walk (W : World) (u v1 v2 v3 v4 : Nat) (h1 : bits .or .u64 (bits .and .u64 ((u : Int) / 2) 6148914691236517205) (IntKind.u64.wrap (bits .and .u64 (u : Int) 6148914691236517205 * 2)) = (v1 : Int))
    (h2 : bits .or .u64 (bits .and .u64 ((v1 : Int) / 4) 3689348814741910323) (IntKind.u64.wrap (bits .and .u64 (v1 : Int) 3689348814741910323 * 4)) = (v2 : Int))
    (h4 : bits .or .u64 (bits .and .u64 ((v2 : Int) / 16) 1085102592571150095) (IntKind.u64.wrap (bits .and .u64 (v2 : Int) 1085102592571150095 * 16)) = (v3 : Int))
    (hb : AnsQ W 29 #[.int .u64 (v3 : Int)] (.int .u64 (v4 : Int))) :
    AnsQ W 27 #[.int .u64 (u : Int)] (.int .u64 (v4 : Int)) := by
  intro w hw
  go_enter Try.func27, Try.ntmps27
  go_wp2_with (go_at_call 29; with_reducible refine AnsQ.use hb hw ?_)
  go_ret
  exact ⟨rfl, rfl⟩
theorem r64_any (W : World) (u : Nat) (hu : u < 18446744073709551616) : AnsQ W 27 #[.int .u64 (u : Int)] (.int .u64 (tn (two 64) u : Int)) := by
  have l1 := (stp_lt (x := u) mask1 (by omega)).1
  have l2 := (stp_lt (x := stp 1 m1 u) mask2 (by omega)).1
  have l4 := (stp_lt (x := stp 2 m2 (stp 1 m1 u)) mask4 (by omega)).1
  have l8 := (stp_lt (x := stp 4 m4 (stp 2 m2 (stp 1 m1 u))) mask8 (by omega)).1
  have l16 := (stp_lt (x := stp 8 m8 (stp 4 m4 (stp 2 m2 (stp 1 m1 u)))) mask16 (by omega)).1
  refine r64_walk W u _ _ _ _ (st1 u hu) (st2 _ l1) (st4 _ l2) ?_
  rw [← rev_masks u hu]
  exact rb_any W _ _ _ _ (st8 _ l4) (st16 _ l8) (half_int _ l16)

/-! ### Bits -/
/-- A number's 64 bits. -/
def u64 (z : Int) : Nat := (z % 18446744073709551616).toNat
theorem u64_lt (z : Int) : u64 z < 18446744073709551616 := by unfold u64; omega
theorem u64_int (z : Int) : (u64 z : Int) = z % 18446744073709551616 := by unfold u64; omega
theorem u64_wrap (z : Int) : IntKind.u64.wrap z = (u64 z : Int) := by rw [IntKind.wrap_u64, u64_int]
def bt (k z : Int) : Int := if 1 ≤ k ∧ k ≤ 62 then (tn (two k.toNat) (u64 z) : Int) else 0
theorem bits_no (W : World) (i k : Int) (h : k < 1 ∨ 62 < k) : AnsQ W 19 #[.int .i64 i, .int .i64 k] (.int .i64 0) := by
  intro w hw
  by_cases h1 : k < 1
  · clear h
    go_enter Try.func19, Try.ntmps19
    go_wp2
    go_ret
    exact ⟨rfl, rfl⟩
  · have h2 : 62 < k := by omega
    have h3 : decide (62 < k) = true := by simpa using h2
    clear h
    go_enter Try.func19, Try.ntmps19
    go_wp2
    go_ret
    exact ⟨rfl, rfl⟩
theorem bits_yes (W : World) (i : Int) (k : Nat) (h1 : 1 ≤ k) (h2 : k ≤ 62) : AnsQ W 19 #[.int .i64 i, .int .i64 (k : Int)] (.int .i64 (tn (two k) (u64 i) : Int)) := by
  intro w hw
  have HR := r64_any W (u64 i) (u64_lt i)
  have hu := u64_wrap i
  have hc := two_cut 64 k (u64 i) (by omega)
  have hl : tn (two k) (u64 i) < 9223372036854775808 := Nat.lt_of_lt_of_le (two_lt k _) (show 2 ^ k ≤ 2 ^ 63 from Nat.pow_le_pow_right (by omega) (by omega))
  obtain ⟨s, hs⟩ : ∃ s, 64 - k = s := ⟨_, rfl⟩
  rw [hs] at hc
  generalize tn (two k) (u64 i) = y at hc hl ⊢
  generalize tn (two 64) (u64 i) = x at hc HR
  generalize u64 i = u at hu HR
  have g1 : ¬ (k : Int) < 1 := by omega
  have g2 : ¬ (62 : Int) < (k : Int) := by omega
  have e1 : (64 : Int) - (k : Int) = (s : Int) := by omega
  have e2 : wrap64 (s : Int) = (s : Int) := by unfold wrap64; omega
  have e3 : (x : Int) / 2 ^ s = (y : Int) := by rw [← hc]; simp
  have e4 : wrap64 (y : Int) = (y : Int) := by unfold wrap64; omega
  have hs1 : (s : Int) ≤ 63 := by omega
  clear hc hl hs h1 h2
  go_enter Try.func19, Try.ntmps19
  go_wp2_with (go_at_call 27; with_reducible refine AnsQ.use HR hw ?_)
  go_ret
  exact ⟨(show Ending.returned (.int .i64 (wrap64 (y : Int))) = _ by rw [e4]), rfl⟩
/-! ### The document's Bits -/
theorem rbits_no (W : World) (i k : Int) (h : k < 1 ∨ 62 < k) : AnsQ W 20 #[.int .i64 i, .int .i64 k] (.int .i64 0) := by
  intro w hw
  by_cases h1 : k < 1
  · clear h
    go_enter Try.func20, Try.ntmps20
    go_wp2
    go_ret
    exact ⟨rfl, rfl⟩
  · have h2 : 62 < k := by omega
    have h3 : decide (62 < k) = true := by simpa using h2
    clear h
    go_enter Try.func20, Try.ntmps20
    go_wp2
    go_ret
    exact ⟨rfl, rfl⟩
theorem half_pow (u n : Nat) : u / 2 ^ (n + 1) = u / 2 ^ n / 2 := by rw [Nat.pow_succ, Nat.div_div_eq_div_mul]
theorem wr62 {x : Nat} (h : x < 4611686018427387904) : wrap64 (2 * (x : Int)) = ((x * 2 : Nat) : Int) ∧ wrap64 (((x * 2 : Nat) : Int) + 1) = ((x * 2 + 1 : Nat) : Int) := by
  constructor
  · unfold wrap64; omega
  · unfold wrap64; omega
theorem two_small {n u : Nat} (h : n < 62) : tn (two n) u < 4611686018427387904 := Nat.lt_of_lt_of_le (two_lt n u) (show 2 ^ n ≤ 2 ^ 62 from Nat.pow_le_pow_right (by omega) (by omega))
set_option maxHeartbeats 1000000 in
theorem rbits_yes (W : World) (i : Int) (k : Nat) (h1 : 1 ≤ k) (h2 : k ≤ 62) : AnsQ W 20 #[.int .i64 i, .int .i64 (k : Int)] (.int .i64 (tn (two k) (u64 i) : Int)) := by
  intro w hw
  have hu := u64_wrap i
  have hul := u64_lt i
  generalize u64 i = u at hu hul ⊢
  have g1 : ¬ (k : Int) < 1 := by omega
  have g2 : ¬ (62 : Int) < (k : Int) := by omega
  have hlen : (k : Int) ≤ 9223372036854775807 := by omega
  have HK : Hid (k ≤ 62) := h2
  have HU : Hid (u < 18446744073709551616) := hul
  obtain ⟨t, ht⟩ : ∃ t, tn (two k) u = t := ⟨_, rfl⟩
  have HT : Hid (tn (two k) u = t) := ht
  rw [ht]
  clear h1 h2 ht hul
  go_enter Try.func20, Try.ntmps20
  go_wp2
  go_loopw [5, 6, 7] (fun x y v wr => ∃ q a n : Nat, x = .int .u64 (q : Int) ∧ y = .int .i64 (a : Int) ∧ v = .int .i64 (n : Int) ∧ n ≤ k ∧ Hid (q = u / 2 ^ n) ∧ Hid (a = tn (two n) u) ∧ wr = w) (fun _ _ v _ => k - (intOf v).toNat)
  case atStart => exact ⟨u, 0, 0, rfl, rfl, rfl, by omega, by unfold Hid; simp, by unfold Hid; rfl, rfl⟩
  case round =>
    clear hu
    obtain ⟨q, a, n, rfl, rfl, rfl, hn, HQ, HA, rfl⟩ := hrel
    by_cases hlt : n < k
    · have hsm := two_small (n := n) (u := u) (by have := HK.out; omega)
      have hla := two_last n u
      have hhp := half_pow u n
      rw [← HA.out] at hsm hla
      rw [← HQ.out] at hla hhp
      have hq : q < 18446744073709551616 := by rw [HQ.out]; exact Nat.lt_of_le_of_lt (Nat.div_le_self _ _) HU.out
      obtain ⟨w1, w2⟩ := wr62 hsm
      obtain ⟨c, hc⟩ : ∃ c, a * 2 = c := ⟨_, rfl⟩
      rw [hc] at w1 w2 hla
      have HQ' : Hid (q / 2 = u / 2 ^ (n + 1)) := hhp.symm
      have w3 : Int.tdiv (q : Int) 2 = ((q / 2 : Nat) : Int) := rfl
      have w4 : IntKind.u64.wrap ((q / 2 : Nat) : Int) = ((q / 2 : Nat) : Int) := by rw [IntKind.wrap_u64]; omega
      obtain ⟨d, hd⟩ : ∃ d, q / 2 = d := ⟨_, rfl⟩
      rw [hd] at HQ' w3 w4
      by_cases hb : q % 2 = 1
      · have HA' : Hid (c + 1 = tn (two (n + 1)) u) := by unfold Hid; rw [hla, hb]
        have t1 : Int.tmod (q : Int) 2 = 1 := by have : Int.tmod (q : Int) 2 = ((q % 2 : Nat) : Int) := rfl; rw [this, hb]; rfl
        clear hb hq hd hc hla hhp hsm HQ HA
        go_wp2
        go_roundw
        case rel => exact ⟨d, c + 1, n + 1, by first | rfl | (rw [w4]), by first | rfl | (rw [w2]), by go_num, by omega, HQ', HA', by first | rfl | trivial⟩
        case measure => simp [intOf]; omega
      · have hb0 : q % 2 = 0 := by omega
        have HA' : Hid (c = tn (two (n + 1)) u) := by unfold Hid; rw [hla, hb0]; rfl
        have t1 : Int.tmod (q : Int) 2 = 0 := by have : Int.tmod (q : Int) 2 = ((q % 2 : Nat) : Int) := rfl; rw [this, hb0]; rfl
        clear hb hb0 hq hd hc hla hhp hsm HQ HA w2
        go_wp2
        go_roundw
        case rel => exact ⟨d, c, n + 1, by first | rfl | (rw [w4]), by first | rfl | (rw [w1]), by go_num, by omega, HQ', HA', by first | rfl | trivial⟩
        case measure => simp [intOf]; omega
    · obtain rfl : n = k := by omega
      have HE : Hid (a = t) := by unfold Hid; rw [HA.out, HT.out]
      clear HQ HA
      go_wp2
      go_ret
      exact ⟨congrArg (fun n : Nat => Ending.returned (.int .i64 (n : Int))) HE.out, rfl⟩
theorem bits_any (W : World) (i k : Int) : AnsQ W 19 #[.int .i64 i, .int .i64 k] (.int .i64 (bt k i)) := by
  unfold bt
  by_cases h : 1 ≤ k ∧ k ≤ 62
  · rw [if_pos h]
    obtain ⟨n, rfl⟩ := Int.eq_ofNat_of_zero_le (show 0 ≤ k by omega)
    rw [Int.toNat_natCast]
    exact bits_yes W i n (by omega) (by omega)
  · rw [if_neg h]
    exact bits_no W i k (by omega)
theorem rbits_any (W : World) (i k : Int) : AnsQ W 20 #[.int .i64 i, .int .i64 k] (.int .i64 (bt k i)) := by
  unfold bt
  by_cases h : 1 ≤ k ∧ k ≤ 62
  · rw [if_pos h]
    obtain ⟨n, rfl⟩ := Int.eq_ofNat_of_zero_le (show 0 ≤ k by omega)
    rw [Int.toNat_natCast]
    exact rbits_yes W i n (by omega) (by omega)
  · rw [if_neg h]
    exact rbits_no W i k (by omega)
end Go.Proofs.Ytgmjbagomfegeaa

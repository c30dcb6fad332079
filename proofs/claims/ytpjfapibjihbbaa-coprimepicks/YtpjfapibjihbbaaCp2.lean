/-
  What coprime.In answers: the numbers of a table's places. No condition.
-/
import Derived.Test.YtpjfapibjihbbaaCp1
import Derived.Test.YtpjfapibjihbbaaZi
namespace Go.Proofs.Ytpjfapibjihbbaa
set_option linter.unusedVariables false
open Go.RowKit

theorem ints_len (ds : List Nat) : (ints ds).length = ds.length := by simp [ints]
theorem ZAt.nat {w : World} {A : Option Addr} {C : Nat} {ds : List Nat} (h : ZAt w A C (ints ds)) {i d : Nat} (hd : ds[i]? = some d) : ∃ b o, A = some ⟨b, o, none⟩ ∧ b < w.heap.size ∧ w.cell? ⟨b, o + i, none⟩ = some (.int .i64 (d : Int)) := by
  obtain ⟨b, o, h1, h2, h3, _⟩ := h.get i (Int.ofNat d) (by simp [ints, hd])
  exact ⟨b, o, h1, h2, h3⟩
theorem zcells_ints (l : List Nat) (x : Nat) : zcells (ints (l ++ [x])) = zcells (ints l) ++ [.int .i64 (x : Int)] := by rw [← zcells_snoc]; simp [ints]
theorem cp_take {l : List Nat} {k x : Nat} (h : l[k]? = some x) : l.take (k + 1) = l.take k ++ [x] := by rw [List.take_add_one, h]; rfl
theorem inL_snoc {a b k : Nat} (h : k < a * b) : (inL a b).take (k + 1) = (inL a b).take k ++ [inS a b k] := cp_take (inL_get h)
theorem inL_lt {a b : Nat} (hT : Tab a b) : ∀ z ∈ ints (inL a b), I64 z := fun z hz => by
  obtain ⟨r, hr, rfl⟩ := List.mem_map.1 hz
  obtain ⟨k, _, rfl⟩ := List.mem_map.1 hr
  have := inS_lt (a := a) (b := b) (by have := hT.a2; omega) (by have := hT.b2; omega) k
  have := hT.max
  exact i64_small (by omega)
theorem in_no (W : World) (a b : Int) (h : tabQ a b = false) : AnsB W 8 #[.int .i64 a, .int .i64 b] (.slice none 0 0) := by
  intro w hw
  have HI := ctab_any a b
  rw [h] at HI
  go_enter Try.func8, Try.ntmps8
  go_wp2_with (go_at_call 13; with_reducible refine Ans.use HI _ fun n2 => ?_)
  go_ret
  exact ⟨rfl, below_drewN _ _⟩
theorem wrSum {x y : Nat} (hx : x ≤ 1024) (hy : y ≤ 1024) : wrap64 ((x : Int) + (y : Int)) = (x : Int) + (y : Int) := by unfold wrap64; omega
theorem sumM {x y n z : Nat} (h : (x + y) % n = z) : Int.tmod ((x : Int) + (y : Int)) (n : Int) = (z : Int) := by rw [← h]; rfl

set_option maxRecDepth 100000 in
set_option maxHeartbeats 2000000 in
/-- In, of a table. -/
theorem in_yes (W : World) {a b : Nat} (hT : Tab a b) : NewRow W 8 #[.int .i64 (a : Int), .int .i64 (b : Int)] (ints (inL a b)) := by
  intro w hw
  obtain ⟨ii, hii, hzi, hsi, hbi⟩ := info_parts infoZ
  have HI := ctab_any a b
  rw [hT.q] at HI
  obtain ⟨hal, hbl⟩ := hT.le
  have HT : Hid (Tab a b) := hT
  have hT2 := hT.max
  have ha2 := hT.a2
  have hb2 := hT.b2
  obtain ⟨n, hn⟩ : ∃ n, a * b = n := ⟨_, rfl⟩
  have hm := mulW hn (by omega)
  have hn1 : n ≤ 1024 := by omega
  have hn0 : ¬ (n : Int) = 0 := by
    have := Nat.mul_le_mul ha2 hb2
    omega
  have HN : Hid (a * b = n) := hn
  clear hT hT2 hn hw
  go_enter Try.func8, Try.ntmps8
  go_wp2_with (first
    | (go_at_call 13; with_reducible refine Ans.use HI _ fun n2 => ?_)
    | (at_make; refine Hid.out ?_))
  unfold Hid
  refine wpList_make_own _ rfl _ _ 24 rfl w.heap.size 3 ii _ 1 Try.underlying24 hii hzi hsi .i64 .i64 _ n rfl rfl hm (by rw [hbi]; omega) (by unfold maxLen; omega) (Nat.le_refl _) ?_
  intro w1 hR hG1
  have hB1 : Below w.heap.size w w1 := (below_drewN w n2).grown hG1 (Nat.le_refl _) (fun k ek => by cases ek)
  have HR1 : Hid (w1.ownsRow w.heap.size 3 1 (.slice (some ⟨w.heap.size, 0, none⟩) 0 n) 0 (zcells (ints ((inL a b).take 0)))) := hR
  clear hR hG1 HI
  go_wp2
  go_loopw [5, 17] (fun out v wr => ∃ (i L : Nat), v = .int .i64 (i : Int) ∧ i ≤ a ∧ Hid (L = i * b) ∧ Hid (wr.ownsRow w.heap.size 3 1 out L (zcells (ints ((inL a b).take L)))) ∧ Below w.heap.size w wr) (fun _ v _ => a - (intOf v).toNat)
  case atStart => exact ⟨0, 0, rfl, by omega, (Nat.zero_mul b).symm, HR1, hB1⟩
  case round =>
    clear HR1 hB1
    rename_i out _
    obtain ⟨i, L, rfl, hi, HL, HO, hB⟩ := hrel
    by_cases hlt : i < a
    · obtain ⟨x, hx⟩ : ∃ x, b * i = x := ⟨_, rfl⟩
      have hxm := mulW hx (by have := Nat.mul_le_mul_left b (Nat.le_of_lt hlt); rw [Nat.mul_comm b a, HN.out] at this; omega)
      have hxl : x ≤ 1024 := by have := Nat.mul_le_mul_left b (Nat.le_of_lt hlt); rw [Nat.mul_comm b a, HN.out] at this; omega
      have HX : Hid (b * i = x) := hx
      clear hx
      go_wp2
      go_loopw [5, 21] (fun out v wi => ∃ (j K : Nat), v = .int .i64 (j : Int) ∧ j ≤ b ∧ Hid (K = i * b + j) ∧ Hid (wi.ownsRow w.heap.size 3 1 out K (zcells (ints ((inL a b).take K)))) ∧ Below w.heap.size w wi) (fun _ v _ => b - (intOf v).toNat)
      case atStart => exact ⟨0, L, rfl, by omega, HL, HO, hB⟩
      case round =>
        clear HL HO hB
        rename_i out _
        obtain ⟨j, K, rfl, hj, HK, HO, hB⟩ := hrel
        by_cases hlj : j < b
        · have hK : K < n := by rw [HK.out, ← HN.out]; exact place_lt hlt hlj
          obtain ⟨y, hy⟩ : ∃ y, a * j = y := ⟨_, rfl⟩
          have hyl : y ≤ 1024 := by have := Nat.mul_le_mul_left a (Nat.le_of_lt hlj); rw [HN.out] at this; omega
          have hym := mulW hy (by omega)
          obtain ⟨z, hz⟩ : ∃ z, (x + y) % n = z := ⟨_, rfl⟩
          have hzm := sumM hz
          have hzn : z < n := by rw [← hz]; exact Nat.mod_lt _ (by omega)
          have HZ : Hid (zcells (ints ((inL a b).take (K + 1))) = zcells (ints ((inL a b).take K)) ++ [.int .i64 (z : Int)]) := by
            unfold Hid
            rw [inL_snoc (by rw [HN.out]; exact hK), zcells_ints]
            have : inS a b K = z := by rw [HK.out, inS_at hlj, HX.out, hy, HN.out, hz]
            rw [this]
          have HK2 : Hid (K + 1 = i * b + (j + 1)) := by unfold Hid; rw [HK.out]; omega
          have hO2 := World.ownsRow.alloc HO.out (.cells #[.int .i64 (z : Int)] 3)
          have hnews := one_new wr (.int .i64 (z : Int)) 3
          have hBa : Below w.heap.size w (wr.alloc (.cells #[.int .i64 (z : Int)] 3)) := bb hB (below_alloc _ _)
          have hzw : wrap64 (z : Int) = (z : Int) := wrN (by omega)
          have HKN : Hid (K < n ∧ n ≤ 1024) := ⟨hK, hn1⟩
          have hm0 : ¬ wrap64 ((a : Int) * (b : Int)) = 0 := by rw [hm]; exact hn0
          have hraw : Int.tmod (wrap64 (wrap64 ((b : Int) * (i : Int)) + wrap64 ((a : Int) * (j : Int)))) (wrap64 ((a : Int) * (b : Int))) = (z : Int) := by
            rw [hxm, hym, hm, wrSum hxl hyl]; exact hzm
          clear hy hz HO hB hxm hym hm
          go_wp2_with (at_builtin; refine Hid.out ?_)
          unfold Hid
          refine (wpList_append_own _ rfl _ _ 24 rfl w.heap.size 3 ii _ 1 8 Try.underlying24 hii hzi hsi hbi rfl (by omega) _ K _ rfl hO2 ⟨wr.heap.size, 0, none⟩ 1 1 [.int .i64 (z : Int)] rfl rfl hnews (by simp [Value.oneCell']) (by have := HKN.out; unfold maxLen; omega) (by have := HKN.out; omega) hBa.size ?_)
          intro v' w5 hO3 hG _
          have HO3 : Hid (w5.ownsRow w.heap.size 3 1 v' (K + 1) (zcells (ints ((inL a b).take (K + 1))))) := by unfold Hid; rw [HZ.out]; exact hO3
          have hB5 : Below w.heap.size w w5 := hBa.grown hG hBa.size (fun k hk => (hO2.lt k hk).1)
          clear hO3 hG hO2 hBa hnews HZ
          go_wp2
          go_roundw
          case rel => exact ⟨j + 1, K + 1, by go_num, by omega, HK2, HO3, hB5⟩
          case measure => simp [intOf]; omega
        · obtain rfl : j = b := by omega
          have HL2 : Hid (K = (i + 1) * j) := by unfold Hid; rw [HK.out, Nat.add_mul, Nat.one_mul]
          go_wp2
          go_roundw
          case rel => exact ⟨i + 1, K, by go_num, by omega, HL2, HO, hB⟩
          case measure => simp [intOf]; omega
    · obtain rfl : i = a := by omega
      have hLn : L = n := by rw [HL.out, HN.out]
      subst hLn
      have hO4 := HO.out
      rw [List.take_of_length_le (by rw [inL_len, HN.out]; exact Nat.le_refl _)] at hO4
      have hil : (ints (inL i b)).length = L := by rw [ints_len, inL_len]; exact HN.out
      obtain ⟨A1, C1, hv, hz⟩ := own_ints (zs := ints (inL i b)) (by rw [hil]; exact hO4) (inL_lt HT.out)
      subst hv
      have HZ1 : Hid (ZAt wr A1 C1 (ints (inL i b))) := hz
      clear HO hO4 hz
      go_wp2
      go_ret
      exact ⟨A1, C1, rfl, HZ1.out, hB⟩
end Go.Proofs.Ytpjfapibjihbbaa

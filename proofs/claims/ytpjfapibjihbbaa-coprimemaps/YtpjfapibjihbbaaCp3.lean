/-
  What coprime's count and Out answer: a map of the places of a table by their pairs; the places of numbers. No condition.
-/
import Derived.Test.YtpjfapibjihbbaaCp2
import Derived.Maps.OwnOps
import Derived.WideKeyPair
namespace Go.Proofs.Ytpjfapibjihbbaa
set_option linter.unusedVariables false
open Go.RowKit Go.Maps Go.WideMaps

theorem pairArr : ArrKey Try.prog 35 3 2 := ⟨Try.underlying35, by kernel_rfl, by kernel_rfl, by kernel_rfl⟩
theorem pairKeyed : Keyed Try.prog 35 := Keyed.of_law pairArr.law
theorem typesPos : ∃ m, Try.prog.types.size = m + 1 := ⟨Try.prog.types.size - 1, by have : 0 < Try.prog.types.size := of_decide_eq_true (by kernel_rfl); omega⟩
theorem wf_sm {x : Nat} (h : x ≤ 16777216) : (Lit.int .i64 ((x : Nat) : Int)).wf = true := by
  simp [Lit.wf, IntKind.min, IntKind.max, IntKind.signed, IntKind.bits]; omega
/-- A place, as a key. -/
def keyP (i j : Nat) : Lit := .string (keyBytes [.int .i64 (i : Int), .int .i64 (j : Int)])
theorem keyOf_P {i j : Nat} (hi : i ≤ 1024) (hj : j ≤ 1024) : keyOf Try.prog 35 (.agg #[.int .i64 (i : Int), .int .i64 (j : Int)]) = some (keyP i j) :=
  keyOf_pair pairArr Try.underlying3 typesPos (wf_sm (by omega)) (wf_sm (by omega))
theorem keyP_inj {i j k l : Nat} (hi : i ≤ 1024) (hj : j ≤ 1024) (hk : k ≤ 1024) (hl : l ≤ 1024) (h : keyP i j = keyP k l) : i = k ∧ j = l := by
  have := pairKeyed.inj (keyOf_P hi hj) (h ▸ keyOf_P hk hl)
  simp only [Value.agg.injEq, Array.mk.injEq, List.cons.injEq, Value.int.injEq, true_and, and_true] at this
  omega
/-- A map of the first K places of a table of b columns lies there. -/
def PMap (w : World) (g n b K : Nat) : Prop := ∃ D : DataW Unit, w.ownsMap Try.prog 35 (plainElem Try.prog 3) g n D ∧
  ∀ i j : Nat, i ≤ 1024 → j < b → j ≤ 1024 → D.atKey (keyP i j) (.lit (.int .i64 0)) = .lit (.int .i64 (((if i * b + j < K then i * b + j else 0 : Nat)) : Int))
theorem pmap_new (w : World) (b : Nat) : PMap (w.alloc (.map #[] 0)) w.heap.size 0 b 0 := ⟨.map [], World.ownsMap_made w _ _ _, fun i j _ _ _ => rfl⟩
theorem PMap.below {w w' : World} {g n b K : Nat} (h : PMap w g n b K) (hb : Below w.heap.size w w') : PMap w' g n b K := by
  obtain ⟨D, hown, h5⟩ := h
  have hlt := hown.lt
  obtain ⟨es, clock, h1, h2, h3, h4⟩ := hown
  exact ⟨D, ⟨es, clock, (hb.block g hlt).trans h1, h2, h3, h4⟩, h5⟩
theorem PMap.kept {w w' : World} {row : Option Nat} {g n b K : Nat} (h : PMap w g n b K) (hg : w.grownBy w' row) (hne : some g ≠ row) : PMap w' g n b K := by
  obtain ⟨D, hown, h5⟩ := h
  exact ⟨D, hown.kept hg hne, h5⟩
theorem place_inj {b i j k l : Nat} (hj : j < b) (hl : l < b) (h : i * b + j = k * b + l) : i = k ∧ j = l := by
  have e1 := congrArg (· / b) h
  have e2 := congrArg (· % b) h
  rw [Nat.add_comm (i * b), Nat.add_comm (k * b), Nat.add_mul_div_right _ _ (by omega), Nat.add_mul_div_right _ _ (by omega), Nat.div_eq_of_lt hj, Nat.div_eq_of_lt hl] at e1
  rw [Nat.add_comm (i * b), Nat.add_comm (k * b), Nat.add_mul_mod_self_right, Nat.add_mul_mod_self_right, Nat.mod_eq_of_lt hj, Nat.mod_eq_of_lt hl] at e2
  omega
theorem pmap_put {w' : World} {g n b K i j : Nat} {D : DataW Unit} {d : DataW Unit} (hD : IsMap D) (ha : ∀ i j : Nat, i ≤ 1024 → j < b → j ≤ 1024 → D.atKey (keyP i j) (.lit (.int .i64 0)) = .lit (.int .i64 (((if i * b + j < K then i * b + j else 0 : Nat)) : Int)))
    (hi : i ≤ 1024) (hj : j < b) (hj2 : j ≤ 1024) (hK : i * b + j = K) (hd : d = .lit (.int .i64 (K : Int)))
    (h : w'.ownsMap Try.prog 35 (plainElem Try.prog 3) g n (D.put (keyP i j) d)) : PMap w' g n b (K + 1) := by
  refine ⟨_, h, fun k l hk hl hl2 => ?_⟩
  subst hd
  by_cases e : k = i ∧ l = j
  · obtain ⟨rfl, rfl⟩ := e
    rw [atKey_put_same hD (show WideAt.IsKeyLit (keyP k l) from trivial), if_pos (by omega), hK]
  · have hne : k * b + l ≠ K := fun e' => e (place_inj hl hj (e'.trans hK.symm))
    rw [atKey_put_other (fun e' => e (keyP_inj hk hl2 hi hj2 e')), ha k l hk hl hl2]
    by_cases h2 : k * b + l < K
    · rw [if_pos h2, if_pos (by omega)]
    · rw [if_neg h2, if_neg (by omega)]
theorem run_makeHint {P : Program} {t k e : TypeId} (ht : P.underlying t = some (.map k e)) (z : Int) (w : World) : (Instr.makeMap t (some (.int .i64 z))).run P w = .ok (.map (some w.heap.size)) (w.alloc (.map #[] 0)) := by
  simp [Instr.makeMap, run_underlying ht, Result.andThen]
  rfl

set_option maxHeartbeats 2000000 in
set_option maxRecDepth 100000 in
/-- count. -/
theorem count_any {a b : Nat} (hT : Tab a b) (w : World) :
    Calls Try.prog 14 #[.int .i64 (a : Int), .int .i64 (b : Int)] w fun e w' => e = .returned (.map (some w.heap.size)) ∧ PMap w' w.heap.size 1025 b (a * b) ∧ Below w.heap.size w w' := by
  have hmm := fun z w => run_makeHint (P := Try.prog) Try.underlying32 z w
  obtain ⟨hal, hbl⟩ := hT.le
  have hmax := hT.max
  have HN : Hid (a * b ≤ 1024) := hmax
  clear hT hmax
  go_enter Try.func14, Try.ntmps14
  go_wp2
  clear hmm
  go_loopw [13] (fun v wr => ∃ (i L : Nat), v = .int .i64 (i : Int) ∧ i ≤ a ∧ Hid (L = i * b) ∧ L ≤ 1024 ∧ Hid (PMap wr w.heap.size L b L) ∧ Below w.heap.size w wr) (fun v _ => a - (intOf v).toNat)
  case atStart => exact ⟨0, 0, rfl, by omega, (Nat.zero_mul b).symm, by omega, pmap_new w b, below_alloc _ _⟩
  case round =>
    obtain ⟨i, L, rfl, hi, HL, hL2, HO, hB⟩ := hrel
    by_cases hlt : i < a
    · obtain ⟨x, hx⟩ : ∃ x, i * b = x := ⟨_, rfl⟩
      have hxl : x ≤ 1024 := by have := Nat.mul_le_mul_right b (Nat.le_of_lt hlt); have := HN.out; omega
      have hxm := mulW hx (by omega)
      have HX : Hid (i * b = x) := hx
      clear hx
      go_wp2
      go_loopw [17] (fun v wi => ∃ (j K : Nat), v = .int .i64 (j : Int) ∧ j ≤ b ∧ Hid (K = i * b + j) ∧ K ≤ 1024 ∧ Hid (PMap wi w.heap.size K b K) ∧ Below w.heap.size w wi) (fun v _ => b - (intOf v).toNat)
      case atStart => exact ⟨0, L, rfl, by omega, HL, hL2, HO, hB⟩
      case round =>
        clear HL HO hB hL2
        obtain ⟨j, K, rfl, hj, HK, hK2, HO, hB⟩ := hrel
        by_cases hlj : j < b
        · have hK : K < 1024 := by
            have h1 := place_lt hlt hlj
            have h2 := HN.out
            have h3 := HK.out
            omega
          have HK2 : Hid (K + 1 = i * b + (j + 1)) := by unfold Hid; rw [HK.out]; omega
          have HKi : Hid (i * b + j = K) := HK.out.symm
          have hraw : wrap64 (wrap64 ((i : Int) * (b : Int)) + (j : Int)) = (K : Int) := by
            rw [hxm, wrSum hxl (by omega), HK.out, HX.out]; rfl
          have HRW : Hid (wrap64 (wrap64 ((i : Int) * (b : Int)) + (j : Int)) = (K : Int)) := hraw
          have HWF : Hid ((Lit.int .i64 (wrap64 (wrap64 ((i : Int) * (b : Int)) + (j : Int)))).wf = true) := by unfold Hid; rw [hraw]; exact wf_sm (by omega)
          obtain ⟨D, hown, ha⟩ := HO.out
          have HA : Hid (∀ i j : Nat, i ≤ 1024 → j < b → j ≤ 1024 → D.atKey (keyP i j) (.lit (.int .i64 0)) = .lit (.int .i64 (((if i * b + j < K then i * b + j else 0 : Nat)) : Int))) := ha
          have HKQ : Hid (keyOf Try.prog 35 (.agg #[.int .i64 (i : Int), .int .i64 (j : Int)]) = some (keyP i j)) := keyOf_P (by omega) (by omega)
          have HNM : Hid (K < maxLen) := by unfold Hid maxLen; omega
          clear ha HO hraw hxm
          go_wp2_with (at_mapUpdate; refine wpList_mapUpdate_own _ rfl _ _ _ 32 rfl 35 3 pairKeyed Try.underlying32 _ w.heap.size K _ rfl hown HNM.out _ _ _ rfl rfl HKQ.out _ [] (plainElem_int Try.underlying3 HWF.out) ?_; intro w1 hown1 hgrow1)
          have HM2 : Hid (PMap w1 w.heap.size (K + 1) b (K + 1)) := pmap_put hown.isMap HA.out (by omega) hlj (by omega) HKi.out (by rw [HRW.out]) hown1
          have hB1 : Below w.heap.size w w1 := hB.grown hgrow1 hB.size (fun k hk => by cases hk; exact Nat.le_refl _)
          clear hown1 hgrow1 hown
          go_wp2
          go_roundw
          case rel => exact ⟨j + 1, K + 1, by go_num, by omega, HK2, by omega, HM2, hB1⟩
          case measure => simp [intOf]; omega
        · obtain rfl : j = b := by omega
          have HL2 : Hid (K = (i + 1) * j) := by unfold Hid; rw [HK.out, Nat.add_mul, Nat.one_mul]
          go_wp2
          go_roundw
          case rel => exact ⟨i + 1, K, by go_num, by omega, HL2, hK2, HO, hB⟩
          case measure => simp [intOf]; omega
    · obtain rfl : i = a := by omega
      have HO4 : Hid (PMap wr w.heap.size 1025 b (i * b)) := by
        obtain ⟨D, h1, h2⟩ := HO.out
        exact ⟨D, h1.mono (by omega), by rw [HL.out] at h2; exact h2⟩
      clear HO
      go_wp2
      go_ret
      exact ⟨rfl, HO4.out, hB⟩
end Go.Proofs.Ytpjfapibjihbbaa

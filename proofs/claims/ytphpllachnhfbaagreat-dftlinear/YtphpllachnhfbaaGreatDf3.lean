/-
  What the document's Sum and Run of layer 11 answer. No condition but that the lists lie there.
-/
import Derived.Test.YtphpllachnhfbaaGreatDf2
namespace Go.Proofs.YtphpllachnhfbaaGreat
set_option linter.unusedVariables false
open Go.RowKit

set_option maxHeartbeats 2000000 in
theorem dsum_walk (W : World) (p n : Nat) (A : Option Addr) (C : Nat) (xs : List Nat) (B : Option Addr) (D : Nat) (ts : List Nat) (y : Nat → Nat) (hX : UAt W A C xs) (hT : UAt W B D ts) (hx : xs.length = n) (hl : ts.length = n) (h1 : 1 ≤ n) (hn : n ≤ 4096) (i : Nat) (hi : i < n) (hp : 1 ≤ p) (hp2 : p < 9223372036854775808)
    (hy : ∀ m t : Nat, ts[m]? = some t → t = y m) : AnsW W 34 #[.int .u64 (p : Int), .slice B n D, .slice A n C, .int .i64 (i : Int)] (.int .u64 ((sN (fun j => atL xs j * y (i * j % n)) n % p : Nat) : Int)) := by
  intro j0
  have HX : Hid (UAt W A C xs) := hX
  have HT : Hid (UAt W B D ts) := hT
  have HXL : Hid (xs.length = n) := hx
  have HLL : Hid (ts.length = n) := hl
  have HI : Hid (1 ≤ n ∧ n ≤ 4096 ∧ i < n ∧ 1 ≤ p ∧ p < 9223372036854775808) := ⟨h1, hn, hi, hp, hp2⟩
  have HY : Hid (∀ m t : Nat, ts[m]? = some t → t = y m) := hy
  obtain ⟨f, hf⟩ : ∃ f : Nat → Nat, (fun j => atL xs j * y (i * j % n)) = f := ⟨_, rfl⟩
  have HF : Hid (∀ j, atL xs j * y (i * j % n) = f j) := fun j => congrFun hf j
  rw [hf]
  have h0p : 0 < p := by omega
  have hlenn : (n : Int) ≤ 9223372036854775807 := by omega
  have hn0 : ¬ (n : Int) = 0 := by omega
  clear hX hT hx hl h1 hn hi hp hp2 hy hf
  go_enter Tryz.func34, Tryz.ntmps34
  go_wp2
  go_loopw [9, 14] (fun s v wr => ∃ t k j : Nat, s = .int .u64 (t : Int) ∧ v = .int .i64 (k : Int) ∧ k ≤ n ∧ t < p ∧ Hid (t = sN f k % p) ∧ wr = W.drewN (j0 + j)) (fun _ v _ => n - (intOf v).toNat)
  case atStart => exact ⟨0, 0, 0, rfl, rfl, by omega, h0p, by unfold Hid; rw [sN, Nat.zero_mod], rfl⟩
  case round =>
    obtain ⟨t, k, j, rfl, rfl, hk, ht, HS, rfl⟩ := hrel
    by_cases hlt : k < n
    · obtain ⟨h1, hn, hi, hp, hp2⟩ := HI.out
      obtain ⟨m, hm⟩ : ∃ m, i * k % n = m := ⟨_, rfl⟩
      have hml : m < n := by rw [← hm]; exact Nat.mod_lt _ (by omega)
      have hik : i * k ≤ 16777216 := Nat.le_trans (Nat.mul_le_mul (Nat.le_of_lt hi) hk) (Nat.le_trans (Nat.mul_le_mul hn hn) (by decide))
      obtain ⟨c, hc⟩ : ∃ c, xs[k]? = some c := ⟨_, List.getElem?_eq_getElem (by rw [HXL.out]; exact hlt)⟩
      obtain ⟨l, hl⟩ : ∃ l, ts[m]? = some l := ⟨_, List.getElem?_eq_getElem (by rw [HLL.out]; exact hml)⟩
      obtain ⟨b, o, rfl, hb, c0, hcl⟩ := HX.out.get k c hc
      obtain ⟨b2, o2, rfl, hb2, d0, hll⟩ := HT.out.get m l hl
      have HQ := rmul_any c l p hcl hll (by omega) (by omega)
      obtain ⟨v, hv⟩ : ∃ v, c * l % p = v := ⟨_, rfl⟩
      have hvl : v < p := hv ▸ Nat.mod_lt _ (by omega)
      rw [hv] at HQ
      have HA := radd_any t v p (by omega) (by omega) (by omega) (by omega)
      obtain ⟨t2, ht2⟩ : ∃ t2, (t + v) % p = t2 := ⟨_, rfl⟩
      rw [ht2] at HA
      have ht2l : t2 < p := ht2 ▸ Nat.mod_lt _ (by omega)
      have HS2 : Hid (t2 = sN f (k + 1) % p) := by
        unfold Hid
        rw [← ht2, ← hv, HS.out, sN, ← Nat.add_mod, ← HF.out k, hm, atL_of hc, HY.out m l hl]
      obtain ⟨e, he⟩ : ∃ e, i * k = e := ⟨_, rfl⟩
      rw [he] at hm hik
      have r1 : wrap64 ((i : Int) * (k : Int)) = (e : Int) := by
        rw [← Int.natCast_mul, he]; exact wrN hik
      have r1' : IntKind.i64.wrap ((i : Int) * (k : Int)) = (e : Int) := by
        rw [← Int.natCast_mul, he]; exact wrI hik
      have r2 : Int.tmod (e : Int) (n : Int) = (m : Int) := by rw [← hm]; rfl
      have r2' : (e : Int) % (n : Int) = (m : Int) := by rw [← hm]; rfl
      have r3 : wrap64 (m : Int) = (m : Int) := wrL hml hn
      have r3' : IntKind.i64.wrap (m : Int) = (m : Int) := wrLI hml hn
      have q1 : (m : Int) < (n : Int) := ltI hml
      have q2 : (k : Int) < (n : Int) := ltI hlt
      clear hv hvl ht2 hm HS hc hl hcl hll hb hb2 h1 hn hi hp hp2 hml he hik
      go_wp2_with (first
        | (go_at_call 20; with_reducible refine Ans.use HQ _ fun n1 => ?_)
        | (go_at_call 22; with_reducible refine Ans.use HA _ fun n2 => ?_))
      clear r1 r1' r2 r2' r3 r3' q1
      go_roundw
      case rel => exact ⟨t2, k + 1, j + n1 + n2, rfl, by go_num, by omega, ht2l, HS2, by simp only [Nat.add_assoc]⟩
      case measure => simp [intOf]; omega
    · obtain rfl : k = n := by omega
      have HE : Hid ((t : Int) = ((sN f k % p : Nat) : Int)) := by unfold Hid; rw [HS.out]
      clear HS
      go_wp2
      go_ret
      exact ⟨ret_int HE.out, j, rfl⟩
theorem dsum_any {W : World} {p : Nat} (hp : 1 ≤ p) (hp2 : p < 9223372036854775808) {A : Option Addr} {C : Nat} {xs : List Nat} (hX : UAt W A C xs) {B : Option Addr} {D n r : Nat} (hl : xs.length = n) (hT : UAt W B D (pws r p n)) (ho : OrdN r p n) (h1 : 1 ≤ n) (hn : n ≤ 4096) (i : Nat) (hi : i < n) :
    AnsW W 34 #[.int .u64 (p : Int), .slice B n D, .slice A n C, .int .i64 (i : Int)] (.int .u64 ((tS r n (atL xs) i % p : Nat) : Int)) := by
  refine ansW_int (dsum_walk W p n A C xs B D _ (fun m => r ^ m % p) hX hT hl (pws_len _ _ _) h1 hn i hi hp hp2 (fun m t hm => ?_)) ?_
  · have hmn : m < n := by
      by_cases h : m < n
      · exact h
      · rw [List.getElem?_eq_none (by rw [pws_len]; omega)] at hm; cases hm
    rw [pws_get hmn] at hm
    cases hm; rfl
  · congr 1
    unfold tS
    refine sN_cong fun j hj => ?_
    rw [Nat.mul_mod_mod, Nat.mul_mod, ← ho.mod (i * j), ← Nat.mul_mod]
theorem rng_snoc (d : Nat → Nat) (k : Nat) : ucells ((List.range (k + 1)).map d) = ucells ((List.range k).map d) ++ [.int .u64 ((d k : Nat) : Int)] := by
  rw [List.range_succ, List.map_append, ucells]; simp [ucells]
set_option maxHeartbeats 4000000 in
theorem drun_fwd (W : World) (p g r : Int) (A : Option Addr) (n C : Nat) (s d : Nat → Nat) (ts : List Nat) (h1 : 1 ≤ n) (hn : n ≤ 4096) (hts : ts.length = n) (htl : ∀ y ∈ ts, y < 18446744073709551616)
    (HR : Ans 32 #[.int .u64 p, .int .u64 g, .int .i64 (n : Int), .bool false] (.tuple #[.int .u64 r, .int .i64 0]))
    (HT : OwnR W 33 #[.int .u64 p, .int .u64 r, .int .i64 (n : Int)] ts)
    (HS : ∀ w B D, Below W.heap.size W w → UAt w B D ts → ∀ k, k < n → AnsW w 34 #[.int .u64 p, .slice B n D, .slice A n C, .int .i64 (k : Int)] (.int .u64 ((s k : Nat) : Int)))
    (HD : ∀ k, s k = d k) : OwnR W 16 #[.int .u64 p, .int .u64 g, .slice A n C, .bool false] ((List.range n).map d) := by
  intro w hw
  obtain ⟨ii, hii, hzi, hsi, hbi⟩ := info_parts infoWd
  have HT1 : ∀ (x : Nat) {R : Ending → World → Prop}, (∀ g C1 w', OwnU w' w.heap.size (some ⟨g, 0, none⟩) C1 ts → Below w.heap.size w w' → R (.returned (.slice (some ⟨g, 0, none⟩) n C1)) w') → Calls Tryz.prog 33 #[.int .u64 p, .int .u64 r, .int .i64 (n : Int)] (w.drewN x) R :=
    fun x R k => OwnR.useG HT hts h1 (below_dN hw x) fun g C1 w' q1 q2 => k g C1 w' (q1.base (Nat.le_refl _)) (bb (below_drewN w x) q2)
  have HS' : Hid (∀ w B D, Below W.heap.size W w → UAt w B D ts → ∀ k, k < n → AnsW w 34 #[.int .u64 p, .slice B n D, .slice A n C, .int .i64 (k : Int)] (.int .u64 ((s k : Nat) : Int))) := HS
  have HD' : Hid (∀ k, s k = d k) := HD
  have HN : Hid (1 ≤ n ∧ n ≤ 4096) := ⟨h1, hn⟩
  have HTL : Hid (∀ y ∈ ts, y < 18446744073709551616) := htl
  have HW : Hid (Below W.heap.size W w) := hw
  have hlenn : (n : Int) ≤ 9223372036854775807 := by omega
  rw [show ((List.range n).map d).length = n by simp]
  have HX : Hid (∀ k, ucells ((List.range (k + 1)).map d) = ucells ((List.range k).map d) ++ [.int .u64 ((d k : Nat) : Int)]) := fun k => rng_snoc d k
  have H0 : Hid (ucells ((List.range 0).map d) = []) := rfl
  clear HT HS HD hts htl h1 hn hw
  go_enter Tryz.func16, Tryz.ntmps16
  go_wp2_with (first
    | (go_at_call 32; with_reducible refine Ans.use HR _ fun m1 => ?_)
    | (go_at_call 33; with_reducible refine HT1 _ fun gt C1 w2 hO2 hB2 => ?_))
  have HO2 : Hid (UAt w2 (some ⟨gt, 0, none⟩) C1 ts) := hO2.words HTL.out
  have HB2 : Hid (Below w.heap.size w w2) := hB2
  clear HR HT1 hO2 hB2
  go_loopw [12, 31] (fun out v wr => ∃ k : Nat, v = .int .i64 (k : Int) ∧ k ≤ n ∧ Hid (wr.ownsRow w2.heap.size 22 1 out k (ucells ((List.range k).map d))) ∧ Hid (Below w2.heap.size w2 wr)) (fun _ v _ => n - (intOf v).toNat)
  case atStart => exact ⟨0, rfl, by omega, by unfold Hid; rw [H0.out]; exact World.ownsRow_nil _ _ _ _, Below.refl _ _⟩
  case round =>
    obtain ⟨k, rfl, hk, HO, HB⟩ := hrel
    by_cases hlt : k < n
    · have HSk := HS'.out wr _ _ (bb HW.out (bb HB2.out HB.out)) (HO2.out.below HB.out) k hlt
      have HXk := HX.out k
      obtain ⟨y, hy⟩ : ∃ y, d k = y := ⟨_, rfl⟩
      rw [HD'.out k, hy] at HSk
      rw [hy] at HXk
      have HXk' : Hid (ucells ((List.range (k + 1)).map d) = ucells ((List.range k).map d) ++ [.int .u64 (y : Int)]) := HXk
      have hkm : k ≤ 4096 := Nat.le_trans hk HN.out.2
      have HRow : Hid (∀ m, (wr.drewN m).ownsRow w2.heap.size 22 1 u12 k (ucells ((List.range k).map d))) := fun m => row_below HO.out (below_drewN wr m)
      have HBr : Hid (∀ m, Below w2.heap.size w2 (wr.drewN m)) := fun m => below_dN HB.out m
      clear hy HXk HO HB
      go_wp2_with (first
        | (go_at_call 34; with_reducible refine AnsW.use0 HSk fun n1 => ?_)
        | (at_builtin; refine Hid.out ?_))
      unfold Hid
      have hO2 := World.ownsRow.alloc (HRow.out n1) (.cells #[.int .u64 (y : Int)] 22)
      have hnews := one_new (wr.drewN n1) (.int .u64 (y : Int)) 22
      have hBa : Below w2.heap.size w2 ((wr.drewN n1).alloc (.cells #[.int .u64 (y : Int)] 22)) := bb (HBr.out n1) (below_alloc _ _)
      refine (wpList_append_own _ rfl _ _ 26 rfl w2.heap.size 22 ii _ 1 8 Tryz.underlying26 hii hzi hsi hbi rfl (by omega) _ k _ rfl hO2 ⟨(wr.drewN n1).heap.size, 0, none⟩ 1 1 [.int .u64 (y : Int)] rfl rfl hnews (by simp [Value.oneCell']) (by unfold maxLen; omega) (by omega) hBa.size ?_)
      intro v' w5 hO3 hG _
      have HO3 : Hid (w5.ownsRow w2.heap.size 22 1 v' (k + 1) (ucells ((List.range (k + 1)).map d))) := by unfold Hid; rw [HXk'.out]; exact hO3
      have HB5 : Hid (Below w2.heap.size w2 w5) := hBa.grown hG hBa.size (fun k hk => (hO2.lt k hk).1)
      clear hO3 hG hO2 hBa hnews hkm HRow HBr
      go_wp2
      go_roundw
      case rel => exact ⟨k + 1, by go_num, by omega, by unfold Hid; exact HO3.out, HB5⟩
      case measure => simp [intOf]; omega
    · obtain rfl : k = n := by omega
      obtain ⟨A1, C5, rfl⟩ : ∃ A1 C5, u12 = .slice A1 k C5 := by
        rcases HO.out.2 with ⟨hv, h0⟩ | ⟨g, cap, cur, hv, _⟩
        · exact ⟨none, 0, by rw [hv, h0]⟩
        · exact ⟨_, _, hv⟩
      have HO4 : Hid (OwnU wr w.heap.size A1 C5 ((List.range k).map d)) := by
        have : OwnU wr w2.heap.size A1 C5 ((List.range k).map d) := by unfold OwnU; simp only [List.length_map, List.length_range]; exact HO.out
        exact this.base HB2.out.size
      have HB6 : Hid (Below w.heap.size w wr) := bb HB2.out HB.out
      clear HO HB
      go_wp2
      go_ret
      exact ⟨A1, C5, rfl, HO4.out, HB6.out⟩
set_option maxHeartbeats 4000000 in
theorem drun_inv (W : World) (p g r : Int) (A : Option Addr) (n C : Nat) (s d : Nat → Nat) (ts : List Nat) (iv : Nat) (h1 : 1 ≤ n) (hn : n ≤ 4096) (hts : ts.length = n) (htl : ∀ y ∈ ts, y < 18446744073709551616)
    (HR : Ans 32 #[.int .u64 p, .int .u64 g, .int .i64 (n : Int), .bool true] (.tuple #[.int .u64 r, .int .i64 0]))
    (HT : OwnR W 33 #[.int .u64 p, .int .u64 r, .int .i64 (n : Int)] ts)
    (HS : ∀ w B D, Below W.heap.size W w → UAt w B D ts → ∀ k, k < n → AnsW w 34 #[.int .u64 p, .slice B n D, .slice A n C, .int .i64 (k : Int)] (.int .u64 ((s k : Nat) : Int)))
    (HV : Ans 35 #[.int .u64 (n : Int), .int .u64 p] (.int .u64 (iv : Int)))
    (HQ : ∀ k, k < n → Ans 20 #[.int .u64 ((s k : Nat) : Int), .int .u64 (iv : Int), .int .u64 p] (.int .u64 ((d k : Nat) : Int))) : OwnR W 16 #[.int .u64 p, .int .u64 g, .slice A n C, .bool true] ((List.range n).map d) := by
  intro w hw
  obtain ⟨ii, hii, hzi, hsi, hbi⟩ := info_parts infoWd
  have HT1 : ∀ (x : Nat) {R : Ending → World → Prop}, (∀ g C1 w', OwnU w' w.heap.size (some ⟨g, 0, none⟩) C1 ts → Below w.heap.size w w' → R (.returned (.slice (some ⟨g, 0, none⟩) n C1)) w') → Calls Tryz.prog 33 #[.int .u64 p, .int .u64 r, .int .i64 (n : Int)] (w.drewN x) R :=
    fun x R k => OwnR.useG HT hts h1 (below_dN hw x) fun g C1 w' q1 q2 => k g C1 w' (q1.base (Nat.le_refl _)) (bb (below_drewN w x) q2)
  have HS' : Hid (∀ w B D, Below W.heap.size W w → UAt w B D ts → ∀ k, k < n → AnsW w 34 #[.int .u64 p, .slice B n D, .slice A n C, .int .i64 (k : Int)] (.int .u64 ((s k : Nat) : Int))) := HS
  have HQ' : Hid (∀ k, k < n → Ans 20 #[.int .u64 ((s k : Nat) : Int), .int .u64 (iv : Int), .int .u64 p] (.int .u64 ((d k : Nat) : Int))) := HQ
  have HN : Hid (1 ≤ n ∧ n ≤ 4096) := ⟨h1, hn⟩
  have HTL : Hid (∀ y ∈ ts, y < 18446744073709551616) := htl
  have HW : Hid (Below W.heap.size W w) := hw
  have hlenn : (n : Int) ≤ 9223372036854775807 := by omega
  rw [show ((List.range n).map d).length = n by simp]
  have HX : Hid (∀ k, ucells ((List.range (k + 1)).map d) = ucells ((List.range k).map d) ++ [.int .u64 ((d k : Nat) : Int)]) := fun k => rng_snoc d k
  have H0 : Hid (ucells ((List.range 0).map d) = []) := rfl
  clear HT HS HQ hts htl h1 hn hw
  go_enter Tryz.func16, Tryz.ntmps16
  go_wp2_with (first
    | (go_at_call 32; with_reducible refine Ans.use HR _ fun m1 => ?_)
    | (go_at_call 33; with_reducible refine HT1 _ fun gt C1 w2 hO2 hB2 => ?_))
  have HO2 : Hid (UAt w2 (some ⟨gt, 0, none⟩) C1 ts) := hO2.words HTL.out
  have HB2 : Hid (Below w.heap.size w w2) := hB2
  clear HR HT1 hO2 hB2
  go_loopw [12, 31] (fun out v wr => ∃ k : Nat, v = .int .i64 (k : Int) ∧ k ≤ n ∧ Hid (wr.ownsRow w2.heap.size 22 1 out k (ucells ((List.range k).map d))) ∧ Hid (Below w2.heap.size w2 wr)) (fun _ v _ => n - (intOf v).toNat)
  case atStart => exact ⟨0, rfl, by omega, by unfold Hid; rw [H0.out]; exact World.ownsRow_nil _ _ _ _, Below.refl _ _⟩
  case round =>
    obtain ⟨k, rfl, hk, HO, HB⟩ := hrel
    by_cases hlt : k < n
    · have HSk := HS'.out wr _ _ (bb HW.out (bb HB2.out HB.out)) (HO2.out.below HB.out) k hlt
      have HQk := HQ'.out k hlt
      have HXk := HX.out k
      obtain ⟨y, hy⟩ : ∃ y, d k = y := ⟨_, rfl⟩
      obtain ⟨sk, hsk⟩ : ∃ sk, s k = sk := ⟨_, rfl⟩
      rw [hsk] at HSk HQk
      rw [hy] at HXk HQk
      clear hsk
      have HXk' : Hid (ucells ((List.range (k + 1)).map d) = ucells ((List.range k).map d) ++ [.int .u64 (y : Int)]) := HXk
      have hkm : k ≤ 4096 := Nat.le_trans hk HN.out.2
      have HRow : Hid (∀ m, (wr.drewN m).ownsRow w2.heap.size 22 1 u12 k (ucells ((List.range k).map d))) := fun m => row_below HO.out (below_drewN wr m)
      have HBr : Hid (∀ m, Below w2.heap.size w2 (wr.drewN m)) := fun m => below_dN HB.out m
      clear hy HXk HO HB
      go_wp2_with (first
        | (go_at_call 34; with_reducible refine AnsW.use0 HSk fun n1 => ?_)
        | (go_at_call 35; with_reducible refine Ans.use HV _ fun n2 => ?_)
        | (go_at_call 20; with_reducible refine Ans.use HQk _ fun n3 => ?_)
        | (at_builtin; refine Hid.out ?_))
      unfold Hid
      have hO2 := World.ownsRow.alloc (HRow.out (n1 + n2 + n3)) (.cells #[.int .u64 (y : Int)] 22)
      have hnews := one_new (wr.drewN (n1 + n2 + n3)) (.int .u64 (y : Int)) 22
      have hBa : Below w2.heap.size w2 ((wr.drewN (n1 + n2 + n3)).alloc (.cells #[.int .u64 (y : Int)] 22)) := bb (HBr.out (n1 + n2 + n3)) (below_alloc _ _)
      refine (wpList_append_own _ rfl _ _ 26 rfl w2.heap.size 22 ii _ 1 8 Tryz.underlying26 hii hzi hsi hbi rfl (by omega) _ k _ rfl hO2 ⟨(wr.drewN (n1 + n2 + n3)).heap.size, 0, none⟩ 1 1 [.int .u64 (y : Int)] rfl rfl hnews (by simp [Value.oneCell']) (by unfold maxLen; omega) (by omega) hBa.size ?_)
      intro v' w5 hO3 hG _
      have HO3 : Hid (w5.ownsRow w2.heap.size 22 1 v' (k + 1) (ucells ((List.range (k + 1)).map d))) := by unfold Hid; rw [HXk'.out]; exact hO3
      have HB5 : Hid (Below w2.heap.size w2 w5) := hBa.grown hG hBa.size (fun k hk => (hO2.lt k hk).1)
      clear hO3 hG hO2 hBa hnews hkm HRow HBr
      go_wp2
      go_roundw
      case rel => exact ⟨k + 1, by go_num, by omega, by unfold Hid; exact HO3.out, HB5⟩
      case measure => simp [intOf]; omega
    · obtain rfl : k = n := by omega
      obtain ⟨A1, C5, rfl⟩ : ∃ A1 C5, u12 = .slice A1 k C5 := by
        rcases HO.out.2 with ⟨hv, h0⟩ | ⟨g, cap, cur, hv, _⟩
        · exact ⟨none, 0, by rw [hv, h0]⟩
        · exact ⟨_, _, hv⟩
      have HO4 : Hid (OwnU wr w.heap.size A1 C5 ((List.range k).map d)) := by
        have : OwnU wr w2.heap.size A1 C5 ((List.range k).map d) := by unfold OwnU; simp only [List.length_map, List.length_range]; exact HO.out
        exact this.base HB2.out.size
      have HB6 : Hid (Below w.heap.size w wr) := bb HB2.out HB.out
      clear HO HB
      go_wp2
      go_ret
      exact ⟨A1, C5, rfl, HO4.out, HB6.out⟩
theorem drun_any {W : World} {x : En} (hF : Fld x) {A : Option Addr} {C : Nat} {xs : List Nat} (hU : UAt W A C xs) (h1 : 1 ≤ xs.length) (hn : xs.length ≤ 4096) (hd : (x.p - 1) % xs.length = 0) (i : Bool) : OwnR W 16 #[.int .u64 (x.p : Int), .int .u64 (x.g : Int), .slice A xs.length C, .bool i] (dT x i xs) := by
  obtain ⟨h3, hodd, hlt⟩ := hF.num
  have ho := twR_ord hF h1 hd i
  have hr := twR_lt hF xs.length i
  have HR := dRoot_yes hF xs.length h1 hn hd i
  have HT := dTable_any W (twR x xs.length i) x.p xs.length (by omega) (by omega) (by omega) hn
  have HS : ∀ w B D, Below W.heap.size W w → UAt w B D (pws (twR x xs.length i) x.p xs.length) → ∀ k, k < xs.length → AnsW w 34 #[.int .u64 (x.p : Int), .slice B xs.length D, .slice A xs.length C, .int .i64 (k : Int)] (.int .u64 ((tS (twR x xs.length i) xs.length (atL xs) k % x.p : Nat) : Int)) :=
    fun w B D hw hT k hk => dsum_any (by omega) hlt (hU.below hw) rfl hT ho h1 hn k hk
  have hsm : ∀ y ∈ pws (twR x xs.length i) x.p xs.length, y < 18446744073709551616 := fun y hy => by have := pws_lt (show 0 < x.p by omega) y hy; omega
  cases i
  · exact drun_fwd W _ _ _ A xs.length C (fun k => tS (twR x xs.length false) xs.length (atL xs) k % x.p) (dV x false xs) _ h1 hn (pws_len _ _ _) hsm HR HT HS (fun k => rfl)
  · have hq := Nat.mod_lt (xs.length ^ (x.p - 2)) (show 0 < x.p by omega)
    exact drun_inv W _ _ _ A xs.length C (fun k => tS (twR x xs.length true) xs.length (atL xs) k % x.p) (dV x true xs) _ (invN x xs.length) h1 hn (pws_len _ _ _) hsm HR HT HS
      (rinv_any xs.length x.p (by omega) (by omega) (by omega))
      (fun k _ => rmul_any _ _ _ (by have := Nat.mod_lt (tS (twR x xs.length true) xs.length (atL xs) k) (show 0 < x.p by omega); omega) (by unfold invN; omega) (by omega) (by omega))
end Go.Proofs.YtphpllachnhfbaaGreat

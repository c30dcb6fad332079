/-
  What dft.Scale, dft.sum and dft.Run answer: new rows. No condition but that the field and the lists lie there.
-/
import Derived.Test.YtphpllachnhfbaaGreatDf1
namespace Go.Proofs.YtphpllachnhfbaaGreat
set_option linter.unusedVariables false
open Go.RowKit

theorem map_range (u : Nat → Nat) (xs : List Nat) : (List.range xs.length).map (fun i => u (atL xs i)) = xs.map u := by
  apply List.ext_getElem?
  intro j
  by_cases h : j < xs.length
  · rw [List.getElem?_map, List.getElem?_range h, List.getElem?_map, List.getElem?_eq_getElem h]
    simp only [Option.map_some, Option.some.injEq]
    unfold atL
    rw [List.getD_eq_getElem?_getD, List.getElem?_eq_getElem h]; rfl
  · rw [List.getElem?_eq_none (by simp; omega), List.getElem?_eq_none (by simp; omega)]

/-! ### Scale -/
set_option maxHeartbeats 2000000 in
theorem scale_walk (W : World) (a : Option Addr) (A : Option Addr) (C : Nat) (xs : List Nat) (u : Nat → Nat) (iv l : Int) (hm : xs.length ≤ 4096) (hU : UAt W A C xs)
    (HI : ∀ w, Below W.heap.size W w → AnsW w 39 #[.pointer a, .int .u64 (xs.length : Int)] (.int .u64 iv))
    (HL : ∀ w, Below W.heap.size W w → AnsW w 38 #[.pointer a, .int .u64 iv] (.int .u64 l))
    (HT : ∀ w, Below W.heap.size W w → ∀ c ∈ xs, AnsW w 40 #[.pointer a, .int .u64 l, .int .u64 (c : Int)] (.int .u64 ((u c : Nat) : Int))) : OwnR W 19 #[.pointer a, .slice A xs.length C] (xs.map u) := by
  intro w hw
  obtain ⟨ii, hii, hzi, hsi, hbi⟩ := info_parts infoWd
  rw [List.length_map]
  have HI1 := HI w hw
  have HL1 := HL w hw
  have HF : Hid (wfl 0 xs.length xs.length (fun i => u (atL xs i)) = xs.map u) := by unfold Hid; rw [wfl_all]; exact map_range u xs
  have HT' : Hid (∀ wr, Below w.heap.size w wr → ∀ k c : Nat, xs[k]? = some c → AnsW wr 40 #[.pointer a, .int .u64 l, .int .u64 (c : Int)] (.int .u64 ((u c : Nat) : Int))) :=
    fun wr hb k c hc => HT wr (bb hw hb) c (List.mem_of_getElem? hc)
  have HFk : Hid (∀ k c : Nat, xs[k]? = some c → (fun i => u (atL xs i)) k = u c) := fun k c hc => by show u (atL xs k) = u c; rw [atL_of hc]
  obtain ⟨f, hf⟩ : ∃ f : Nat → Nat, (fun i => u (atL xs i)) = f := ⟨_, rfl⟩
  rw [hf] at HF HFk
  obtain ⟨ys, hys⟩ : ∃ ys, xs.map u = ys := ⟨_, rfl⟩
  have hyl : ys.length = xs.length := by rw [← hys]; simp
  rw [hys] at HF ⊢
  obtain ⟨n, en⟩ : ∃ n, xs.length = n := ⟨_, rfl⟩
  have HEN : Hid (xs.length = n) := en
  have HYL : Hid (ys.length = n) := hyl.trans en
  have HU : Hid (UAt w A C xs) := hU.below hw
  have HWS : Hid (w.heap.size = w.heap.size) := rfl
  rw [en] at hm HI1 HF ⊢
  have HM : Hid (n ≤ 4096) := hm
  have hlenn : (n : Int) ≤ 9223372036854775807 := by omega
  clear HI HL HT hf hys hyl en hU hm
  go_enter Tryz.func19, Tryz.ntmps19
  go_wp2_with (first
    | (go_at_call 39; with_reducible refine AnsW.use0 HI1 fun n1 => ?_)
    | (go_at_call 38; with_reducible refine AnsW.use HL1 _ fun n2 => ?_)
    | (at_make; refine Hid.out ?_))
  unfold Hid
  refine wpList_make_full _ rfl _ _ 26 rfl w.heap.size 22 ii _ 1 Tryz.underlying26 hii hzi hsi .i64 .i64 (n : Int) (n : Int) n rfl rfl rfl rfl (by have := HM.out; rw [hbi]; omega) (by have := HM.out; unfold maxLen; omega) (Nat.le_refl _) ?_
  intro w1 hR hG1
  obtain ⟨gc, hgc⟩ : ∃ gc, w.heap.size = gc := ⟨_, rfl⟩
  have HGC : Hid (w.heap.size = gc) := hgc
  have hR1 : w1.ownsRow w.heap.size 22 1 (.slice (some ⟨w.heap.size, 0, none⟩) n n) n (ucells (wfl 0 n 0 f)) := by
    have e : (madeCells (Value.int .u64 0).cells (n * 1)).toList = ucells (wfl 0 n 0 f) := by
      rw [made_list rfl, wfl_zero]; simp [ucells]
    rw [← e]; exact hR
  have hB1 : Below w.heap.size w w1 := bb (below_drewN w (n1 + n2)) ((Below.refl _ _).grown hG1 (Nat.le_refl _) (fun k ek => by cases ek))
  rw [show (Value.slice (some ⟨w.heap.size, 0, none⟩) n n) = .slice (some ⟨gc, 0, none⟩) n n by rw [hgc]] at hR1
  have HR2 : Hid (w1.ownsRow w.heap.size 22 1 (.slice (some ⟨gc, 0, none⟩) n n) n (ucells (wfl 0 n 0 f))) := hR1
  have e1 : (w.drewN (n1 + n2)).heap.size = gc := hgc
  rw [e1]
  clear hR hR1 hG1 hgc e1 HI1 HL1
  go_wp2
  go_loopw [21] (fun v wr => ∃ k : Nat, v = .int .i64 (k : Int) ∧ k ≤ n ∧ Hid (wr.ownsRow w.heap.size 22 1 (.slice (some ⟨gc, 0, none⟩) n n) n (ucells (wfl 0 n k f))) ∧ Below w.heap.size w wr) (fun v _ => n - (intOf v).toNat)
  case atStart => exact ⟨0, rfl, by omega, HR2, hB1⟩
  case round =>
    clear HR2 hB1
    obtain ⟨k, rfl, hk, HO, hB⟩ := hrel
    by_cases hlt : k < n
    · obtain ⟨c, hc⟩ : ∃ c, xs[k]? = some c := ⟨_, List.getElem?_eq_getElem (by rw [HEN.out]; exact hlt)⟩
      obtain ⟨b, o, rfl, hb, c0, _⟩ := HU.out.get k c hc
      have c1 := ((bcell hB).1 b (o + k) hb).trans c0
      have HTk := HT'.out wr hB k c hc
      have hfk : wr.frozen? ⟨gc, k, none⟩ = false := World.ownsRow.frozenAt HO.out k
      have hck : wr.cell? ⟨gc, k, none⟩ = some (.int .u64 0) := (World.ownsRow.cellAt HO.out k (by omega)).trans (by unfold ucells; rw [List.getElem?_map, wfl_get 0 f hlt, if_neg (by omega)]; rfl)
      have HE := HFk.out k c hc
      obtain ⟨y, hy⟩ : ∃ y, u c = y := ⟨_, rfl⟩
      rw [hy] at HTk HE
      have HO0 : Hid (∀ m, OwnU (wr.drewN m) w.heap.size (some ⟨gc, 0, none⟩) n (wfl 0 n k f)) := fun m => by
        have : OwnU wr w.heap.size (some ⟨gc, 0, none⟩) n (wfl 0 n k f) := by unfold OwnU; rw [wfl_len]; exact HO.out
        exact this.below (below_drewN wr m)
      have HO3 : Hid (∀ m, ((wr.drewN m).setCell ⟨gc, k, none⟩ (.int .u64 (y : Int))).ownsRow w.heap.size 22 1 (.slice (some ⟨gc, 0, none⟩) n n) n (ucells (wfl 0 n (k + 1) f))) := fun m => by
        have := (HO0.out m).set k y
        unfold OwnU at this
        rw [List.length_set, wfl_len] at this
        rw [← wfl_set, HE]; exact this
      have HB3 : Hid (∀ m, Below w.heap.size w ((wr.drewN m).setCell ⟨gc, k, none⟩ (.int .u64 (y : Int)))) := fun m => (below_dN hB m).setCell (p := ⟨gc, k, none⟩) (by rw [HGC.out]; exact Nat.le_refl _) _
      clear c0 hb hc hy HE HO HO0 hB
      go_wp2_with (go_at_call 40; with_reducible refine AnsW.use0 HTk fun n3 => ?_)
      go_roundw
      case rel => exact ⟨k + 1, by go_num, by omega, HO3.out n3, HB3.out n3⟩
      case measure => simp [intOf]; omega
    · obtain rfl : k = n := by omega
      have HO4 : Hid (OwnU wr w.heap.size (some ⟨gc, 0, none⟩) k ys) := by
        unfold Hid OwnU; rw [← HF.out, wfl_len]; exact HO.out
      clear HO
      go_wp2
      go_ret
      exact ⟨_, _, rfl, HO4.out, hB⟩
/-- What makes 1 with how many there are, times each. -/
theorem scale_any {W : World} {b : Nat} {x : En} (F : FieldAt W b x) (hF : Fld x) {A : Option Addr} {C : Nat} {xs : List Nat} (hU : UAt W A C xs) (hm : xs.length ≤ 4096) : ∃ v, IsInv xs.length x.p v ∧ OwnR W 19 #[pt b, .slice A xs.length C] (xs.map fun y => v * y % x.p) := by
  obtain ⟨h3, hodd, hlt⟩ := hF.num
  obtain ⟨v, hv, HI⟩ := fInv_any hF.prm hlt xs.length (by omega)
  refine ⟨v, hv, ?_⟩
  have := hv.lt
  exact scale_walk W _ A C xs (fun y => v * y % x.p) v (up v x.p : Nat) hm hU (fun w hw => HI w b (F.below hw)) (fun w hw => fLift_any (F.below hw) v (by omega)) (fun w hw c hc => fTimes_lift (F.below hw) v c (by omega) (hU.small c hc))

/-! ### sum -/
theorem addSm {m i n : Nat} (h : m < n) (h2 : i < n) (hn : n ≤ 4096) : m + i ≤ 16777216 := by omega
set_option maxHeartbeats 2000000 in
theorem sum_walk (W : World) (fb p n : Nat) (A : Option Addr) (C : Nat) (xs : List Nat) (B : Option Addr) (D : Nat) (ls : List Nat) (y : Nat → Nat) (hX : UAt W A C xs) (hL : UAt W B D ls) (hx : xs.length = n) (hl : ls.length = n) (h1 : 1 ≤ n) (hn : n ≤ 4096) (i : Nat) (hi : i < n) (hp : 1 ≤ p) (hp2 : p < 9223372036854775808)
    (HT : ∀ m l : Nat, ls[m]? = some l → ∀ c : Nat, c < 18446744073709551616 → AnsW W 40 #[pt fb, .int .u64 (l : Int), .int .u64 (c : Int)] (.int .u64 ((y m * c % p : Nat) : Int)))
    (HA : ∀ a c : Nat, a < p → c < p → AnsW W 54 #[pt fb, .int .u64 (a : Int), .int .u64 (c : Int)] (.int .u64 (((a + c) % p : Nat) : Int))) : AnsW W 31 #[pt fb, .slice A n C, .slice B n D, .int .i64 (i : Int)] (.int .u64 ((sN (fun j => y (i * j % n) * atL xs j) n % p : Nat) : Int)) := by
  intro j0
  have HX : Hid (UAt W A C xs) := hX
  have HL : Hid (UAt W B D ls) := hL
  have HXL : Hid (xs.length = n) := hx
  have HLL : Hid (ls.length = n) := hl
  have HI : Hid (1 ≤ n ∧ n ≤ 4096 ∧ i < n ∧ 1 ≤ p ∧ p < 9223372036854775808) := ⟨h1, hn, hi, hp, hp2⟩
  have HT' : Hid (∀ m l : Nat, ls[m]? = some l → ∀ c : Nat, c < 18446744073709551616 → AnsW W 40 #[pt fb, .int .u64 (l : Int), .int .u64 (c : Int)] (.int .u64 ((y m * c % p : Nat) : Int))) := HT
  have HA' : Hid (∀ a c : Nat, a < p → c < p → AnsW W 54 #[pt fb, .int .u64 (a : Int), .int .u64 (c : Int)] (.int .u64 (((a + c) % p : Nat) : Int))) := HA
  obtain ⟨f, hf⟩ : ∃ f : Nat → Nat, (fun j => y (i * j % n) * atL xs j) = f := ⟨_, rfl⟩
  have HF : Hid (∀ j, y (i * j % n) * atL xs j = f j) := fun j => congrFun hf j
  rw [hf]
  have h0p : 0 < p := by omega
  have hlenn : (n : Int) ≤ 9223372036854775807 := by omega
  have hn0 : ¬ (n : Int) = 0 := by omega
  clear hX hL hx hl h1 hn hi hp hp2 HT HA hf
  go_enter Tryz.func31, Tryz.ntmps31
  go_wp2
  go_loopw [9, 10, 15] (fun s q v wr => ∃ t m k j : Nat, s = .int .u64 (t : Int) ∧ q = .int .i64 (m : Int) ∧ v = .int .i64 (k : Int) ∧ k ≤ n ∧ t < p ∧ Hid (t = sN f k % p) ∧ Hid (m = i * k % n) ∧ wr = W.drewN (j0 + j)) (fun _ _ v _ => n - (intOf v).toNat)
  case atStart => exact ⟨0, 0, 0, 0, rfl, rfl, rfl, by omega, h0p, by unfold Hid; rw [sN, Nat.zero_mod], by unfold Hid; rw [Nat.mul_zero, Nat.zero_mod], rfl⟩
  case round =>
    obtain ⟨t, m, k, j, rfl, rfl, rfl, hk, ht, HS, HM, rfl⟩ := hrel
    by_cases hlt : k < n
    · obtain ⟨h1, hn, hi, hp, hp2⟩ := HI.out
      have hml : m < n := by rw [HM.out]; exact Nat.mod_lt _ (by omega)
      obtain ⟨c, hc⟩ : ∃ c, xs[k]? = some c := ⟨_, List.getElem?_eq_getElem (by rw [HXL.out]; exact hlt)⟩
      obtain ⟨l, hl⟩ : ∃ l, ls[m]? = some l := ⟨_, List.getElem?_eq_getElem (by rw [HLL.out]; exact hml)⟩
      obtain ⟨b, o, rfl, hb, c0, hcl⟩ := HX.out.get k c hc
      obtain ⟨b2, o2, rfl, hb2, d0, _⟩ := HL.out.get m l hl
      have HTk := HT'.out m l hl c hcl
      obtain ⟨v, hv⟩ : ∃ v, y m * c % p = v := ⟨_, rfl⟩
      have hvl : v < p := hv ▸ Nat.mod_lt _ (by omega)
      rw [hv] at HTk
      have HAk := HA'.out t v ht hvl
      obtain ⟨t2, ht2⟩ : ∃ t2, (t + v) % p = t2 := ⟨_, rfl⟩
      rw [ht2] at HAk
      have ht2l : t2 < p := ht2 ▸ Nat.mod_lt _ (by omega)
      have HS2 : Hid (t2 = sN f (k + 1) % p) := by
        unfold Hid
        rw [← ht2, ← hv, HS.out, sN, ← Nat.add_mod, ← HF.out k, ← HM.out, atL_of hc]
      obtain ⟨m2, hm2⟩ : ∃ m2, (m + i) % n = m2 := ⟨_, rfl⟩
      have HM2 : Hid (m2 = i * (k + 1) % n) := by
        unfold Hid; rw [← hm2, HM.out, Nat.mod_add_mod, Nat.mul_succ]
      have hm2l : m2 < n := hm2 ▸ Nat.mod_lt _ (by omega)
      have r1 : wrap64 ((m : Int) + (i : Int)) = (m : Int) + (i : Int) := by
        rw [← Int.natCast_add]; exact wrN (addSm hml hi hn)
      have r1' : IntKind.i64.wrap ((m : Int) + (i : Int)) = (m : Int) + (i : Int) := by
        rw [← Int.natCast_add]; exact wrI (addSm hml hi hn)
      have r2 : Int.tmod ((m : Int) + (i : Int)) (n : Int) = (m2 : Int) := by rw [← hm2]; rfl
      have r2' : ((m : Int) + (i : Int)) % (n : Int) = (m2 : Int) := by rw [← hm2]; rfl
      have r3 : wrap64 (m2 : Int) = (m2 : Int) := wrL hm2l hn
      have r3' : IntKind.i64.wrap (m2 : Int) = (m2 : Int) := wrLI hm2l hn
      have q1 : (m : Int) < (n : Int) := ltI hml
      have q2 : (k : Int) < (n : Int) := ltI hlt
      clear hv hvl ht2 hm2 HS HM hc hl hcl hb hb2 h1 hn hi hp hp2 hml hm2l
      go_wp2_with (first
        | (go_at_call 40; with_reducible refine AnsW.use HTk _ fun n1 => ?_)
        | (go_at_call 54; with_reducible refine AnsW.use HAk _ fun n2 => ?_))
      clear r1 r1' r2 r2' r3 r3' q1
      go_roundw
      case rel => exact ⟨t2, m2, k + 1, j + n1 + n2, rfl, rfl, by go_num, by omega, ht2l, HS2, HM2, by simp only [Nat.add_assoc]⟩
      case measure => simp [intOf]; omega
    · obtain rfl : k = n := by omega
      have HE : Hid ((t : Int) = ((sN f k % p : Nat) : Int)) := by unfold Hid; rw [HS.out]
      clear HS HM
      go_wp2
      go_ret
      exact ⟨ret_int HE.out, j, rfl⟩
theorem sum_any {W : World} {b : Nat} {x : En} (F : FieldAt W b x) (hF : Fld x) {A : Option Addr} {C : Nat} {xs : List Nat} (hX : UAt W A C xs) {B : Option Addr} {D n r : Nat} (hl : xs.length = n) (hL : UAt W B D ((pws r x.p n).map fun y => up y x.p)) (ho : OrdN r x.p n) (h1 : 1 ≤ n) (hn : n ≤ 4096) (i : Nat) (hi : i < n) :
    AnsW W 31 #[pt b, .slice A n C, .slice B n D, .int .i64 (i : Int)] (.int .u64 ((tS r n (atL xs) i % x.p : Nat) : Int)) := by
  obtain ⟨h3, hodd, hlt⟩ := hF.num
  refine ansW_int (sum_walk W b x.p n A C xs B D _ (fun m => r ^ m % x.p) hX hL hl (by rw [List.length_map, pws_len]) h1 hn i hi (by omega) hlt (fun m l hml c hc => ?_) (fun a c ha hc => fAdd_any F a c (by omega) (by omega))) ?_
  · rw [List.getElem?_map] at hml
    have hm : m < n := by
      by_cases h : m < n
      · exact h
      · rw [List.getElem?_eq_none (by rw [pws_len]; omega)] at hml; cases hml
    rw [pws_get hm] at hml
    simp only [Option.map_some, Option.some.injEq] at hml
    subst hml
    exact fTimes_lift F (r ^ m % x.p) c (by have := Nat.mod_lt (r ^ m) (show 0 < x.p by omega); omega) hc
  · congr 1
    unfold tS
    refine sN_cong fun j hj => ?_
    rw [Nat.mod_mul_mod, Nat.mul_comm, Nat.mul_mod, ← ho.mod (i * j), ← Nat.mul_mod]

/-! ### Run -/
theorem run_err (w : World) (v : Option Addr) (A : Option Addr) (n C : Nat) (i : Bool) (e : Int) (he : (e != 0) = true) (hlen : (n : Int) ≤ 9223372036854775807) (HC : AnsW w 17 #[.pointer v, .int .i64 (n : Int), .int .i64 1024] (.int .i64 e)) : AnsW w 12 #[.pointer v, .slice A n C, .bool i] (.tuple #[.slice none 0 0, .int .i64 e]) := by
  intro j
  go_enter Tryz.func12, Tryz.ntmps12
  go_wp2_with (go_at_call 17; with_reducible refine AnsW.use HC _ fun n1 => ?_)
  go_ret2
  exact ⟨rfl, _, rfl⟩
theorem run_entry (w : World) (v : Option Addr) (A : Option Addr) (n C : Nat) (i : Bool) (hlen : (n : Int) ≤ 9223372036854775807) (HC : AnsW w 17 #[.pointer v, .int .i64 (n : Int), .int .i64 1024] (.int .i64 0)) (HG : AnsW w 18 #[.pointer v, .slice A n C] (.bool false)) : AnsW w 12 #[.pointer v, .slice A n C, .bool i] (.tuple #[.slice none 0 0, .int .i64 9]) := by
  intro j
  go_enter Tryz.func12, Tryz.ntmps12
  go_wp2_with (first
    | (go_at_call 17; with_reducible refine AnsW.use HC _ fun n1 => ?_)
    | (go_at_call 18; with_reducible refine AnsW.use HG _ fun n2 => ?_))
  go_ret2
  exact ⟨rfl, n1 + n2, by simp [Nat.add_assoc]⟩
set_option maxHeartbeats 4000000 in
theorem run_walk (W : World) (b : Nat) (A : Option Addr) (n C : Nat) (i : Bool) (ls l : List Nat) (s : Nat → Nat) (h1 : 1 ≤ n) (hn : n ≤ 4096) (hll : ls.length = n) (hl2 : l.length = n) (hls : ∀ y ∈ ls, y < 18446744073709551616)
    (HC : ∀ w, Below W.heap.size W w → AnsW w 17 #[pt b, .int .i64 (n : Int), .int .i64 1024] (.int .i64 0))
    (HG : ∀ w, Below W.heap.size W w → AnsW w 18 #[pt b, .slice A n C] (.bool true))
    (HL : ∀ w, Below W.heap.size W w → OwnT w 30 #[pt b, .int .i64 (n : Int), .bool i] ls)
    (HS : ∀ w B D, Below W.heap.size W w → UAt w B D ls → ∀ k, k < n → AnsW w 31 #[pt b, .slice A n C, .slice B n D, .int .i64 (k : Int)] (.int .u64 ((s k : Nat) : Int)))
    (hsl : ∀ k, s k < 18446744073709551616)
    (HF : i = false → l = wfl 0 n n s)
    (HR : i = true → ∀ w B D, Below W.heap.size W w → UAt w B D (wfl 0 n n s) → OwnR w 19 #[pt b, .slice B n D] l) : OwnT W 12 #[pt b, .slice A n C, .bool i] l := by
  intro w hw
  obtain ⟨ii, hii, hzi, hsi, hbi⟩ := info_parts infoWd
  have HC1 := HC w hw
  have HG1 := HG w hw
  have HL1 : ∀ (x : Nat) {R : Ending → World → Prop}, (∀ g C1 w', OwnU w' w.heap.size (some ⟨g, 0, none⟩) C1 ls → Below w.heap.size w w' → R (.returned (.tuple #[.slice (some ⟨g, 0, none⟩) n C1, .int .i64 0])) w') → Calls Tryz.prog 30 #[pt b, .int .i64 (n : Int), .bool i] (w.drewN x) R :=
    fun x R k => OwnT.useG (HL w hw) hll h1 (below_drewN w x) fun g C1 w' q1 q2 => k g C1 w' (q1.base (Nat.le_refl _)) (bb (below_drewN w x) q2)
  have HS' : Hid (∀ w B D, Below W.heap.size W w → UAt w B D ls → ∀ k, k < n → AnsW w 31 #[pt b, .slice A n C, .slice B n D, .int .i64 (k : Int)] (.int .u64 ((s k : Nat) : Int))) := HS
  have HR' : Hid (i = true → ∀ w B D, Below W.heap.size W w → UAt w B D (wfl 0 n n s) → OwnR w 19 #[pt b, .slice B n D] l) := HR
  have HF' : Hid (i = false → l = wfl 0 n n s) := HF
  have HN : Hid (1 ≤ n ∧ n ≤ 4096) := ⟨h1, hn⟩
  have HLS : Hid (∀ y ∈ ls, y < 18446744073709551616) := hls
  have HSL : Hid (∀ k, s k < 18446744073709551616) := hsl
  have HL2 : Hid (l.length = n) := hl2
  have HW : Hid (Below W.heap.size W w) := hw
  have hlenn : (n : Int) ≤ 9223372036854775807 := by omega
  rw [hl2]
  clear HC HG HL HS HR HF hll hls hsl h1 hn hl2 hw
  go_enter Tryz.func12, Tryz.ntmps12
  go_wp2_with (first
    | (go_at_call 17; with_reducible refine AnsW.use0 HC1 fun n1 => ?_)
    | (go_at_call 18; with_reducible refine AnsW.use HG1 _ fun n2 => ?_)
    | (go_at_call 30; with_reducible refine HL1 _ fun g C1 w2 hO2 hB2 => ?_)
    | (at_make; refine Hid.out ?_))
  unfold Hid
  refine wpList_make_full _ rfl _ _ 26 rfl w2.heap.size 22 ii _ 1 Tryz.underlying26 hii hzi hsi .i64 .i64 (n : Int) (n : Int) n rfl rfl rfl rfl (by have := HN.out.2; rw [hbi]; omega) (by have := HN.out.2; unfold maxLen; omega) (Nat.le_refl _) ?_
  intro w3 hR hG1
  obtain ⟨gc, hgc⟩ : ∃ gc, w2.heap.size = gc := ⟨_, rfl⟩
  have HGC : Hid (w2.heap.size = gc) := hgc
  have hR1 : w3.ownsRow w2.heap.size 22 1 (.slice (some ⟨w2.heap.size, 0, none⟩) n n) n (ucells (wfl 0 n 0 s)) := by
    have e : (madeCells (Value.int .u64 0).cells (n * 1)).toList = ucells (wfl 0 n 0 s) := by
      rw [made_list rfl, wfl_zero]; simp [ucells]
    rw [← e]; exact hR
  have hB3 : Below w2.heap.size w2 w3 := (Below.refl _ _).grown hG1 (Nat.le_refl _) (fun k ek => by cases ek)
  rw [show (Value.slice (some ⟨w2.heap.size, 0, none⟩) n n) = .slice (some ⟨gc, 0, none⟩) n n by rw [hgc]] at hR1
  have HR2 : Hid (w3.ownsRow w2.heap.size 22 1 (.slice (some ⟨gc, 0, none⟩) n n) n (ucells (wfl 0 n 0 s))) := hR1
  have HO2 : Hid (UAt w2 (some ⟨g, 0, none⟩) C1 ls) := hO2.words HLS.out
  have HB2 : Hid (Below w.heap.size w w2) := hB2
  rw [hgc]
  clear hR hR1 hG1 hgc HC1 HG1 HL1 hO2 hB2
  go_wp2
  go_loopw [37] (fun v wr => ∃ k : Nat, v = .int .i64 (k : Int) ∧ k ≤ n ∧ Hid (wr.ownsRow w2.heap.size 22 1 (.slice (some ⟨gc, 0, none⟩) n n) n (ucells (wfl 0 n k s))) ∧ Hid (Below w2.heap.size w2 wr)) (fun v _ => n - (intOf v).toNat)
  case atStart => exact ⟨0, rfl, by omega, HR2, hB3⟩
  case round =>
    clear HR2 hB3
    obtain ⟨k, rfl, hk, HO, HB⟩ := hrel
    by_cases hlt : k < n
    · have HSk := HS'.out wr _ _ (bb HW.out (bb HB2.out HB.out)) (HO2.out.below HB.out) k hlt
      have hfk : wr.frozen? ⟨gc, k, none⟩ = false := World.ownsRow.frozenAt HO.out k
      have hck : wr.cell? ⟨gc, k, none⟩ = some (.int .u64 0) := (World.ownsRow.cellAt HO.out k (by omega)).trans (by unfold ucells; rw [List.getElem?_map, wfl_get 0 s hlt, if_neg (by omega)]; rfl)
      obtain ⟨y, hy⟩ : ∃ y, s k = y := ⟨_, rfl⟩
      rw [hy] at HSk
      have HO0 : Hid (∀ m, OwnU (wr.drewN m) w2.heap.size (some ⟨gc, 0, none⟩) n (wfl 0 n k s)) := fun m => by
        have : OwnU wr w2.heap.size (some ⟨gc, 0, none⟩) n (wfl 0 n k s) := by unfold OwnU; rw [wfl_len]; exact HO.out
        exact this.below (below_drewN wr m)
      have HO3 : Hid (∀ m, ((wr.drewN m).setCell ⟨gc, k, none⟩ (.int .u64 (y : Int))).ownsRow w2.heap.size 22 1 (.slice (some ⟨gc, 0, none⟩) n n) n (ucells (wfl 0 n (k + 1) s))) := fun m => by
        have := (HO0.out m).set k y
        unfold OwnU at this
        rw [List.length_set, wfl_len] at this
        rw [← wfl_set, hy]; exact this
      have HB3 : Hid (∀ m, Below w2.heap.size w2 ((wr.drewN m).setCell ⟨gc, k, none⟩ (.int .u64 (y : Int)))) := fun m => (below_dN HB.out m).setCell (p := ⟨gc, k, none⟩) (by rw [HGC.out]; exact Nat.le_refl _) _
      clear hy HO HO0 HB
      go_wp2_with (go_at_call 31; with_reducible refine AnsW.use0 HSk fun n3 => ?_)
      go_roundw
      case rel => exact ⟨k + 1, by go_num, by omega, HO3.out n3, HB3.out n3⟩
      case measure => simp [intOf]; omega
    · obtain rfl : k = n := by omega
      have HO4 : Hid (OwnU wr w2.heap.size (some ⟨gc, 0, none⟩) k (wfl 0 k k s)) := by
        unfold Hid OwnU; rw [wfl_len]; exact HO.out
      have HBE : Hid (Below w.heap.size w wr) := bb HB2.out HB.out
      have HBA : Hid (w.heap.size ≤ w2.heap.size) := HB2.out.size
      clear HO
      cases i
      · have HE := HF'.out rfl
        have HO5 : Hid (OwnU wr w.heap.size (some ⟨gc, 0, none⟩) k l) := by unfold Hid; rw [HE]; exact HO4.out.base HBA.out
        clear HO4 HE
        go_wp2
        go_ret2
        exact ⟨_, _, rfl, HO5.out, HBE.out⟩
      · have HRR := HR'.out rfl wr _ _ (bb HW.out HBE.out) (HO4.out.words fun y hy => by
          rw [wfl_all] at hy
          obtain ⟨m, _, rfl⟩ := List.mem_map.1 hy
          exact HSL.out m)
        have HRR2 : ∀ {R : Ending → World → Prop}, (∀ A1 C2 w', OwnU w' w.heap.size A1 C2 l → Below w.heap.size w w' → R (.returned (.slice A1 k C2)) w') → Calls Tryz.prog 19 #[pt b, .slice (some ⟨gc, 0, none⟩) k k] wr R :=
          fun {R} q => OwnR.use HRR (Below.refl _ _) fun A1 C2 w' q1 q2 => by rw [HL2.out]; exact q A1 C2 w' (q1.base HBE.out.size) (bb HBE.out q2)
        clear HRR HO4
        go_wp2_with (go_at_call 19; with_reducible refine HRR2 fun A5 C5 w5 hO5 hB5 => ?_)
        go_ret2
        exact ⟨_, _, rfl, hO5, hB5⟩
theorem run_yes {W : World} {b : Nat} {x : En} (F : FieldAt W b x) (hF : Fld x) {A : Option Addr} {C : Nat} {xs : List Nat} (hU : UAt W A C xs) (h1 : 1 ≤ xs.length) (hn : xs.length ≤ 1024) (hd : (x.p - 1) % xs.length = 0) (hg : ∀ y ∈ xs, y < x.p) (i : Bool) : OwnT W 12 #[pt b, .slice A xs.length C, .bool i] (dT x i xs) := by
  obtain ⟨h3, hodd, hlt⟩ := hF.num
  have ho := twR_ord hF h1 hd i
  refine run_walk W b A xs.length C i ((pws (twR x xs.length i) x.p xs.length).map fun y => up y x.p) (dT x i xs) (fun k => tS (twR x xs.length i) xs.length (atL xs) k % x.p) h1 (by omega) (by rw [List.length_map, pws_len]) (dT_len x i xs) (fun y hy => ?_)
    (fun w hw => (dftck_any (F.below hw) xs.length 1024 (by omega)).to (by rw [ckD_yes h1 (by omega) hd]))
    (fun w hw => (dftgood_any (F.below hw) (hU.below hw)).to (by rw [goodB_iff.2 hg]))
    (fun w hw => lifted_yes w b x (F.below hw) hF xs.length h1 (by omega) hd i)
    (fun w B D hw hL k hk => sum_any (F.below hw) hF (hU.below hw) rfl hL ho h1 (by omega) k hk)
    (fun k => by have := Nat.mod_lt (tS (twR x xs.length i) xs.length (atL xs) k) (show 0 < x.p by omega); omega)
    (fun e => ?_) (fun e w B D hw hV => ?_)
  · obtain ⟨z, _, rfl⟩ := List.mem_map.1 hy
    have := up_lt z x.p (by omega); omega
  · subst e
    rw [wfl_all]; rfl
  · subst e
    have hwl : (wfl 0 xs.length xs.length (fun k => tS (twR x xs.length true) xs.length (atL xs) k % x.p)).length = xs.length := wfl_len _ _ _ _
    obtain ⟨v, hv, HS⟩ := scale_any (F.below hw) hF hV (by rw [hwl]; omega)
    rw [hwl] at hv HS
    obtain ⟨_, hle, _⟩ := len_inv hF h1 hd
    have ev : v = invN x xs.length := by
      have hi := (len_inv hF h1 hd).2.2
      have hne := (len_inv hF h1 hd).1
      have hy := hv.yes hne
      -- both make 1 with the length
      have e1 : v = v * (xs.length * invN x xs.length) % x.p := by
        rw [Nat.mul_mod, hi, Nat.mul_one, Nat.mod_mod, Nat.mod_eq_of_lt hv.lt]
      rw [e1, ← Nat.mul_assoc, Nat.mul_comm v, Nat.mul_mod, hy, Nat.one_mul, Nat.mod_mod]
      exact Nat.mod_eq_of_lt (Nat.mod_lt _ (by omega))
    have e2 : (wfl 0 xs.length xs.length (fun k => tS (twR x xs.length true) xs.length (atL xs) k % x.p)).map (fun y => v * y % x.p) = dT x true xs := by
      rw [wfl_all, List.map_map]
      unfold dT
      apply List.map_congr_left
      intro k _
      show v * (tS (twR x xs.length true) xs.length (atL xs) k % x.p) % x.p = dV x true xs k
      unfold dV
      rw [if_pos rfl, ev, Nat.mul_comm]
    rw [e2] at HS
    exact HS
theorem run_bad {W : World} {b : Nat} {x : En} (F : FieldAt W b x) (A : Option Addr) (n C : Nat) (hn : (n : Int) ≤ 9223372036854775807) (i : Bool) (h : ckD x.p (n : Int) 1024 ≠ 0) : AnsW W 12 #[pt b, .slice A n C, .bool i] (.tuple #[.slice none 0 0, .int .i64 (ckD x.p (n : Int) 1024)]) :=
  run_err W _ A n C i _ (by simp only [bne_iff_ne, ne_eq]; exact h) hn (dftck_any F n 1024 (by omega))
theorem run_not {W : World} {b : Nat} {x : En} (F : FieldAt W b x) {A : Option Addr} {C : Nat} {xs : List Nat} (hU : UAt W A C xs) (i : Bool) (h : ckD x.p (xs.length : Int) 1024 = 0) (hg : goodB x.p xs = false) : AnsW W 12 #[pt b, .slice A xs.length C, .bool i] (.tuple #[.slice none 0 0, .int .i64 9]) :=
  run_entry W _ A xs.length C i hU.len ((dftck_any F xs.length 1024 (by have := hU.len; omega)).to (by rw [h])) ((dftgood_any F hU).to (by rw [hg]))
theorem run_nil (w : World) (A : Option Addr) (n C : Nat) (i : Bool) (hlen : (n : Int) ≤ 9223372036854775807) : AnsW w 12 #[.pointer none, .slice A n C, .bool i] (.tuple #[.slice none 0 0, .int .i64 2]) :=
  run_err w none A n C i 2 (by decide) hlen (ck_nil w _ _)
end Go.Proofs.YtphpllachnhfbaaGreat

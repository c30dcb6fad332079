/-
  What twiddle.Lifted, and the document's Table, answer: new rows. No condition but that the field lies there.
-/
import Derived.Test.YtphpllachnhfbaaGreatTw2
namespace Go.Proofs.YtphpllachnhfbaaGreat
set_option linter.unusedVariables false
open Go.RowKit

/-- The first k of a list turned. -/
def mp (g : Nat → Nat) (xs : List Nat) (k : Nat) : List Nat := (xs.take k).map g ++ xs.drop k
theorem mp_len (g : Nat → Nat) (xs : List Nat) (k : Nat) : (mp g xs k).length = xs.length := by simp [mp]; omega
theorem mp_zero (g : Nat → Nat) (xs : List Nat) : mp g xs 0 = xs := by simp [mp]
theorem mp_all (g : Nat → Nat) (xs : List Nat) : mp g xs xs.length = xs.map g := by simp [mp]
theorem mp_get (g : Nat → Nat) (xs : List Nat) (k : Nat) : (mp g xs k)[k]? = xs[k]? := by
  unfold mp
  by_cases h : k ≤ xs.length
  · rw [List.getElem?_append_right (by simp; omega)]
    simp [Nat.min_eq_left h]
  · rw [List.getElem?_eq_none (by simp; omega), List.getElem?_eq_none (by omega)]
theorem mp_set {g : Nat → Nat} {xs : List Nat} {k x : Nat} (hx : xs[k]? = some x) : (mp g xs k).set k (g x) = mp g xs (k + 1) := by
  have hk : k < xs.length := (List.getElem?_eq_some_iff.1 hx).1
  have hd : xs.drop k = x :: xs.drop (k + 1) := by
    rw [List.drop_eq_getElem_cons hk, (List.getElem?_eq_some_iff.1 hx).2]
  unfold mp
  rw [List.set_append_right _ _ (by simp; omega), hd, List.take_add_one, hx]
  simp [Nat.min_eq_left (Nat.le_of_lt hk)]
theorem lifted_err (w : World) (v : Option Addr) (z e : Int) (i : Bool) (he : (e != 0) = true) (HR : AnsW w 53 #[.pointer v, .int .i64 z, .bool i] (.tuple #[.slice none 0 0, .int .i64 e])) : AnsW w 30 #[.pointer v, .int .i64 z, .bool i] (.tuple #[.slice none 0 0, .int .i64 e]) := by
  intro n
  go_enter Tryz.func30, Tryz.ntmps30
  go_wp2_with (go_at_call 53; with_reducible refine AnsW.use HR _ fun n1 => ?_)
  go_ret2
  exact ⟨rfl, _, rfl⟩
set_option maxHeartbeats 1000000 in
theorem lifted_walk (W : World) (b : Nat) (z : Int) (i : Bool) (ts : List Nat) (u : Nat → Nat) (h1 : 1 ≤ ts.length) (h2 : ts.length ≤ 4096) (HT : OwnT W 53 #[pt b, .int .i64 z, .bool i] ts)
    (HL : ∀ wr, Below W.heap.size W wr → ∀ x ∈ ts, AnsW wr 38 #[pt b, .int .u64 (x : Int)] (.int .u64 ((u x : Nat) : Int))) : OwnT W 30 #[pt b, .int .i64 z, .bool i] (ts.map u) := by
  intro w hw
  rw [List.length_map]
  have HMl : ∀ k, (mp u ts k).length = ts.length := mp_len u ts
  have HMA : Hid (mp u ts ts.length = ts.map u) := mp_all u ts
  obtain ⟨L, hL⟩ : ∃ L, ts.length = L := ⟨_, rfl⟩
  have HTL : Hid (ts.length = L) := hL
  have HT' : ∀ {R : Ending → World → Prop}, (∀ A1 C1 w', OwnU w' w.heap.size A1 C1 ts → Below w.heap.size w w' → R (.returned (.tuple #[.slice A1 L C1, .int .i64 0])) w') → Calls Tryz.prog 53 #[pt b, .int .i64 z, .bool i] w R := by
    intro R k
    exact OwnT.use HT hw (fun A1 C1 w' q1 q2 => by rw [hL]; exact k A1 C1 w' q1 q2)
  have HL' : Hid (∀ wr, Below W.heap.size W wr → ∀ x ∈ ts, AnsW wr 38 #[pt b, .int .u64 (x : Int)] (.int .u64 ((u x : Nat) : Int))) := HL
  rw [hL] at h1 h2 HMA ⊢
  simp only [hL] at HMl
  have HMl' : Hid (∀ k, (mp u ts k).length = L) := HMl
  have hlen : (L : Int) ≤ 9223372036854775807 := by omega
  clear hL HT HL HMl
  have H1 : Hid (1 ≤ L ∧ L ≤ 4096) := ⟨h1, h2⟩
  clear h1 h2
  go_enter Tryz.func30, Tryz.ntmps30
  go_wp2_with (go_at_call 53; with_reducible refine HT' fun A1 C1 w2 hO hB2 => ?_)
  obtain ⟨x0, hx0⟩ : ∃ x0, ts[0]? = some x0 := ⟨_, List.getElem?_eq_getElem (by rw [HTL.out]; exact H1.out.1)⟩
  obtain ⟨g, rfl, hg1, _⟩ := hO.get hx0
  have HG : Hid (w.heap.size ≤ g) := hg1
  have HO0 : Hid (w2.ownsRow w.heap.size 22 1 (.slice (some ⟨g, 0, none⟩) L C1) L (ucells (mp u ts 0))) := by
    unfold Hid; rw [mp_zero, ← HTL.out]; exact hO
  clear hx0 hg1 hO
  go_loopw [24] (fun v wr => ∃ k : Nat, v = .int .i64 (k : Int) ∧ k ≤ L ∧ Hid (wr.ownsRow w.heap.size 22 1 (.slice (some ⟨g, 0, none⟩) L C1) L (ucells (mp u ts k))) ∧ Below w.heap.size w wr) (fun v _ => L - (intOf v).toNat)
  case atStart => exact ⟨0, rfl, by omega, HO0, hB2⟩
  case round =>
    clear HO0 hB2
    obtain ⟨k, rfl, hk, HO, hB⟩ := hrel
    by_cases hlt : k < L
    · obtain ⟨x, hx⟩ : ∃ x, ts[k]? = some x := ⟨_, List.getElem?_eq_getElem (by rw [HTL.out]; exact hlt)⟩
      have hck : wr.cell? ⟨g, k, none⟩ = some (.int .u64 (x : Int)) := (World.ownsRow.cellAt HO.out k (by omega)).trans (ucells_get (by rw [mp_get]; exact hx))
      have hfk : wr.frozen? ⟨g, k, none⟩ = false := World.ownsRow.frozenAt HO.out k
      have HLx := HL'.out wr (hw.trans (hB.mono hw.size)) x (List.mem_of_getElem? hx)
      obtain ⟨hO3, hG3⟩ := World.ownsRow.stored HO.out k (.int .u64 ((u x : Nat) : Int))
      have HO3 : Hid ((wr.setCell ⟨g, k, none⟩ (.int .u64 ((u x : Nat) : Int))).ownsRow w.heap.size 22 1 (.slice (some ⟨g, 0, none⟩) L C1) L (ucells (mp u ts (k + 1)))) := by
        unfold Hid
        rw [← mp_set hx, ucells_set]; exact hO3
      have hB3 : Below w.heap.size w (wr.setCell ⟨g, k, none⟩ (.int .u64 ((u x : Nat) : Int))) := hB.setCell (p := ⟨g, k, none⟩) HG.out _
      obtain ⟨y, hy⟩ : ∃ y, u x = y := ⟨_, rfl⟩
      rw [hy] at HLx HO3 hB3
      have HB3 : Hid (Below w.heap.size w (wr.setCell ⟨g, k, none⟩ (.int .u64 (y : Int)))) := hB3
      clear hO3 hG3 HO hy hx hB3
      go_wp2_with (go_at_call 38; with_reducible refine AnsW.use0 HLx fun n2 => ?_)
      go_roundw
      case rel => exact ⟨k + 1, by go_num, by omega, HO3, below_dN HB3.out n2⟩
      case measure => simp [intOf]; omega
    · obtain rfl : k = L := by omega
      have HO4 : Hid (OwnU wr w.heap.size (some ⟨g, 0, none⟩) C1 (ts.map u)) := by
        unfold Hid OwnU; rw [← HMA.out, HMl'.out]; exact HO.out
      clear HO
      go_wp2
      go_ret2
      exact ⟨_, _, rfl, HO4.out, hB⟩
theorem lifted_yes (W : World) (b : Nat) (x : En) (F : FieldAt W b x) (hF : Fld x) (n : Nat) (h1 : 1 ≤ n) (h2 : n ≤ 4096) (hd : (x.p - 1) % n = 0) (i : Bool) : OwnT W 30 #[pt b, .int .i64 (n : Int), .bool i] ((pws (twR x n i) x.p n).map fun y => up y x.p) := by
  obtain ⟨h3, hodd, hlt⟩ := hF.num
  refine lifted_walk W b n i _ (fun y => up y x.p) (by rw [pws_len]; exact h1) (by rw [pws_len]; exact h2) (table_yes W b x F hF n h1 h2 hd i) fun wr hB y hy => ?_
  have := pws_lt (show 0 < x.p by omega) y hy
  exact fLift_any (F.below hB) y (by omega)

/-! ### The document's -/
set_option maxHeartbeats 1000000 in
theorem dTable_any (W : World) (y p n : Nat) (hy : y < 18446744073709551616) (h2 : 2 ≤ p) (hp : p < 18446744073709551616) (hn : n ≤ 4096) : OwnR W 33 #[.int .u64 (p : Int), .int .u64 (y : Int), .int .i64 (n : Int)] (pws y p n) := by
  intro w hw
  obtain ⟨ii, hii, hzi, hsi, hbi⟩ := info_parts infoWd
  rw [pws_len]
  have HM : Hid (n ≤ 4096) := hn
  have HS : Hid (∀ k, ucells (pws y p (k + 1)) = ucells (pws y p k) ++ [.int .u64 ((y ^ k % p : Nat) : Int)]) := fun k => by rw [pws_succ, ucells_snoc]
  have H0 : Hid (ucells (pws y p 0) = []) := rfl
  have hlenn : (n : Int) ≤ 9223372036854775807 := by omega
  have HP : Hid (1 % p = 1) := Nat.mod_eq_of_lt (by omega)
  have h0 : 1 < p := by omega
  go_enter Tryz.func33, Tryz.ntmps33
  go_wp2
  go_loopw [7, 8, 9] (fun out x v wr => ∃ c k : Nat, x = .int .u64 (c : Int) ∧ v = .int .i64 (k : Int) ∧ k ≤ n ∧ c < p ∧ Hid (c = y ^ k % p) ∧ Hid (wr.ownsRow w.heap.size 22 1 out k (ucells (pws y p k))) ∧ Below w.heap.size w wr) (fun _ _ v _ => n - (intOf v).toNat)
  case atStart => exact ⟨1, 0, rfl, rfl, by omega, h0, by unfold Hid; rw [Nat.pow_zero, HP.out], by unfold Hid; rw [H0.out]; exact World.ownsRow_nil _ _ _ _, Below.refl _ _⟩
  case round =>
    obtain ⟨c, k, rfl, rfl, hk, hc, HC, HO, hB⟩ := hrel
    by_cases hlt : k < n
    · have HQ := rmul_any c y p (by omega) (by omega) hp (by omega)
      obtain ⟨d, hd⟩ : ∃ d, c * y % p = d := ⟨_, rfl⟩
      rw [hd] at HQ
      have hdl : d < p := hd ▸ Nat.mod_lt _ (by omega)
      have HD : Hid (d = y ^ (k + 1) % p) := by unfold Hid; rw [← hd, HC.out, pw_next']
      have hO2 := World.ownsRow.alloc HO.out (.cells #[.int .u64 (c : Int)] 22)
      have hnews := one_new wr (.int .u64 (c : Int)) 22
      have hBa : Below w.heap.size w (wr.alloc (.cells #[.int .u64 (c : Int)] 22)) := bb hB (below_alloc _ _)
      have HX : Hid (ucells (pws y p (k + 1)) = ucells (pws y p k) ++ [.int .u64 (c : Int)]) := by unfold Hid; rw [HS.out, HC.out]
      have hkm : k ≤ 4096 := Nat.le_trans hk HM.out
      clear hd HO HC
      go_wp2_with (at_builtin; refine Hid.out ?_)
      unfold Hid
      refine (wpList_append_own _ rfl _ _ 26 rfl w.heap.size 22 ii _ 1 8 Tryz.underlying26 hii hzi hsi hbi rfl (by omega) _ k _ rfl hO2 ⟨wr.heap.size, 0, none⟩ 1 1 [.int .u64 (c : Int)] rfl rfl hnews (by simp [Value.oneCell']) (by unfold maxLen; omega) (by omega) hBa.size ?_)
      intro v' w5 hO3 hG _
      have HO3 : Hid (w5.ownsRow w.heap.size 22 1 v' (k + 1) (ucells (pws y p (k + 1)))) := by unfold Hid; rw [HX.out]; exact hO3
      have hB5 : Below w.heap.size w w5 := hBa.grown hG hBa.size (fun k hk => (hO2.lt k hk).1)
      clear hO3 hG hO2 hBa hnews hB HX hkm
      go_wp2_with (go_at_call 20; with_reducible refine Ans.use HQ _ fun n2 => ?_)
      go_roundw
      case rel => exact ⟨d, k + 1, rfl, by go_num, by omega, hdl, HD, by unfold Hid; exact HO3.out, below_dN hB5 n2⟩
      case measure => simp [intOf]; omega
    · obtain rfl : k = n := by omega
      obtain ⟨A1, C1, rfl⟩ : ∃ A1 C1, u7 = .slice A1 k C1 := by
        rcases HO.out.2 with ⟨hv, h0⟩ | ⟨g, cap, cur, hv, _⟩
        · exact ⟨none, 0, by rw [hv, h0]⟩
        · exact ⟨_, _, hv⟩
      have HO4 : Hid (OwnU wr w.heap.size A1 C1 (pws y p k)) := by
        unfold Hid OwnU; rw [pws_len]; exact HO.out
      clear HO HC
      go_wp2
      go_ret
      exact ⟨A1, C1, rfl, HO4.out, hB⟩
end Go.Proofs.YtphpllachnhfbaaGreat

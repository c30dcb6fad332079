/-
  What twiddle.powers and twiddle.Table answer: a new row. No condition but that the field lies there.
-/
import Derived.Test.YtphpllachnhfbaaGreatTw1
namespace Go.Proofs.YtphpllachnhfbaaGreat
set_option linter.unusedVariables false
open Go.RowKit

theorem pws_fl (y p n : Nat) : wfl 0 n n (fun i => y ^ i % p) = pws y p n := wfl_all 0 n _
set_option maxHeartbeats 1000000 in
theorem powers_any (W : World) (b : Nat) (x : En) (F : FieldAt W b x) (h3 : 3 ≤ x.p) (hlt : x.p < 9223372036854775808) (y n : Nat) (hy : y < 18446744073709551616) (hn : n ≤ 4096) : OwnR W 77 #[pt b, .int .u64 (y : Int), .int .i64 (n : Int)] (pws y x.p n) := by
  intro w hw
  obtain ⟨ii, hii, hzi, hsi, hbi⟩ := info_parts infoWd
  have Fw := F.below hw
  have HL := fLift_any Fw y hy
  have HT : ∀ (wr : World), Below w.heap.size w wr → ∀ c : Nat, c < x.p → AnsW wr 40 #[pt b, .int .u64 ((up y x.p : Nat) : Int), .int .u64 (c : Int)] (.int .u64 ((y * c % x.p : Nat) : Int)) := fun wr hB c hc => fTimes_lift (Fw.below hB) y c hy (by omega)
  rw [pws_len]
  have HF : Hid (wfl 0 n n (fun i => y ^ i % x.p) = pws y x.p n) := pws_fl y x.p n
  have HN : ∀ k c : Nat, c = y ^ k % x.p → y * c % x.p = y ^ (k + 1) % x.p := fun k c e => by rw [e, pw_next]
  obtain ⟨l, hl⟩ : ∃ l, up y x.p = l := ⟨_, rfl⟩
  rw [hl] at HL
  simp only [hl] at HT
  have HF1 : Hid (∀ k, k < n → (fun i => y ^ i % x.p) k = y ^ k % x.p) := fun _ _ => rfl
  obtain ⟨f, hf⟩ : ∃ f : Nat → Nat, (fun i => y ^ i % x.p) = f := ⟨_, rfl⟩
  have hft : ∀ k, y ^ k % x.p = f k := fun k => congrFun hf k
  have hf0 : Hid (f 0 = 1) := by unfold Hid; rw [← hft, Nat.pow_zero, Nat.mod_eq_of_lt (by omega)]
  have hfl : Hid (∀ k, f k < x.p) := fun k => by rw [← hft]; exact Nat.mod_lt _ (by omega)
  simp only [hft] at HN
  rw [hf] at HF
  obtain ⟨ts, hts⟩ : ∃ ts, pws y x.p n = ts := ⟨_, rfl⟩
  rw [hts] at HF ⊢
  obtain ⟨p, hp⟩ : ∃ p, x.p = p := ⟨_, rfl⟩
  rw [hp] at hlt hfl
  simp only [hp] at HT HN
  have HM : Hid (n ≤ 4096) := hn
  have HLT : Hid (p < 9223372036854775808) := hlt
  have HN' : Hid (∀ k c : Nat, c = f k → y * c % p = f (k + 1)) := HN
  clear hl hft hf hts hp h3 HF1 hlt HN
  go_enter Tryz.func77, Tryz.ntmps77
  go_wp2_with (first
    | (go_at_call 38; with_reducible refine AnsW.use0 HL fun n1 => ?_)
    | (at_make; refine Hid.out ?_))
  unfold Hid
  refine wpList_make_full _ rfl _ _ 26 rfl w.heap.size 22 ii _ 1 Tryz.underlying26 hii hzi hsi .i64 .i64 (n : Int) (n : Int) n rfl rfl rfl rfl (by have := HM.out; rw [hbi]; omega) (by have := HM.out; unfold maxLen; omega) (Nat.le_refl _) ?_
  intro w1 hR hG1
  obtain ⟨gc, hgc⟩ : ∃ gc, w.heap.size = gc := ⟨_, rfl⟩
  have HGC : Hid (w.heap.size = gc) := hgc
  have hR1 : w1.ownsRow w.heap.size 22 1 (.slice (some ⟨w.heap.size, 0, none⟩) n n) n (ucells (wfl 0 n 0 f)) := by
    have e : (madeCells (Value.int .u64 0).cells (n * 1)).toList = ucells (wfl 0 n 0 f) := by
      rw [made_list rfl, wfl_zero]; simp [ucells]
    rw [← e]; exact hR
  have hB1 : Below w.heap.size w w1 := bb (below_drewN w n1) ((Below.refl _ _).grown hG1 (Nat.le_refl _) (fun k ek => by cases ek))
  rw [show (Value.slice (some ⟨w.heap.size, 0, none⟩) n n) = .slice (some ⟨gc, 0, none⟩) n n by rw [hgc]] at hR1
  have HR2 : Hid (w1.ownsRow w.heap.size 22 1 (.slice (some ⟨gc, 0, none⟩) n n) n (ucells (wfl 0 n 0 f))) := hR1
  have e1 : (w.drewN n1).heap.size = gc := hgc
  rw [e1]
  have h0p : (1 : Nat) < p := by
    have := hfl.out 0; rw [hf0.out] at this; omega
  have hlenn : (n : Int) ≤ 9223372036854775807 := by omega
  clear hR hR1 hG1 hgc e1 hn
  go_wp2
  go_loopw [9, 18] (fun x v wr => ∃ c k : Nat, x = .int .u64 (c : Int) ∧ v = .int .i64 (k : Int) ∧ k ≤ n ∧ c < p ∧ Hid (c = f k) ∧ Hid (wr.ownsRow w.heap.size 22 1 (.slice (some ⟨gc, 0, none⟩) n n) n (ucells (wfl 0 n k f))) ∧ Below w.heap.size w wr) (fun _ v _ => n - (intOf v).toNat)
  case atStart => exact ⟨1, 0, rfl, rfl, by omega, h0p, hf0.out.symm, HR2, hB1⟩
  case round =>
    clear HR2 hB1
    obtain ⟨c, k, rfl, rfl, hk, hc, HC, HO, hB⟩ := hrel
    by_cases hlt : k < n
    · have hck : wr.cell? ⟨gc, k, none⟩ = some (.int .u64 0) := (World.ownsRow.cellAt HO.out k (by omega)).trans (by unfold ucells; rw [List.getElem?_map, wfl_get 0 f hlt, if_neg (by omega)]; rfl)
      have hfk : wr.frozen? ⟨gc, k, none⟩ = false := World.ownsRow.frozenAt HO.out k
      obtain ⟨hO3, hG3⟩ := World.ownsRow.stored HO.out k (.int .u64 ((f k : Nat) : Int))
      have HO3 : Hid ((wr.setCell ⟨gc, k, none⟩ (.int .u64 (c : Int))).ownsRow w.heap.size 22 1 (.slice (some ⟨gc, 0, none⟩) n n) n (ucells (wfl 0 n (k + 1) f))) := by
        unfold Hid
        rw [← wfl_set, ucells_set, HC.out]; exact hO3
      have hB3 : Below w.heap.size w (wr.setCell ⟨gc, k, none⟩ (.int .u64 (c : Int))) := hB.setCell (p := ⟨gc, k, none⟩) (by rw [HGC.out]; exact Nat.le_refl _) _
      have HTk := HT _ hB3 c hc
      have hd := HN'.out k c HC.out
      obtain ⟨d, hdd⟩ : ∃ d, y * c % p = d := ⟨_, rfl⟩
      rw [hdd] at HTk hd
      have hdl : d < p := by rw [hd]; exact hfl.out _
      have HD : Hid (d = f (k + 1)) := hd
      obtain ⟨V, hV⟩ : ∃ V, wr.setCell ⟨gc, k, none⟩ (.int .u64 (c : Int)) = V := ⟨_, rfl⟩
      rw [hV] at HO3 hB3 HTk
      clear hO3 hG3 HO hd hdd HC HT
      go_wp2_with (go_at_call 40; with_reducible refine AnsW.use0 HTk fun n2 => ?_)
      go_roundw
      case rel => exact ⟨d, k + 1, rfl, by go_num, by omega, hdl, HD, by unfold Hid; exact HO3.out, below_dN hB3 n2⟩
      case measure => simp [intOf]; omega
    · obtain rfl : k = n := by omega
      have HO4 : Hid (OwnU wr w.heap.size (some ⟨gc, 0, none⟩) k ts) := by
        unfold Hid OwnU; rw [← HF.out, wfl_len]; exact HO.out
      clear HO
      go_wp2
      go_ret
      exact ⟨_, _, rfl, HO4.out, hB⟩
theorem table_err (w : World) (v : Option Addr) (z r e : Int) (i : Bool) (he : (e != 0) = true) (HR : AnsW w 76 #[.pointer v, .int .i64 z, .bool i] (.tuple #[.int .u64 r, .int .i64 e])) : AnsW w 53 #[.pointer v, .int .i64 z, .bool i] (.tuple #[.slice none 0 0, .int .i64 e]) := by
  intro n
  go_enter Tryz.func53, Tryz.ntmps53
  go_wp2_with (go_at_call 76; with_reducible refine AnsW.use HR _ fun n1 => ?_)
  go_ret2
  exact ⟨rfl, _, rfl⟩
set_option maxHeartbeats 1000000 in
theorem table_walk (W : World) (v : Option Addr) (z r : Int) (i : Bool) (l : List Nat) (HR : ∀ w, Below W.heap.size W w → AnsW w 76 #[.pointer v, .int .i64 z, .bool i] (.tuple #[.int .u64 r, .int .i64 0])) (HP : OwnR W 77 #[.pointer v, .int .u64 r, .int .i64 z] l) : OwnT W 53 #[.pointer v, .int .i64 z, .bool i] l := by
  intro w hw
  have HR1 := HR w hw
  clear HR
  go_enter Tryz.func53, Tryz.ntmps53
  go_wp2_with (first
    | (go_at_call 76; with_reducible refine AnsW.use0 HR1 fun n1 => ?_)
    | (go_at_call 77; with_reducible refine OwnR.use HP (bb hw (below_drewN w n1)) fun A1 C1 w2 hO hB => ?_))
  go_ret2
  exact ⟨A1, C1, rfl, hO, bb (below_drewN w n1) hB⟩
theorem table_yes (W : World) (b : Nat) (x : En) (F : FieldAt W b x) (hF : Fld x) (n : Nat) (h1 : 1 ≤ n) (h2 : n ≤ 4096) (hd : (x.p - 1) % n = 0) (i : Bool) : OwnT W 53 #[pt b, .int .i64 (n : Int), .bool i] (pws (twR x n i) x.p n) := by
  obtain ⟨h3, hodd, hlt⟩ := hF.num
  have := twR_lt hF n i
  exact table_walk W _ _ _ i _ (fun w hw => tRoot_yes (F.below hw) hF n h1 h2 hd i) (powers_any W b x F h3 hlt _ n (by omega) h2)
end Go.Proofs.YtphpllachnhfbaaGreat

/-
  What coprime.Out answers: the places of numbers. No condition.
-/
import Derived.Test.YtpjfapibjihbbaaCp3
import Derived.Test.YtpjfapibjihbbaaF1
namespace Go.Proofs.Ytpjfapibjihbbaa
set_option linter.unusedVariables false
open Go.RowKit Go.Maps Go.WideMaps

theorem out_no (W : World) (a b : Int) (h : tabQ a b = false) : AnsB W 9 #[.int .i64 a, .int .i64 b] (.slice none 0 0) := by
  intro w hw
  have HI := ctab_any a b
  rw [h] at HI
  go_enter Try.func9, Try.ntmps9
  go_wp2_with (go_at_call 13; with_reducible refine Ans.use HI _ fun n2 => ?_)
  go_ret
  exact ⟨rfl, below_drewN _ _⟩
theorem ouL_lt {a b : Nat} (hT : Tab a b) : ∀ z ∈ ints (ouL a b), I64 z := fun z hz => by
  obtain ⟨r, hr, rfl⟩ := List.mem_map.1 hz
  obtain ⟨k, _, rfl⟩ := List.mem_map.1 hr
  have := ouS_lt (a := a) (b := b) (by have := hT.a2; omega) (by have := hT.b2; omega) k
  have := hT.max
  exact i64_small (by omega)
theorem zcells_at' {zs : List Int} {j : Nat} {z : Int} (h : zs[j]? = some z) : (zcells zs)[j]? = some (.int .i64 z) := by unfold zcells; rw [List.getElem?_map, h]; rfl
theorem zcells_set (zs : List Int) (k : Nat) (z : Int) : zcells (zs.set k z) = (zcells zs).set k (.int .i64 z) := by simp [zcells, List.map_set]
/-- A look-up in the map, as the walk meets it. -/
theorem pmap_look {w : World} {g n b K i j : Nat} (h : PMap w g n b K) (hi : i ≤ 1024) (hj : j < b) (hj2 : j ≤ 1024) (hK : i * b + j < K) :
    ∀ x : Nat, (Instr.lookup 32 (.map (some g)) (.agg #[.int .i64 (i : Int), .int .i64 (j : Int)]) false).run Try.prog (w.drewN x) = .ok (.int .i64 ((i * b + j : Nat) : Int)) (w.drewN x) := by
  intro x
  obtain ⟨D, hown, ha⟩ := h
  have hown' : (w.drewN x).ownsMap Try.prog 35 (plainElem Try.prog 3) g n D := hown
  obtain ⟨c, hrun, hat, _⟩ := hown'.lookup_int pairKeyed Try.underlying32 Try.underlying3 (by kernel_rfl) (keyOf_P hi (by omega : j ≤ 1024))
  rw [ha i j hi hj hj2, if_pos hK] at hat
  simp only [DataW.lit.injEq, Lit.int.injEq, true_and] at hat
  rw [hrun, ← hat]

set_option maxRecDepth 100000 in
set_option maxHeartbeats 2000000 in
/-- Out, of a table. -/
theorem out_yes (W : World) {a b : Nat} (hT : Tab a b) : NewRow W 9 #[.int .i64 (a : Int), .int .i64 (b : Int)] (ints (ouL a b)) := by
  intro w hw
  obtain ⟨ii, hii, hzi, hsi, hbi⟩ := info_parts infoZ
  have HI := ctab_any a b
  rw [hT.q] at HI
  have HC := fun w => count_any hT w
  obtain ⟨hal, hbl⟩ := hT.le
  have HT : Hid (Tab a b) := hT
  have hT2 := hT.max
  have ha2 := hT.a2
  have hb2 := hT.b2
  have ha0 : ¬ (a : Int) = 0 := by omega
  have hb0 : ¬ (b : Int) = 0 := by omega
  obtain ⟨n, hn⟩ : ∃ n, a * b = n := ⟨_, rfl⟩
  have hm := mulW hn (by omega)
  have hn1 : n ≤ 1024 := by omega
  rw [hn] at HC
  have HN : Hid (a * b = n) := hn
  have HCu : Hid (∀ (w1 : World) {R : Ending → World → Prop}, (∀ w', PMap w' w1.heap.size 1025 b n → Below w1.heap.size w1 w' → R (.returned (.map (some w1.heap.size))) w') → Calls Try.prog 14 #[.int .i64 (a : Int), .int .i64 (b : Int)] w1 R) :=
    fun w1 R k => (HC w1).mono fun _ _ ⟨he, h1, h2⟩ => by subst he; exact k _ h1 h2
  clear hT hT2 hn hw HC
  go_enter Try.func9, Try.ntmps9
  go_wp2_with (first
    | (go_at_call 13; with_reducible refine Ans.use HI _ fun n2 => ?_)
    | (go_at_call 14; with_reducible refine HCu.out _ fun w1 hM1 hb1 => ?_)
    | (at_make; refine Hid.out ?_))
  unfold Hid
  have hB1 : Below w.heap.size w w1 := bb (below_drewN w n2) hb1
  have hM0 : PMap w1 w.heap.size 1025 b n := hM1
  obtain ⟨gm, hgm⟩ : ∃ gm, w.heap.size = gm := ⟨_, rfl⟩
  have HGM : Hid (w.heap.size = gm) := hgm
  clear hM1
  have hM1 : PMap w1 gm 1025 b n := hgm ▸ hM0
  rw [show Value.map (some w.heap.size) = Value.map (some gm) by rw [hgm]]
  have hgl : gm < w1.heap.size := by obtain ⟨D, hown, _⟩ := hM1; exact hown.lt
  have HM1 : Hid (PMap w1 gm 1025 b n) := hM1
  clear hgm hM0 hM1 hb1 HCu HI
  refine wpList_make_full _ rfl _ _ 24 rfl w1.heap.size 3 ii _ 1 Try.underlying24 hii hzi hsi .i64 .i64 _ _ n rfl rfl hm hm (by rw [hbi]; omega) (by unfold maxLen; omega) (Nat.le_refl _) ?_
  intro w2 hR hG2
  have HS0 := wfl_zero (0 : Nat) n (ouS a b)
  have hR2 : w2.ownsRow w1.heap.size 3 1 (.slice (some ⟨w1.heap.size, 0, none⟩) n n) n (zcells (ints (wfl 0 n 0 (ouS a b)))) := by
    have e : (madeCells (Value.int .i64 0).cells (n * 1)).toList = zcells (ints (wfl 0 n 0 (ouS a b))) := by
      rw [made_list rfl, HS0]; simp [zcells, ints]
    rw [← e]; exact hR
  have hB2 : Below w.heap.size w w2 := hB1.grown hG2 hB1.size (fun k ek => by cases ek)
  have HM2 : Hid (PMap w2 gm 1025 b n) := HM1.out.kept hG2 (by simp)
  obtain ⟨gc, hgc⟩ : ∃ gc, w1.heap.size = gc := ⟨_, rfl⟩
  rw [hgc] at hR2 hgl
  rw [show (Value.slice (some ⟨w1.heap.size, 0, none⟩) n n) = .slice (some ⟨gc, 0, none⟩) n n by rw [hgc]]
  have HGC : Hid (w.heap.size ≤ gc) := by unfold Hid; rw [← hgc]; exact hB1.size
  have HR2 : Hid (w2.ownsRow gc 3 1 (.slice (some ⟨gc, 0, none⟩) n n) n (zcells (ints (wfl 0 n 0 (ouS a b))))) := hR2
  clear hR hR2 hG2 hgc HS0 HM1 hB1
  go_wp2
  go_loopw [21] (fun v wr => ∃ k : Nat, v = .int .i64 (k : Int) ∧ k ≤ n ∧ Hid (wr.ownsRow gc 3 1 (.slice (some ⟨gc, 0, none⟩) n n) n (zcells (ints (wfl 0 n k (ouS a b))))) ∧ Hid (PMap wr gm 1025 b n) ∧ Below w.heap.size w wr) (fun v _ => n - (intOf v).toNat)
  case atStart => exact ⟨0, rfl, by omega, HR2, HM2, hB2⟩
  case round =>
    clear HR2 hB2 HM2
    obtain ⟨k, rfl, hk, HO, HM, hB⟩ := hrel
    by_cases hlt : k < n
    · obtain ⟨i, hi⟩ : ∃ i, k % a = i := ⟨_, rfl⟩
      obtain ⟨j, hj⟩ : ∃ j, k % b = j := ⟨_, rfl⟩
      have hia : i < a := by rw [← hi]; exact Nat.mod_lt _ (by omega)
      have hjb : j < b := by rw [← hj]; exact Nat.mod_lt _ (by omega)
      have him : Int.tmod (k : Int) (a : Int) = (i : Int) := by rw [← hi]; rfl
      have hjm : Int.tmod (k : Int) (b : Int) = (j : Int) := by rw [← hj]; rfl
      obtain ⟨x, hx⟩ : ∃ x, i * b + j = x := ⟨_, rfl⟩
      have hxn : x < n := by rw [← hx, ← HN.out]; exact place_lt hia hjb
      have hlook := pmap_look HM.out (by omega) hjb (by omega) (show i * b + j < n by rw [hx]; exact hxn)
      rw [hx] at hlook
      have hxo : ouS a b k = x := by unfold ouS; rw [hi, hj, hx]
      obtain ⟨y, hy⟩ : ∃ y, (ints (wfl 0 n k (ouS a b)))[k]? = some y := ⟨_, List.getElem?_eq_getElem (by rw [ints_len, wfl_len]; exact hlt)⟩
      have hck : wr.cell? ⟨gc, k, none⟩ = some (.int .i64 y) := (World.ownsRow.cellAt HO.out k (by omega)).trans (zcells_at' hy)
      have hfz : wr.frozen? ⟨gc, k, none⟩ = false := World.ownsRow.frozenAt HO.out k
      obtain ⟨hO3, hG3⟩ := World.ownsRow.stored HO.out k (.int .i64 (x : Int))
      have hne : gm ≠ gc := by omega
      have HO3 : Hid (∀ m, ((wr.drewN m).setCell ⟨gc, k, none⟩ (.int .i64 (x : Int))).ownsRow gc 3 1 (.slice (some ⟨gc, 0, none⟩) n n) n (zcells (ints (wfl 0 n (k + 1) (ouS a b))))) := by
        intro m
        have e : zcells (ints (wfl 0 n (k + 1) (ouS a b))) = (zcells (ints (wfl 0 n k (ouS a b)))).set k (.int .i64 (x : Int)) := by
          rw [← wfl_set, hxo, ← zcells_set]; simp [ints, List.map_set]
        rw [e]; exact hO3
      have HM3 : Hid (∀ m, PMap ((wr.drewN m).setCell ⟨gc, k, none⟩ (.int .i64 (x : Int))) gm 1025 b n) := fun m => by
        have h1 : PMap (wr.drewN m) gm 1025 b n := HM.out
        exact h1.kept (grownBy_set _ gc k _) (by simpa using hne)
      have HB3 : Hid (∀ m, Below w.heap.size w ((wr.drewN m).setCell ⟨gc, k, none⟩ (.int .i64 (x : Int)))) := fun m => (bb hB (below_drewN wr m)).setCell (p := ⟨gc, k, none⟩) HGC.out _
      clear hO3 hG3 HO HM hy hi hj hx hxo
      go_wp2
      refine wp_region_tail_lit 12 (by kernel_rfl) (by kernel_rfl) ?_
      simp only [List.take_succ_cons, List.take_zero, List.drop_succ_cons, List.drop_zero]
      repeat (go_big_quiet_step (fail))
      refine wpQuiet_nil ?_
      rintro _ ⟨n9, rfl⟩
      clear hlook
      all_goals go_wp2
      all_goals go_roundw
      case rel => exact ⟨k + 1, by go_num, by omega, HO3.out _, HM3.out _, HB3.out _⟩
      case measure => simp [intOf]; omega
    · obtain rfl : k = n := by omega
      have HO4 := HO.out
      rw [wfl_all] at HO4
      have hil : (ints (ouL a b)).length = k := by rw [ints_len, ouL_len]; exact HN.out
      have hO5 : wr.ownsRow gc 3 1 (.slice (some ⟨gc, 0, none⟩) k k) (ints (ouL a b)).length (zcells (ints (ouL a b))) := by
        rw [hil]
        unfold ouL
        rw [HN.out]
        exact HO4
      obtain ⟨A1, C1, hv, hz⟩ := own_ints hO5 (ouL_lt HT.out)
      rw [hil] at hv
      simp only [Value.slice.injEq, true_and] at hv
      obtain ⟨rfl, rfl⟩ := hv
      have HZ1 : Hid (ZAt wr (some ⟨gc, 0, none⟩) k (ints (ouL a b))) := hz
      have HIL : Hid ((ints (ouL a b)).length = k) := hil
      clear HO HO4 hO5 hz HM hil
      go_wp2
      go_ret
      exact ⟨_, _, by rw [HIL.out]; rfl, HZ1.out, hB⟩
end Go.Proofs.Ytpjfapibjihbbaa

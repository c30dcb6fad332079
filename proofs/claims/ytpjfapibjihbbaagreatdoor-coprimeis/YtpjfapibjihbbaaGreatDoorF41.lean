/-
  What mixed's sum answers: of all of a row, the k-th one times the root's power by k times as much. No condition but that the field, the row and the table lie there.
-/
import Derived.Test.YtpjfapibjihbbaaGreatDoorF40
import Derived.Test.YtpjfapibjihbbaaGreatDoorF39
import Derived.Test.YtpjfapibjihbbaaGreatDoorF37
import Derived.Test.YtpjfapibjihbbaaGreatDoorF35
import Derived.Test.YtpjfapibjihbbaaGreatDoorF28
import Derived.Test.YtpjfapibjihbbaaGreatDoorF36
namespace Go.Proofs.YtpjfapibjihbbaaGreatDoor
set_option linter.unusedVariables false
open Go.RowKit

theorem exp_lt {n : Nat} (hn : 1 ≤ n) (e : Nat) : e % n < n := Nat.mod_lt _ (by omega)
theorem addM {e b n f : Nat} (h : (e + b) % n = f) : Int.tmod ((e : Int) + (b : Int)) (n : Int) = (f : Int) := by rw [← Int.natCast_add, ← h]; rfl
theorem addW {e b : Nat} (h : e + b ≤ 16777216) : wrap64 ((e : Int) + (b : Int)) = (e : Int) + (b : Int) ∧ IntKind.i64.wrap ((e : Int) + (b : Int)) = (e : Int) + (b : Int) := by
  rw [← Int.natCast_add]; exact ⟨wrN h, wrI h⟩
set_option maxRecDepth 100000 in
set_option maxHeartbeats 2000000 in
theorem msum_any {W : World} {b : Nat} {x : En} (F : FieldAt W b x) (hF : Fld x) {n r s v : Nat} {B : Option Addr} {D : Nat} (hn1 : 1 ≤ n) (hn : n ≤ 4096) (hr : r ≤ 7) (hs : s ≤ 4096) (ho : OrdN v x.p n)
    (hL : UAt W B D ((pws v x.p n).map fun y => up y x.p)) {bx : Nat} {y : Nat → Nat} (hbx : bx < W.heap.size) (hc : ∀ u, u < r → W.cell? ⟨bx, u, none⟩ = some (.int .u64 (y u : Int))) (hy : ∀ u, u < r → y u < x.p) :
    AnsB W 136 #[.agg #[pt b, .slice B n D], .slice (some ⟨bx, 0, none⟩) r r, .int .i64 (s : Int)] (.int .u64 (smT x.p v s y r : Int)) := by
  intro w hw
  obtain ⟨h3, hodd, hlt⟩ := hF.num
  have hp : 2 ≤ x.p := by omega
  have hll : ((pws v x.p n).map fun y => up y x.p).length = n := by rw [List.length_map, pws_len]
  have HT : Hid (∀ w, Below W.heap.size W w → ∀ k l z : Nat, ((pws v x.p n).map fun y => up y x.p)[k]? = some l → z < x.p → AnsW w 109 #[pt b, .int .u64 (l : Int), .int .u64 (z : Int)] (.int .u64 ((v ^ k % x.p * z % x.p : Nat) : Int))) := fun w hw k l z hl hz => by
    rw [tab_at hl]
    have := Nat.mod_lt (v ^ k) (show 0 < x.p by omega)
    exact fTimes_lift (F.below hw) _ _ (by omega) (by omega)
  have HA : Hid (∀ w, Below W.heap.size W w → ∀ t z : Nat, t < x.p → z < x.p → AnsW w 110 #[pt b, .int .u64 (t : Int), .int .u64 (z : Int)] (.int .u64 (((t + z) % x.p : Nat) : Int))) := fun w hw t z ht hz =>
    fAdd_any (F.below hw) _ _ (by omega) (by omega)
  have HST : Hid (∀ k, (smT x.p v s y k + v ^ (k * s % n) % x.p * y k % x.p) % x.p = smT x.p v s y (k + 1)) := fun k => smT_step hp ho s y k
  have HSL : Hid (∀ k, smT x.p v s y k < x.p) := fun k => smT_lt (by omega) _ _ _ _
  have HTL : Hid (∀ z, z % x.p < x.p) := fun z => Nat.mod_lt _ (by omega)
  have HY : Hid (∀ u, u < r → W.cell? ⟨bx, u, none⟩ = some (.int .u64 (y u : Int)) ∧ y u < x.p) := fun u hu => ⟨hc u hu, hy u hu⟩
  have h0 := smT_zero x.p v s y (by omega)
  obtain ⟨ls, hls⟩ : ∃ ls, ((pws v x.p n).map fun y => up y x.p) = ls := ⟨_, rfl⟩
  rw [hls] at hL hll HT
  obtain ⟨S, hS⟩ : ∃ S : Nat → Nat, (fun k => smT x.p v s y k) = S := ⟨_, rfl⟩
  have hSS : ∀ k, smT x.p v s y k = S k := fun k => congrFun hS k
  simp only [hSS] at HST HSL h0 ⊢
  obtain ⟨p, hpp⟩ : ∃ p, x.p = p := ⟨_, rfl⟩
  rw [hpp] at HT HA HST HSL HTL HY
  obtain ⟨bl, ol, rfl⟩ := hL.addr (by omega)
  have HU : Hid (UAt W (some ⟨bl, ol, none⟩) D ls) := hL
  have HN : Hid (1 ≤ n ∧ n ≤ 4096 ∧ s ≤ 4096 ∧ ls.length = n ∧ bx < W.heap.size) := ⟨hn1, hn, hs, hll, hbx⟩
  have hnN : ¬ (n : Int) = 0 := by omega
  have hlen : (n : Int) ≤ 9223372036854775807 := by omega
  have hlenr : (r : Int) ≤ 9223372036854775807 := by omega
  -- the box
  obtain ⟨bo, hbo⟩ : ∃ b, w.heap.size = b := ⟨_, rfl⟩
  have C0 := CAt.new w #[pt b, .slice (some ⟨bl, ol, none⟩) n D] 129
  obtain ⟨X, hX⟩ : ∃ X, w.alloc (.cells #[pt b, .slice (some ⟨bl, ol, none⟩) n D] 129) = X := ⟨_, rfl⟩
  have hB : Below w.heap.size w X := hX ▸ below_alloc _ _
  rw [hX, hbo] at C0
  have HC0 : Hid (CAt X bo [pt b, .slice (some ⟨bl, ol, none⟩) n D]) := C0
  have HBX : Hid (Below w.heap.size w X) := hB
  have HW : Hid (Below W.heap.size W w) := hw
  clear F hF hn1 hn hr hs ho hL hbx hc hy hw h3 hodd hlt hp hll hls hS hSS hpp C0 hB
  go_enter Tryz.func136, Tryz.ntmps136
  go_wp2
  go_loopw [7, 8, 13] (fun t e i wr => ∃ k : Nat, t = .int .u64 (S k : Int) ∧ e = .int .i64 ((k * s % n : Nat) : Int) ∧ i = .int .i64 (k : Int) ∧ k ≤ r ∧ Hid (Below X.heap.size X wr)) (fun _ _ i _ => r - (intOf i).toNat)
  case atStart => exact ⟨0, by rw [h0]; rfl, by rw [Nat.zero_mul, Nat.zero_mod]; rfl, rfl, by omega, Below.refl _ _⟩
  case round =>
    obtain ⟨k, rfl, rfl, rfl, hk, HB⟩ := hrel
    by_cases hlt : k < r
    · have HWr : Hid (Below W.heap.size W wr) := bb (bb HW.out HBX.out) HB.out
      have hN := HN.out
      have he := exp_lt hN.1 (k * s)
      have hstep := exp_step k s n
      have hst := HST.out k
      obtain ⟨e, hee⟩ : ∃ e, k * s % n = e := ⟨_, rfl⟩
      rw [hee] at he hstep hst ⊢
      obtain ⟨f, hf⟩ : ∃ f, (k + 1) * s % n = f := ⟨_, rfl⟩
      have HF : Hid ((k + 1) * s % n = f) := hf
      rw [hf] at hstep
      obtain ⟨l, hl⟩ : ∃ l, ls[e]? = some l := ⟨_, List.getElem?_eq_getElem (by omega)⟩
      obtain ⟨cy, hyl⟩ := HY.out k hlt
      have d0 := ((bcell HWr.out).1 bx k hN.2.2.2.2).trans cy
      have d1 := ((bcell HWr.out).1 bl (ol + e) (HU.out.at hl).2.2).trans (HU.out.at hl).1
      have C1 := HC0.out.kg (Kg.of (g := bo + 1) HB.out) (by omega)
      have e00 := C1.2 0 _ rfl
      have e01 := C1.2 1 _ rfl
      obtain ⟨y0, hy0⟩ : ∃ y0, y k = y0 := ⟨_, rfl⟩
      rw [hy0] at d0 hyl hst
      obtain ⟨t1, ht1⟩ : ∃ t1, v ^ e % p * y0 % p = t1 := ⟨_, rfl⟩
      have T1 := HT.out wr HWr.out e l y0 hl hyl
      have t1l := HTL.out (v ^ e % p * y0)
      have hsl := HSL.out k
      rw [ht1] at T1 t1l hst
      obtain ⟨S0, hS0⟩ : ∃ S0, S k = S0 := ⟨_, rfl⟩
      rw [hS0] at hst hsl ⊢
      have A1 := HA.out wr HWr.out S0 t1 hsl t1l
      rw [hst] at A1
      obtain ⟨S1, hS1⟩ : ∃ S1, S (k + 1) = S1 := ⟨_, rfl⟩
      have HS1 : Hid (S (k + 1) = S1) := hS1
      rw [hS1] at A1
      have hes : e + s ≤ 16777216 := by omega
      have hfl : f < n := by rw [← hf]; exact exp_lt hN.1 _
      have hn2 := hN.2.1
      have l1 : (e : Int) < (n : Int) := by omega
      have l2 : (k : Int) < (r : Int) := by omega
      have w3 := addM hstep
      have w1 := (addW hes).1
      have w4 : wrap64 (f : Int) = (f : Int) := wrL hfl hn2
      clear hN he hstep hst hee hf hl cy hyl C1 hy0 ht1 t1l hsl hS0 hS1 hfl hes hn2
      go_wp2
      go_quiet ((first | (go_at_call 110; with_reducible first | exact AnsW.quiet0 A1 | exact AnsW.quiet A1) | (go_at_call 109; with_reducible first | exact AnsW.quiet0 T1 | exact AnsW.quiet T1)))
      obtain ⟨m1, rfl⟩ : ∃ x, x = nq := ⟨_, rfl⟩
      have HB2 : Hid (Below X.heap.size X (wr.drewN m1)) := bb HB.out (below_drewN _ _)
      clear T1 A1 d0 d1 HB HWr
      go_wp2
      go_roundw
      case rel => exact ⟨k + 1, by rw [HS1.out], by rw [HF.out], by go_num, by omega, HB2⟩
      case measure => simp [intOf]; omega
    · obtain rfl : k = r := by omega
      have HB3 : Hid (Below w.heap.size w wr) := bb HBX.out HB.out
      clear HB
      go_wp2
      go_ret
      exact ⟨rfl, HB3.out⟩
end Go.Proofs.YtpjfapibjihbbaaGreatDoor
/-
  What mixed.Radices answers, and the document's. No condition but that the program's four factors lie there.
-/
namespace Go.Proofs.YtpjfapibjihbbaaGreatDoor
set_option linter.unusedVariables false
open Go.RowKit

/-! ### The radices of a number -/
open Classical in
/-- The radices of a number from 1 to 1024, if there are such. -/
noncomputable def radV (z : Int) : Option (List Nat) := if h : ∃ l, z ≤ 1024 ∧ 0 ≤ z ∧ IsRad z.toNat l then some h.choose else none
theorem radV_yes {n : Nat} {l : List Nat} (hn : n ≤ 1024) (h : IsRad n l) : radV (n : Int) = some l := by
  have hx : ∃ l, (n : Int) ≤ 1024 ∧ 0 ≤ (n : Int) ∧ IsRad (n : Int).toNat l := ⟨l, by omega, by omega, h⟩
  unfold radV
  rw [dif_pos hx]
  congr 1
  exact IsRad.eq hx.choose_spec.2.2 h
theorem radV_is {z : Int} {l : List Nat} (h : radV z = some l) : ∃ n : Nat, z = (n : Int) ∧ 1 ≤ n ∧ n ≤ 1024 ∧ IsRad n l := by
  unfold radV at h
  split at h
  · rename_i hx
    cases h
    obtain ⟨h1, h2, h3⟩ := hx.choose_spec
    exact ⟨z.toNat, by omega, h3.pos, by omega, h3⟩
  · cases h
theorem radV_no {n : Nat} (h : ∀ l, ¬ IsRad n l) : radV (n : Int) = none := by
  unfold radV
  rw [dif_neg]
  rintro ⟨l, _, _, hl⟩
  exact h l hl
theorem radV_out {z : Int} (h : z < 1 ∨ 1024 < z) : radV z = none := by
  cases hr : radV z with
  | none => rfl
  | some l =>
    obtain ⟨n, rfl, h1, h2, _⟩ := radV_is hr
    exfalso; omega
theorem IsRad.rad {n : Nat} {l : List Nat} (h : IsRad n l) (hn : n ≤ 1024) : Rad l :=
  ⟨by have := h.ten hn; omega, fun r hr => (h.mem r hr).two, by rw [h.prod]; omega⟩
theorem RadSt.ten {n : Nat} {l : List Nat} {m : Nat} (h : RadSt n l m) (hn : n ≤ 1024) (hm : 1 ≤ m) : l.length ≤ 10 := by
  have h1 := pr_two_le h.mem
  have h2 : pr l ≤ n := by rw [← h.prod]; exact Nat.le_mul_of_pos_right _ (by omega)
  exact (Nat.pow_le_pow_iff_right (a := 2) (by omega)).1 (Nat.le_trans h1 (show pr l ≤ 2 ^ 10 by omega))
/-- The factors, and what comes behind. -/
def fc (k : Nat) : Nat := if k = 0 then 2 else if k = 1 then 3 else if k = 2 then 5 else if k = 3 then 7 else 8
theorem fc_in (k : Nat) : 2 ≤ fc k ∧ fc k ≤ 8 := by unfold fc; split <;> (try split) <;> (try split) <;> (try split) <;> omega
theorem fc_lt {k : Nat} (h : k < 4) : fc k ≤ 7 := by
  match k, h with
  | 0, _ => decide
  | 1, _ => decide
  | 2, _ => decide
  | 3, _ => decide
theorem fc_next {k m : Nat} (h : k < 4) (hl : ∀ q, 2 ≤ q → q < fc k → m % q ≠ 0) (hm : m % fc k ≠ 0) : ∀ q, 2 ≤ q → q < fc (k + 1) → m % q ≠ 0 := by
  intro q h2 hq
  match k, h with
  | 0, _ =>
    have hq' : q < 3 := hq
    have hm' : m % 2 ≠ 0 := hm
    obtain rfl : q = 2 := by omega
    exact hm'
  | 1, _ =>
    have hq' : q < 5 := hq
    have hm' : m % 3 ≠ 0 := hm
    have h3 := hl 2 (by omega) (show 2 < 3 by omega)
    rcases (show q = 2 ∨ q = 3 ∨ q = 4 by omega) with e | e | e <;> subst e <;> omega
  | 2, _ =>
    have hq' : q < 7 := hq
    have hm' : m % 5 ≠ 0 := hm
    have h3 := hl 2 (by omega) (show 2 < 5 by omega)
    by_cases h5 : q < 5
    · exact hl q h2 h5
    · rcases (show q = 5 ∨ q = 6 by omega) with e | e <;> subst e <;> omega
  | 3, _ =>
    have hq' : q < 8 := hq
    have hm' : m % 7 ≠ 0 := hm
    by_cases h5 : q < 7
    · exact hl q h2 h5
    · obtain rfl : q = 7 := by omega
      exact hm'

/-! ### The calls -/
/-- A call that answers the radices. -/
def RadY (W : World) (f : FuncId) (z : Int) (l : List Nat) : Prop := ∀ w, Below W.heap.size W w → Calls Tryz.prog f #[.int .i64 z] w fun e w' => ∃ A C, e = .returned (.tuple #[.slice A l.length C, .bool true]) ∧ ZAt w' A C (ints l) ∧ Below w.heap.size w w'
theorem RadY.use {W : World} {f : FuncId} {z : Int} {l : List Nat} (h : RadY W f z l) {w : World} (hw : Below W.heap.size W w) {R : Ending → World → Prop} (k : ∀ A C w', ZAt w' A C (ints l) → Below w.heap.size w w' → R (.returned (.tuple #[.slice A l.length C, .bool true])) w') : Calls Tryz.prog f #[.int .i64 z] w R :=
  (h w hw).mono fun _ _ ⟨A, C, he, h1, h2⟩ => by subst he; exact k _ _ _ h1 h2
/-- .. or that there are none. -/
def RadN (W : World) (f : FuncId) (z : Int) : Prop := AnsB W f #[.int .i64 z] (.tuple #[.slice none 0 0, .bool false])
/-- The program's four factors. -/
structure FacG (w : World) : Prop where
  at_ : ∀ k, k < 4 → w.cell? ⟨0, k, none⟩ = some (.int .i64 (fc k : Int))
  lt : 0 < w.heap.size
theorem FacG.below {w w' : World} (h : FacG w) (hb : Below w.heap.size w w') : FacG w' :=
  ⟨fun k hk => ((bcell hb).1 _ _ h.lt).trans (h.at_ k hk), Nat.lt_of_lt_of_le h.lt hb.size⟩
theorem fac_four : (∀ w, (Instr.index 123 (.agg #[.int .i64 2, .int .i64 3, .int .i64 5, .int .i64 7]) (.int .i64 0)).run Tryz.prog w = .ok (.int .i64 2) w) ∧ (∀ w, (Instr.index 123 (.agg #[.int .i64 2, .int .i64 3, .int .i64 5, .int .i64 7]) (.int .i64 1)).run Tryz.prog w = .ok (.int .i64 3) w) ∧ (∀ w, (Instr.index 123 (.agg #[.int .i64 2, .int .i64 3, .int .i64 5, .int .i64 7]) (.int .i64 2)).run Tryz.prog w = .ok (.int .i64 5) w) ∧ (∀ w, (Instr.index 123 (.agg #[.int .i64 2, .int .i64 3, .int .i64 5, .int .i64 7]) (.int .i64 3)).run Tryz.prog w = .ok (.int .i64 7) w) :=
  ⟨fun _ => by kernel_rfl, fun _ => by kernel_rfl, fun _ => by kernel_rfl, fun _ => by kernel_rfl⟩
theorem fac_at {k : Nat} (hk : k < 4) : ∀ w, (Instr.index 123 (.agg #[.int .i64 2, .int .i64 3, .int .i64 5, .int .i64 7]) (.int .i64 (k : Int))).run Tryz.prog w = .ok (.int .i64 (fc k : Int)) w := by
  obtain ⟨i0, i1, i2, i3⟩ := fac_four
  rcases (show k = 0 ∨ k = 1 ∨ k = 2 ∨ k = 3 by omega) with e | e | e | e <;> subst e
  · exact i0
  · exact i1
  · exact i2
  · exact i3
set_option maxHeartbeats 1000000 in
theorem rad_out (W : World) (z : Int) (h : z < 1 ∨ 1024 < z) : RadN W 65 z := by
  intro w hw
  rcases h with h | h
  · go_enter Tryz.func65, Tryz.ntmps65
    go_wp2
    go_ret2
    exact ⟨rfl, Below.refl _ _⟩
  · have h1 : ¬ z < 1 := by omega
    go_enter Tryz.func65, Tryz.ntmps65
    go_wp2
    go_ret2
    exact ⟨rfl, Below.refl _ _⟩
/-- What a walk ends with. -/
def RadE (n : Nat) (w : World) (e : Ending) (w' : World) : Prop := Below w.heap.size w w' ∧ ((∃ l, radV (n : Int) = some l ∧ ∃ A C, e = .returned (.tuple #[.slice A l.length C, .bool true]) ∧ ZAt w' A C (ints l)) ∨ (radV (n : Int) = none ∧ e = .returned (.tuple #[.slice none 0 0, .bool false])))
theorem radE_yes {W : World} {f : FuncId} {n : Nat} {l : List Nat} (H : ∀ w, Below W.heap.size W w → Calls Tryz.prog f #[.int .i64 (n : Int)] w (RadE n w)) (h : radV (n : Int) = some l) : RadY W f (n : Int) l := fun w hw =>
  (H w hw).mono fun e w' ⟨hb, hh⟩ => by
    rcases hh with ⟨l', hl, A, C, he, hz⟩ | ⟨hl, _⟩
    · rw [h] at hl; cases hl
      exact ⟨A, C, he, hz, hb⟩
    · rw [h] at hl; cases hl
theorem radE_no {W : World} {f : FuncId} {n : Nat} (H : ∀ w, Below W.heap.size W w → Calls Tryz.prog f #[.int .i64 (n : Int)] w (RadE n w)) (h : radV (n : Int) = none) : RadN W f (n : Int) := fun w hw =>
  (H w hw).mono fun e w' ⟨hb, hh⟩ => by
    rcases hh with ⟨l', hl, A, C, he, hz⟩ | ⟨hl, he⟩
    · rw [h] at hl; cases hl
    · exact ⟨he, hb⟩
theorem meas_lt {m m' : Nat} {z : Int} (hz : z = (m' : Int)) (h : m' < m) : (intOf (.int .i64 z)).toNat < (intOf (.int .i64 (m : Int))).toNat := by
  subst hz
  simp [intOf]
  omega
theorem small_i64 {n : Nat} {l : List Nat} {m : Nat} (h : RadSt n l m) : ∀ z ∈ ints l, I64 z := fun z hz => by
  obtain ⟨r, hr, rfl⟩ := List.mem_map.1 hz
  have := (h.mem r hr).lt
  exact i64_small (by omega)
end Go.Proofs.YtpjfapibjihbbaaGreatDoor
/-
  What mixed.Radices answers. No condition but that the program's four factors lie there.
-/
namespace Go.Proofs.YtpjfapibjihbbaaGreatDoor
set_option linter.unusedVariables false
open Go.RowKit

set_option maxRecDepth 100000 in
set_option maxHeartbeats 2000000 in
theorem rad_walk (W : World) (hG : FacG W) (n : Nat) (h1 : 1 ≤ n) (hn : n ≤ 1024) : ∀ w, Below W.heap.size W w → Calls Tryz.prog 65 #[.int .i64 (n : Int)] w (RadE n w) := by
  intro w hw
  obtain ⟨ii, hii, hzi, hsi, hbi⟩ := info_parts infoZ
  have hGw := hG.below hw
  have g0 := hGw.at_ 0 (by omega)
  have g1 := hGw.at_ 1 (by omega)
  have g2 := hGw.at_ 2 (by omega)
  have g3 := hGw.at_ 3 (by omega)
  rw [show ((fc 0 : Nat) : Int) = 2 from rfl] at g0
  rw [show ((fc 1 : Nat) : Int) = 3 from rfl] at g1
  rw [show ((fc 2 : Nat) : Int) = 5 from rfl] at g2
  rw [show ((fc 3 : Nat) : Int) = 7 from rfl] at g3
  have HN : Hid (1 ≤ n ∧ n ≤ 1024) := ⟨h1, hn⟩
  have d1 : decide ((n : Int) < 1) = false := by simp; omega
  have d2 : decide ((1024 : Int) < (n : Int)) = false := by simp; omega
  have d3 : ¬ (n : Int) < 1 := by omega
  have d4 : ¬ (1024 : Int) < (n : Int) := by omega
  clear hG hGw hw h1 hn
  go_enter Tryz.func65, Tryz.ntmps65
  go_wp2
  clear d1 d2 d3 d4 g0 g1 g2 g3
  go_loopw [0, 4, 14] (fun x out v wr => ∃ (m k L : Nat) (l : List Nat), x = .int .i64 (m : Int) ∧ v = .int .i64 (k : Int) ∧ k ≤ 4 ∧ 1 ≤ m ∧ m ≤ 1024 ∧ Hid (RadSt n l m) ∧ Hid (∀ q, 2 ≤ q → q < fc k → m % q ≠ 0) ∧ Hid (l.length = L) ∧ Hid (wr.ownsRow w.heap.size 3 1 out L (zcells (ints l))) ∧ Below w.heap.size w wr) (fun _ _ v _ => 4 - (intOf v).toNat)
  case atStart => exact ⟨n, 0, 0, [], rfl, rfl, by omega, HN.out.1, HN.out.2, RadSt.start n, (fun q h2 hq => absurd hq (by show ¬ q < 2; omega)), rfl, World.ownsRow_nil _ _ _ _, Below.refl _ _⟩
  case round =>
    obtain ⟨m, k, L, l, rfl, rfl, hk, hm1, hm2, HS, HL, Hl, HO, hB⟩ := hrel
    by_cases hlt : k < 4
    · have hix := fac_at hlt
      have hf2 := (fc_in k).1
      have hf7 := fc_lt hlt
      have HFN : Hid (∀ m, (∀ q, 2 ≤ q → q < fc k → m % q ≠ 0) → m % fc k ≠ 0 → ∀ q, 2 ≤ q → q < fc (k + 1) → m % q ≠ 0) := fun m => fc_next hlt
      obtain ⟨f, hf⟩ : ∃ f, fc k = f := ⟨_, rfl⟩
      rw [hf] at hix hf2 hf7 HL HFN
      have hf0 : ¬ (f : Int) = 0 := by omega
      have hlt' : (k : Int) < 4 := by omega
      have HSN : Hid (m ≤ 1024) := hm2
      clear hf
      go_wp2
      clear hix
      go_loopw [0, 4] (fun x out wi => ∃ (m L : Nat) (l : List Nat), x = .int .i64 (m : Int) ∧ 1 ≤ m ∧ m ≤ 1024 ∧ Hid (RadSt n l m) ∧ Hid (∀ q, 2 ≤ q → q < f → m % q ≠ 0) ∧ Hid (l.length = L) ∧ Hid (wi.ownsRow w.heap.size 3 1 out L (zcells (ints l))) ∧ Below w.heap.size w wi) (fun x _ _ => (intOf x).toNat)
      case atStart => exact ⟨m, L, l, rfl, hm1, hm2, HS, HL, Hl, HO, hB⟩
      case round =>
        clear HS HL Hl HO hB hm1 hm2 HSN
        obtain ⟨m, L, l, rfl, hm1, hm2, HS, HL, Hl, HO, hB⟩ := hrel
        by_cases hd : m % f = 0
        · have hr0 := rest0 hd
          have hq : m / f * f = m := Nat.div_mul_cancel (Nat.dvd_of_mod_eq_zero hd)
          obtain ⟨m', hm'⟩ : ∃ m', m / f = m' := ⟨_, rfl⟩
          have hq1 := quot1 hm'
          rw [hm'] at hq
          have hm'1 : 1 ≤ m' := by
            rcases Nat.eq_zero_or_pos m' with e | e
            · rw [e, Nat.zero_mul] at hq; omega
            · exact e
          have hm'l : m' < m := by
            have := Nat.mul_le_mul_left m' hf2
            omega
          have hL10 := HS.out.ten HN.out.2 hm1
          rw [Hl.out] at hL10
          have HS2 : Hid (RadSt n (l ++ [f]) m') := HS.out.step hf2 (by omega) hd HL.out hm'
          have HL2 : Hid (∀ q, 2 ≤ q → q < f → m' % q ≠ 0) := fun q h2 hqf hz => HL.out q h2 hqf (by rw [← hq]; exact Nat.mod_eq_zero_of_dvd (Nat.dvd_trans (Nat.dvd_of_mod_eq_zero hz) (Nat.dvd_mul_right _ _)))
          have Hl2 : Hid ((l ++ [f]).length = L + 1) := by unfold Hid; rw [List.length_append, Hl.out]; rfl
          have HZ : Hid (zcells (ints (l ++ [f])) = zcells (ints l) ++ [.int .i64 (f : Int)]) := by
            unfold Hid; rw [← zcells_snoc]; simp [ints]
          have HM : Hid (m' ≤ 1024 ∧ m' < m) := ⟨by omega, hm'l⟩
          have HLL : Hid (L ≤ 10) := hL10
          have HW1 : Hid (wrap64 (m' : Int) = (m' : Int)) := wrN (Nat.le_trans HM.out.1 (by decide))
          have hO2 := World.ownsRow.alloc HO.out (.cells #[.int .i64 (f : Int)] 3)
          have hnews := one_new wr (.int .i64 (f : Int)) 3
          have hBa : Below w.heap.size w (wr.alloc (.cells #[.int .i64 (f : Int)] 3)) := bb hB (below_alloc _ _)
          clear hd hq hm' hm'l hL10 HS HL Hl HO hB hm1 hm2
          go_wp2_with (at_builtin; refine Hid.out ?_)
          unfold Hid
          refine (wpList_append_own _ rfl _ _ 39 rfl w.heap.size 3 ii _ 1 8 Tryz.underlying39 hii hzi hsi hbi rfl (by omega) _ L _ rfl hO2 ⟨wr.heap.size, 0, none⟩ 1 1 [.int .i64 (f : Int)] rfl rfl hnews (by simp [Value.oneCell']) (by have := HLL.out; unfold maxLen; omega) (by have := HLL.out; omega) hBa.size ?_)
          intro v' w5 hO3 hG _
          have HO3 : Hid (w5.ownsRow w.heap.size 3 1 v' (L + 1) (zcells (ints (l ++ [f])))) := by unfold Hid; rw [HZ.out]; exact hO3
          have hB5 : Below w.heap.size w w5 := hBa.grown hG hBa.size (fun k hk => (hO2.lt k hk).1)
          clear hO3 hG hO2 hBa hnews HZ
          have hw1 := HW1.out
          go_wp2
          go_roundw
          case rel => exact ⟨m', L + 1, l ++ [f], by first | rw [hw1] | rfl, hm'1, HM.out.1, HS2, HL2, Hl2, HO3, hB5⟩
          case measure => exact meas_lt hw1 HM.out.2
        · obtain ⟨r0, hr0⟩ : ∃ r0, m % f = r0 := ⟨_, rfl⟩
          have hr1 := rest1 hr0
          rw [hr0] at hd
          have hd1 : ¬ (r0 : Int) = 0 := by omega
          have hd2 : ((r0 : Int) == 0) = false := by simp; omega
          have HL2 : Hid (∀ q, 2 ≤ q → q < fc (k + 1) → m % q ≠ 0) := HFN.out m HL.out (by rw [hr0]; exact hd)
          clear HL
          go_wp2
          go_roundw
          case rel => exact ⟨m, k + 1, L, l, rfl, by go_num, by omega, hm1, hm2, HS, HL2, Hl, HO, hB⟩
          case measure => simp [intOf]; omega
    · obtain rfl : k = 4 := by omega
      by_cases h1 : m = 1
      · subst h1
        have HR : Hid (radV (n : Int) = some l) := radV_yes HN.out.2 HS.out.fin
        obtain ⟨A1, C1, hv, hz⟩ := own_ints (zs := ints l) (by rw [ints_len, Hl.out]; exact HO.out) (small_i64 HS.out)
        rw [ints_len, Hl.out] at hv
        subst hv
        have HZ1 : Hid (ZAt wr A1 C1 (ints l)) := hz
        clear HO HS HL hz
        go_wp2
        go_ret2
        exact ⟨hB, .inl ⟨l, HR.out, A1, C1, by rw [Hl.out]; rfl, HZ1.out⟩⟩
      · have HR : Hid (radV (n : Int) = none) := radV_no (HS.out.none h1 HL.out)
        have h2 : ¬ (m : Int) = 1 := by omega
        have h3 : ((m : Int) != 1) = true := by simp; omega
        clear HO HS HL
        go_wp2
        go_ret2
        exact ⟨hB, .inr ⟨HR.out, rfl⟩⟩
theorem rad_yes {W : World} (hG : FacG W) {z : Int} {l : List Nat} (h : radV z = some l) : RadY W 65 z l := by
  obtain ⟨n, rfl, h1, hn, _⟩ := radV_is h
  exact radE_yes (rad_walk W hG n h1 hn) h
theorem rad_no {W : World} (hG : FacG W) {z : Int} (h : radV z = none) : RadN W 65 z := by
  by_cases ho : z < 1 ∨ 1024 < z
  · exact rad_out W z ho
  · obtain ⟨n, rfl⟩ := Int.eq_ofNat_of_zero_le (show 0 ≤ z by omega)
    exact radE_no (rad_walk W hG n (by omega) (by omega)) h
end Go.Proofs.YtpjfapibjihbbaaGreatDoor
/-
  What the document's Radices (layer 14) answers. No condition.
-/
namespace Go.Proofs.YtpjfapibjihbbaaGreatDoor
set_option linter.unusedVariables false
open Go.RowKit

end Go.Proofs.YtpjfapibjihbbaaGreatDoor
/-
  What mixed's join does: of the parts of a block the one whole, in their place. No condition but that the rows lie there.
-/
namespace Go.Proofs.YtpjfapibjihbbaaGreatDoor
set_option linter.unusedVariables false
open Go.RowKit

/-- The row of up to seven numbers. -/
def rwV (r k : Nat) (y : Nat → Nat) (j : Nat) : Value := if j < k then .int .u64 (y j : Int) else .int .u64 0
theorem nil7 : ∀ i, i < (#[Value.int .u64 0, .int .u64 0, .int .u64 0, .int .u64 0, .int .u64 0, .int .u64 0, .int .u64 0] : Array Value).size → (#[Value.int .u64 0, .int .u64 0, .int .u64 0, .int .u64 0, .int .u64 0, .int .u64 0, .int .u64 0] : Array Value)[i]? = some (.int .u64 0) := by
  intro i hi
  match i, hi with
  | 0, _ => rfl
  | 1, _ => rfl
  | 2, _ => rfl
  | 3, _ => rfl
  | 4, _ => rfl
  | 5, _ => rfl
  | 6, _ => rfl
theorem divI2 {n q d : Nat} (h : n / q = d) : (n : Int) / (q : Int) = (d : Int) := by rw [← Int.natCast_ediv, h]
theorem meas_up {q M q2 : Nat} {z : Int} (hz : z = (q2 : Int)) (h : q + M = q2) (hM : 1 ≤ M) (hq : q < 4096) : 4096 - (intOf (.int .i64 z)).toNat < 4096 - (intOf (.int .i64 (q : Int))).toNat := by
  subst hz
  simp [intOf]
  omega
set_option maxRecDepth 100000 in
set_option maxHeartbeats 4000000 in
theorem joinm_walk (W : World) (a : Option Addr) (p v g C N o r M m P : Nat) (B : Option Addr) (D : Nat) (A : Nat → Nat) (hm : r * M = m) (hN : m * P = N) (hM : 1 ≤ M) (hP : 1 ≤ P) (hr2 : 2 ≤ r) (hr7 : r ≤ 7) (hN2 : N ≤ 1024) (ho : o + m ≤ N) (hp : 1 ≤ p) (hA : ∀ j, j < N → A j < p)
    (HS : ∀ (w : World) (br s : Nat) (y : Nat → Nat), Below W.heap.size W w → br < w.heap.size → s ≤ 4096 → (∀ u, u < r → w.cell? ⟨br, u, none⟩ = some (.int .u64 (y u : Int))) → (∀ u, u < r → y u < p) → AnsB w 136 #[.agg #[.pointer a, .slice B N D], .slice (some ⟨br, 0, none⟩) r r, .int .i64 (s : Int)] (.int .u64 (smT p v s y r : Int))) :
    InQ W 107 #[.agg #[.pointer a, .slice B N D], .slice (some ⟨g, o, none⟩) m m, .int .i64 (r : Int)] g C (lf N A) (lf N (mxJ p v P o r M A)) := by
  intro w hw hO
  have hge := hO.ge
  have hmr : m / r = M := by rw [← hm]; exact Nat.mul_div_cancel_left _ (by omega)
  have hm1 : 1 ≤ m := by rw [← hm]; exact Nat.mul_pos (by omega) hM
  have hNm : N / m = P := by rw [← hN]; exact Nat.mul_div_cancel_left _ (by omega)
  have hMm : M ≤ m := by rw [← hm]; exact Nat.le_mul_of_pos_left M (by omega)
  have hmN : m ≤ N := by omega
  -- the box
  obtain ⟨bo, hbo⟩ : ∃ b, w.heap.size = b := ⟨_, rfl⟩
  have C0 := CAt.new w #[.pointer a, .slice B N D] 129
  obtain ⟨X, hX⟩ : ∃ X, w.alloc (.cells #[.pointer a, .slice B N D] 129) = X := ⟨_, rfl⟩
  have hB : Below w.heap.size w X := hX ▸ below_alloc _ _
  rw [hX, hbo] at C0
  have HWX : Hid (Below W.heap.size W X) := bb hw hB
  have HKX : Hid (Kg g w X) := Kg.of hB
  have HOX : Hid (OwnU X W.heap.size (some ⟨g, 0, none⟩) C (lf N (mxS p v P o r M A 0 0))) := by
    unfold Hid
    rw [lf_ext (g := A) fun j _ => mxS_zero p v P o r M A j]
    exact hO.below hB
  have HCX : Hid (CAt X bo [.pointer a, .slice B N D]) := C0
  have HG : Hid (W.heap.size ≤ g ∧ bo ≠ g ∧ g < X.heap.size) := ⟨hge.1, by omega, by have := hB.size; omega⟩
  have HN : Hid (r * M = m ∧ m * P = N ∧ 1 ≤ M ∧ 1 ≤ P ∧ 2 ≤ r ∧ r ≤ 7 ∧ N ≤ 1024 ∧ o + m ≤ N ∧ 1 ≤ p ∧ M ≤ m ∧ 1 ≤ m) := ⟨hm, hN, hM, hP, hr2, hr7, hN2, ho, hp, hMm, hm1⟩
  have HAL : Hid (∀ j, j < N → A j < p) := hA
  have HS' := (show Hid _ from HS)
  have e00 := C0.2 0 _ rfl
  have e01 := C0.2 1 _ rfl
  have q1 := divI2 hmr
  have q2 := divI2 hNm
  have q3 := quot1 hmr
  have q4 := quot1 hNm
  have q5 : ¬ (r : Int) = 0 := by omega
  have q6 : ¬ (m : Int) = 0 := by omega
  have q7 : (N : Int) ≤ 9223372036854775807 := by omega
  have q8 : (m : Int) ≤ 9223372036854775807 := by omega
  have hPN : P ≤ 1024 := by
    have : 1 * P ≤ m * P := Nat.mul_le_mul_right P hm1
    omega
  have q9 : M ≤ 1024 := by omega
  have hr0 : ¬ r = 0 := by omega
  have hm0 : ¬ m = 0 := by omega
  clear hw hO hge hmr hm1 hNm hMm hmN hB hm hN hM hP hr2 hr7 hN2 ho hp hA HS C0
  go_enter Tryz.func107, Tryz.ntmps107
  go_wp2
  clear e00 e01 q1 q2 q3 q4 q5 q6 q7 q9 hPN hX hbo hr0 hm0
  go_loopw [23] (fun iv wr => ∃ i : Nat, iv = .int .i64 (i : Int) ∧ i ≤ M ∧ Hid (OwnU wr W.heap.size (some ⟨g, 0, none⟩) C (lf N (mxS p v P o r M A i 0))) ∧ Hid (Kg g X wr)) (fun iv _ => M - (intOf iv).toNat)
  case atStart => exact ⟨0, rfl, by omega, HOX, Kg.refl _ _⟩
  case round =>
    clear HOX
    obtain ⟨i, rfl, hi, HO, HK⟩ := hrel
    by_cases hil : i < M
    · have HIM : Hid (i < M) := hil
      have hlI : (i : Int) < (M : Int) := by omega
      -- the row
      have R0 : Hid ((wr.alloc (.cells #[.int .u64 0, .int .u64 0, .int .u64 0, .int .u64 0, .int .u64 0, .int .u64 0, .int .u64 0] 171)).rowIs wr.heap.size 171 7 (fun _ => .int .u64 0)) := World.rowIs_alloc wr _ _ _ nil7
      obtain ⟨br, hbr⟩ : ∃ b, wr.heap.size = b := ⟨_, rfl⟩
      go_wp2
      obtain ⟨w1, hw1⟩ : ∃ Z, wr.alloc (.cells #[.int .u64 0, .int .u64 0, .int .u64 0, .int .u64 0, .int .u64 0, .int .u64 0, .int .u64 0] 171) = Z := ⟨_, rfl⟩
      have hB1 : Below wr.heap.size wr w1 := by rw [← hw1]; exact below_alloc _ _
      have HR1 : Hid (w1.rowIs br 171 7 (rwV r 0 fun u => A (o + (u * M + i)))) := by
        have := R0.out
        rw [hw1, hbr] at this
        exact this.congr fun j _ => by unfold rwV; rw [if_neg (by omega)]
      have HO1 : Hid (OwnU w1 W.heap.size (some ⟨g, 0, none⟩) C (lf N (mxS p v P o r M A i 0))) := HO.out.below hB1
      have hgw : g < wr.heap.size := HO.out.ge.2
      have HBG : Hid (br ≠ g ∧ wr.heap.size = br) := ⟨by omega, hbr⟩
      have HB1 : Hid (Below wr.heap.size wr w1) := hB1
      first
        | rw [hw1, hbr]
        | rw [hw1]
        | skip
      clear R0 hw1 hB1 hgw hbr
      go_loopw [27] (fun kv wi => ∃ k : Nat, kv = .int .i64 (k : Int) ∧ k ≤ r ∧ Hid (wi.rowIs br 171 7 (rwV r k fun u => A (o + (u * M + i)))) ∧ Hid (OwnU wi W.heap.size (some ⟨g, 0, none⟩) C (lf N (mxS p v P o r M A i 0))) ∧ Hid (Below br wr wi)) (fun kv _ => r - (intOf kv).toNat)
      case atStart => exact ⟨0, rfl, by omega, HR1, HO1, by unfold Hid; rw [← HBG.out.2]; exact HB1.out⟩
      case round =>
        clear HR1 HO1 HB1
        obtain ⟨k, rfl, hk, HR, HO2, HB2⟩ := hrel
        by_cases hkl : k < r
        · have hlk : (k : Int) < (r : Int) := by omega
          have hk7 : k < 7 := by have := HN.out; omega
          have hk7' : (k : Int) < 7 := by omega
          have hpl := part_lt (M := M) (i := i) HIM.out hkl
          rw [HN.out.1] at hpl
          obtain ⟨kM, hkM⟩ : ∃ q, k * M = q := ⟨_, rfl⟩
          rw [hkM] at hpl
          obtain ⟨q, hq⟩ : ∃ q, kM + i = q := ⟨_, rfl⟩
          rw [hq] at hpl
          have hmb : m ≤ 1024 := by have := HN.out; omega
          have hv := mxS_at (p := p) (v := v) (P := P) (o := o) (r := r) (A := A) (u := k) HIM.out
          rw [hkM, hq] at hv
          obtain ⟨y, hy⟩ : ∃ y, A (o + q) = y := ⟨_, rfl⟩
          obtain ⟨b1, _⟩ := HO2.out.cellF (j := o + q) (by have := HN.out; omega) (hv.trans hy)
          have c0 := HR.out.cell hk7
          have f0 := HR.out.frozen k
          have e1 : rwV r k (fun u => A (o + (u * M + i))) k = .int .u64 0 := by unfold rwV; rw [if_neg (by omega)]
          rw [e1] at c0
          have hpq : (q : Int) < (m : Int) := by omega
          have hqb : q ≤ 1024 := by omega
          have hkb : kM ≤ 1024 := by omega
          have HR3 : Hid ((wr.setCell ⟨br, k, none⟩ (.int .u64 (y : Int))).rowIs br 171 7 (rwV r (k + 1) fun u => A (o + (u * M + i)))) := (HR.out.set k _).congr fun j _ => by
            unfold rwV
            by_cases e : j = k
            · subst e
              rw [if_pos rfl, if_pos (by omega)]
              show Value.int .u64 (y : Int) = .int .u64 ((A (o + (j * M + i)) : Nat) : Int)
              rw [hkM, hq, hy]
            · rw [if_neg e]
              by_cases h : j < k
              · rw [if_pos h, if_pos (by omega)]
              · rw [if_neg h, if_neg (by omega)]
          have HO3 : Hid (OwnU (wr.setCell ⟨br, k, none⟩ (.int .u64 (y : Int))) W.heap.size (some ⟨g, 0, none⟩) C (lf N (mxS p v P o r M A i 0))) := own_other HO2.out (by intro e; simp only [Value.ownBlock, Option.some.injEq] at e; exact HBG.out.1 e.symm) k _
          have HB3 := (show Hid _ from HB2.out.setCell (p := ⟨br, k, none⟩) (Nat.le_refl _) (.int .u64 (y : Int)))
          have w1' : wrap64 ((k : Int) * (M : Int)) = (kM : Int) := (mulI' hkM (Nat.le_trans hkb (by decide))).1
          have w3' : wrap64 ((kM : Int) + (i : Int)) = (q : Int) := by rw [← Int.natCast_add, hq]; exact wrN (Nat.le_trans hqb (by decide))
          clear hkM hq hpl hmb hv hy e1 HR HO2 HB2 hqb hkb
          go_wp2
          clear w1' w3' c0 f0 b1 hpq
          go_roundw
          case rel => exact ⟨k + 1, by go_num, by omega, HR3, HO3, HB3⟩
          case measure => simp [intOf]; omega
        · obtain rfl : k = r := by omega
          have hr7 : k ≤ 7 := HN.out.2.2.2.2.2.1
          have HKz : Hid (Kg g X wr) := HK.out.trans (Kg.of (by rw [HBG.out.2]; exact HB2.out))
          have HRC : Hid (∀ Y, Kg g wr Y → br < Y.heap.size ∧ ∀ u, u < k → Y.cell? ⟨br, u, none⟩ = some (.int .u64 (A (o + (u * M + i)) : Int))) := fun Y hY => by
            refine ⟨Nat.lt_of_lt_of_le HR.out.lt hY.size, fun u hu => World.grownBy.cell hY ?_ (fun e => HBG.out.1 (by cases e; rfl))⟩
            have := HR.out.cell (i := u) (by omega)
            unfold rwV at this
            rw [if_pos hu] at this
            exact this
          have HO3 : Hid (OwnU wr W.heap.size (some ⟨g, 0, none⟩) C (lf N (mxS p v P o k M A i 0))) := HO2.out
          clear HR HO2 HB2 hk hkl
          go_wp2
          go_loopw [11] (fun pv wi => ∃ t q : Nat, pv = .int .i64 (q : Int) ∧ Hid (t * M + i = q) ∧ t ≤ k ∧ Hid (OwnU wi W.heap.size (some ⟨g, 0, none⟩) C (lf N (mxS p v P o k M A i t))) ∧ Hid (Kg g wr wi)) (fun pv _ => 4096 - (intOf pv).toNat)
          case atStart => exact ⟨0, i, rfl, by unfold Hid; omega, by omega, HO3, Kg.refl _ _⟩
          case round =>
            clear HO3
            obtain ⟨t, q, rfl, HQ, ht, HO4, HK4⟩ := hrel
            have hm := HN.out
            have hsum : q + M = (t + 1) * M + i := by rw [← HQ.out, Nat.succ_mul]; omega
            by_cases htl : t < k
            · have hpl := part_lt HIM.out htl
              have hpd := part_div HIM.out t
              have hset := mxS_set (p := p) (v := v) (P := P) (o := o) (N := N) A HIM.out htl
              rw [HQ.out] at hpl hpd hset
              rw [hm.1] at hpl
              obtain ⟨q2, hq2⟩ : ∃ q2, q + M = q2 := ⟨_, rfl⟩
              rw [hq2] at hsum
              have HQ2 : Hid ((t + 1) * M + i = q2) := hsum.symm
              obtain ⟨s, hs⟩ : ∃ s, q * P = s := ⟨_, rfl⟩
              have hsN : s < N := by rw [← hs, ← hm.2.1]; exact Nat.mul_lt_mul_of_pos_right hpl (by omega)
              have hval : mxV p v P o k M A q = smT p v s (fun u => A (o + (u * M + i))) k := by unfold mxV; rw [hpd.2, hs]
              rw [hval] at hset
              have HWr : Hid (Below W.heap.size W wr) := (HKz.out.trans HK4.out).bel HWX.out HG.out.1
              have hdr := below_drewN wr 1
              obtain ⟨hbr1, hbr2⟩ := HRC.out wr.drew (HK4.out.trans (Kg.of hdr))
              have HSd := HS'.out wr.drew br s (fun u => A (o + (u * M + i))) (bb HWr.out hdr) hbr1 (by omega) hbr2 (fun u hu => HAL.out _ (by have := part_lt HIM.out hu; rw [hm.1] at this; omega))
              obtain ⟨n0, hn0⟩ : ∃ n0, smT p v s (fun u => A (o + (u * M + i))) k = n0 := ⟨_, rfl⟩
              rw [hn0] at HSd hset
              obtain ⟨x0, hx0⟩ : ∃ x0, mxS p v P o k M A i t (o + q) = x0 := ⟨_, rfl⟩
              have HXF : Hid (∀ Y, Below wr.drew.heap.size wr.drew Y → Y.cell? ⟨g, o + q, none⟩ = some (.int .u64 (x0 : Int)) ∧ Y.frozen? ⟨g, o + q, none⟩ = false) := fun Y hY => (HO4.out.below (bb hdr hY)).cellF (by omega) hx0
              have HSY : Hid (∀ Y, Below wr.drew.heap.size wr.drew Y → Y.cell? ⟨bo, 0, none⟩ = some (.pointer a) ∧ Y.cell? ⟨bo, 1, none⟩ = some (.slice B N D)) := fun Y hY => by
                have C1 := HCX.out.kg (HKz.out.trans (HK4.out.trans (Kg.of (bb hdr hY)))) HG.out.2.1
                exact ⟨C1.2 0 _ rfl, C1.2 1 _ rfl⟩
              have HO5 : Hid (∀ Y, Below wr.drew.heap.size wr.drew Y → OwnU (Y.setCell ⟨g, o + q, none⟩ (.int .u64 (n0 : Int))) W.heap.size (some ⟨g, 0, none⟩) C (lf N (mxS p v P o k M A i (t + 1))) ∧ Kg g _ (Y.setCell ⟨g, o + q, none⟩ (.int .u64 (n0 : Int)))) := fun Y hY => by
                rw [← hset]
                exact ⟨(HO4.out.below (bb hdr hY)).set _ _, (HK4.out.trans (Kg.of (bb hdr hY))).trans (Kg.set _ _ _ _)⟩
              have HKS : Hid (∀ (Y : World) (j : Nat) (u : Value), (Y.cell? ⟨bo, 0, none⟩ = some (.pointer a) ∧ Y.cell? ⟨bo, 1, none⟩ = some (.slice B N D)) → ((Y.setCell ⟨g, j, none⟩ u).cell? ⟨bo, 0, none⟩ = some (.pointer a) ∧ (Y.setCell ⟨g, j, none⟩ u).cell? ⟨bo, 1, none⟩ = some (.slice B N D))) := fun Y j u h =>
                ⟨World.grownBy.cell (Kg.set g j Y u) h.1 (fun e => HG.out.2.1 (by cases e; rfl)), World.grownBy.cell (Kg.set g j Y u) h.2 (fun e => HG.out.2.1 (by cases e; rfl))⟩
              have l1 : (q : Int) < (m : Int) := by omega
              have l2 : (k : Int) ≤ 7 := by omega
              have l3 : (0 : Int) ≤ (k : Int) := by omega
              have l4 : ¬ k = 0 := by omega
              have l5 : ¬ (k : Int) = 0 := by omega
              have l6 : k ≤ 7 := hr7
              have hq4 : q < 4096 := by omega
              have HQ4 : Hid (q < 4096 ∧ 1 ≤ M) := ⟨hq4, hm.2.2.1⟩
              have hs2 : s ≤ 16777216 := by omega
              have hq22 : q2 ≤ 16777216 := by omega
              have HW5 : Hid (wrap64 ((q : Int) + (M : Int)) = (q2 : Int)) := by unfold Hid; rw [← Int.natCast_add, hq2]; exact wrN hq22
              have HQM : Hid (q + M = q2) := hq2
              have w4 : IntKind.i64.wrap ((q : Int) * (P : Int)) = (s : Int) := (mulI' hs hs2).2
              clear hm hsum hpl hpd hset hq2 hs hsN hval hbr1 hbr2 hn0 hx0 hdr HO4 HK4 hs2 hq22 hq4 HWr
              go_wp2
              go_region_held3 (fun Y => Y.cell? ⟨bo, 0, none⟩ = some (.pointer a) ∧ Y.cell? ⟨bo, 1, none⟩ = some (.slice B N D)) (first | exact HSY.out _ (Below.refl _ _) | exact S1 | exact HKS.out _ _ _ S1)
                ((go_at_call 136; (with_reducible refine AnsB.use HSd (Below.refl _ _) fun Y hY => ?_); have S1 := HSY.out Y hY; obtain ⟨b1, z1⟩ := HXF.out Y hY))
              have HO6 := HO5.out Y hY
              clear HO5 HXF HSd HSY HKS S1 b1 z1 w4 hY l1 l2 l3 l4 l5 l6
              have w5 := HW5.out
              go_wp2
              go_roundw
              case rel => exact ⟨t + 1, q2, by first | rw [w5] | rfl, HQ2, by omega, HO6.1, HO6.2⟩
              case measure => exact meas_up w5 HQM.out HQ4.out.2 HQ4.out.1
            · obtain rfl : t = k := by omega
              have l1 : ¬ (q : Int) < (m : Int) := by
                have := HQ.out
                rw [hm.1] at this
                omega
              have HO5 : Hid (OwnU wr W.heap.size (some ⟨g, 0, none⟩) C (lf N (mxS p v P o t M A (i + 1) 0))) := by
                unfold Hid
                rw [← lf_ext (f := mxS p v P o t M A i t) fun j _ => mxS_next hm.2.2.1 A j]
                exact HO4.out
              have HK5 : Hid (Kg g X wr) := HKz.out.trans HK4.out
              have hMb : M ≤ 1024 := by omega
              have hiM : i < M := HIM.out
              clear hm hsum HO4 HK4
              go_wp2
              go_roundw
              case rel => exact ⟨i + 1, by go_num, by omega, HO5, HK5⟩
              case measure => simp [intOf]; omega
    · obtain rfl : i = M := by omega
      have HO7 : Hid (OwnU wr W.heap.size (some ⟨g, 0, none⟩) C (lf N (mxJ p v P o r i A))) := by
        unfold Hid
        rw [← lf_ext (f := mxS p v P o r i A i 0) fun j _ => mxS_all HN.out.2.2.1 A j]
        exact HO.out
      have HK7 : Hid (Kg g w wr) := HKX.out.trans HK.out
      clear HO HK
      go_wp2
      first
        | go_end0
        | refine bodyPost_ret (results_none rfl _ _ _) rfl ?_
      exact ⟨rfl, HO7.out, HK7.out⟩
end Go.Proofs.YtpjfapibjihbbaaGreatDoor

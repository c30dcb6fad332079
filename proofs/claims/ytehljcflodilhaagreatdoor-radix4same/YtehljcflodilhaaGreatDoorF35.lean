/-
  What radix2.turned, ended and check, and slices.Clone of words, answer. No condition but that the rows, the field and the library's table lie there.
-/
import Derived.Test.YtehljcflodilhaaGreatDoorF34
import Derived.Test.YtehljcflodilhaaGreatDoorF30
import Derived.Test.YtehljcflodilhaaGreatDoorF33
import Derived.Deep.RegionWith
namespace Go.Proofs.YtehljcflodilhaaGreatDoor
set_option linter.unusedVariables false
open Go.RowKit

/-! ### Clone -/
/-! ### turned -/
theorem lf_zero (n : Nat) : lf n (fun _ => 0) = List.replicate n 0 := by
  apply List.ext_getElem?
  intro j
  by_cases h : j < n
  · rw [lf_get _ h, List.getElem?_replicate, if_pos h]
  · rw [List.getElem?_eq_none (by rw [lf_len]; omega), List.getElem?_eq_none (by simp; omega)]
/-- The first k places laid where they go. -/
def trF (T : Nat → Nat) (xs : List Nat) (k i : Nat) : Nat := if T i < k then atL xs (T i) else 0
theorem trF_set {T : Nat → Nat} {xs : List Nat} {n k : Nat} (hT : ∀ i, i < n → T i < n ∧ T (T i) = i) (hk : k < n) : (lf n (trF T xs k)).set (T k) (atL xs k) = lf n (trF T xs (k + 1)) := by
  refine lf_set fun j hj => ?_
  unfold trF
  by_cases e : j = T k
  · rw [if_pos e, e, (hT k hk).2, if_pos (by omega)]
  · have hne : T j ≠ k := fun h => e (by rw [← h, (hT j hj).2])
    rw [if_neg e]
    by_cases h : T j < k
    · rw [if_pos h, if_pos (by omega)]
    · rw [if_neg h, if_neg (by omega)]
set_option maxRecDepth 100000 in
set_option maxHeartbeats 4000000 in
theorem turned_walk (W : World) (A : Option Addr) (C n c : Nat) (xs : List Nat) (T : Nat → Nat) (hX : UAt W A C xs) (hl : xs.length = n) (h1 : 1 ≤ n) (hn : n ≤ 4096) (hT : ∀ i, i < n → T i < n ∧ T (T i) = i)
    (HZ : AnsQ W 46 #[.int .u64 (n : Int)] (.int .i64 (c : Int)))
    (HB : ∀ k : Nat, k < n → AnsQ W 47 #[.int .i64 (k : Int), .int .i64 (c : Int)] (.int .i64 (T k : Int))) :
    OwnR W 23 #[.slice A n C] (lf n fun i => atL xs (T i)) := by
  intro w hw
  obtain ⟨ii, hii, hzi, hsi, hbi⟩ := info_parts infoWd
  rw [lf_len]
  have HU : Hid (UAt w A C xs) := hX.below hw
  have HLL : Hid (xs.length = n) := hl
  have HN : Hid (1 ≤ n ∧ n ≤ 4096) := ⟨h1, hn⟩
  have HT : Hid (∀ i, i < n → T i < n ∧ T (T i) = i) := hT
  have HBB : Hid (∀ k : Nat, k < n → AnsQ W 47 #[.int .i64 (k : Int), .int .i64 (c : Int)] (.int .i64 (T k : Int))) := HB
  have HW : Hid (Below W.heap.size W w) := hw
  have hlenn : (n : Int) ≤ 9223372036854775807 := by omega
  have ew : IntKind.u64.wrap (n : Int) = (n : Int) := by rw [IntKind.wrap_u64]; omega
  clear hX hl h1 hn hT HB
  go_enter Tryz.func23, Tryz.ntmps23
  go_wp2_with (first
    | (go_at_call 46; with_reducible refine AnsQ.use HZ hw ?_)
    | (at_make; refine Hid.out ?_))
  unfold Hid
  clear hw HZ
  refine wpList_make_full _ rfl _ _ 26 rfl w.heap.size 22 ii _ 1 Tryz.underlying26 hii hzi hsi .i64 .i64 (n : Int) (n : Int) n rfl rfl rfl rfl (by have := HN.out; rw [hbi]; omega) (by have := HN.out; unfold maxLen; omega) (Nat.le_refl _) ?_
  intro w1 hR hG1
  obtain ⟨gc, hgc⟩ : ∃ gc, w.heap.size = gc := ⟨_, rfl⟩
  have HGC : Hid (w.heap.size = gc) := hgc
  have hR1 : OwnU w1 w.heap.size (some ⟨w.heap.size, 0, none⟩) n (lf n (trF T xs 0)) := by
    have e : (madeCells (Value.int .u64 0).cells (n * 1)).toList = ucells (lf n (trF T xs 0)) := by
      rw [made_list rfl, lf_ext (g := fun _ => 0) fun j _ => by unfold trF; rw [if_neg (Nat.not_lt_zero _)], lf_zero]; simp [ucells]
    unfold OwnU
    rw [← e, lf_len]; exact hR
  have hB1 : Below w.heap.size w w1 := (Below.refl _ _).grown hG1 (Nat.le_refl _) (fun k ek => by cases ek)
  rw [hgc] at hR1 ⊢
  have HR2 : Hid (OwnU w1 w.heap.size (some ⟨gc, 0, none⟩) n (lf n (trF T xs 0))) := by unfold Hid; rw [hgc]; exact hR1
  clear hR hR1 hG1 hgc
  go_wp2
  go_loopw [15] (fun v wr => ∃ k : Nat, v = .int .i64 (k : Int) ∧ k ≤ n ∧ Hid (OwnU wr w.heap.size (some ⟨gc, 0, none⟩) n (lf n (trF T xs k))) ∧ Below w.heap.size w wr) (fun v _ => n - (intOf v).toNat)
  case atStart => exact ⟨0, rfl, by omega, HR2, hB1⟩
  case round =>
    clear HR2 hB1
    obtain ⟨k, rfl, hk, HO, hB⟩ := hrel
    by_cases hlt : k < n
    · obtain ⟨x, hx⟩ : ∃ x, xs[k]? = some x := ⟨_, List.getElem?_eq_getElem (by rw [HLL.out]; exact hlt)⟩
      obtain ⟨b, o, rfl, hb, c0, _⟩ := HU.out.get k x hx
      have c1 := ((bcell hB).1 b (o + k) hb).trans c0
      have HBk := HBB.out k hlt
      have hTk := (HT.out k hlt).1
      obtain ⟨g1, eg, _, _, c2, f2⟩ := HO.out.get (lf_get (trF T xs k) hTk)
      cases eg
      have hst := trF_set (xs := xs) HT.out hlt
      rw [atL_of hx] at hst
      obtain ⟨t, ht⟩ : ∃ t, T k = t := ⟨_, rfl⟩
      rw [ht] at HBk hTk c2 f2 hst
      obtain ⟨old, ho⟩ : ∃ y, trF T xs k t = y := ⟨_, rfl⟩
      rw [ho] at c2
      have hW1 : Below W.heap.size W wr.drew := bb HW.out (bb hB (below_drewN wr 1))
      have HO3 : Hid (∀ X, Below wr.heap.size wr X → OwnU (X.setCell ⟨gc, t, none⟩ (.int .u64 (x : Int))) w.heap.size (some ⟨gc, 0, none⟩) n (lf n (trF T xs (k + 1)))) := fun X hX => by
        rw [← hst]; exact (HO.out.below hX).set t x
      have HB3 : Hid (∀ X, Below wr.heap.size wr X → Below w.heap.size w (X.setCell ⟨gc, t, none⟩ (.int .u64 (x : Int)))) := fun X hX => (bb hB hX).setCell (p := ⟨gc, t, none⟩) (by rw [HGC.out]; exact Nat.le_refl _) _
      have q1 : (t : Int) < (n : Int) := ltI hTk
      have q2 : (k : Int) < (n : Int) := ltI hlt
      clear c0 hb hx ht ho hst HO hB
      go_wp2
      go_region_with (go_at_call 47; with_reducible refine AnsQ.use HBk hW1 ?_)
      all_goals go_wp2
      all_goals go_roundw
      all_goals first
        | exact ⟨k + 1, by go_num, by omega, (HO3.out _ (Below.refl _ _)).below (below_drewN _ 1), below_dN (HB3.out _ (Below.refl _ _)) 1⟩
        | (simp [intOf]; omega)
    · obtain rfl : k = n := by omega
      have HO4 : Hid (OwnU wr w.heap.size (some ⟨gc, 0, none⟩) k (lf k fun i => atL xs (T i))) := by
        unfold Hid
        rw [← lf_ext (f := trF T xs k) fun j hj => by unfold trF; rw [if_pos (HT.out j hj).1]]; exact HO.out
      clear HO
      go_wp2
      go_ret
      exact ⟨_, _, rfl, HO4.out, hB⟩
theorem two_tn (c : Nat) : ∀ i, i < 2 ^ c → tn (two c) i < 2 ^ c ∧ tn (two c) (tn (two c) i) = i := fun i hi => ⟨two_lt c i, by rw [two_back, Nat.mod_eq_of_lt hi]⟩
/-- .. of a power of two: each at the place whose bits are turned about. -/
theorem turned_any {W : World} (hD : DeB W) {A : Option Addr} {C c : Nat} {xs : List Nat} (hX : UAt W A C xs) (hl : xs.length = 2 ^ c) (hc : c ≤ 12) : OwnR W 23 #[.slice A (2 ^ c : Nat) C] (lf (2 ^ c) fun i => atL xs (tn (two c) i)) := by
  refine turned_walk W A C (2 ^ c) c xs (tn (two c)) hX hl (Nat.two_pow_pos c) (two_le hc) (two_tn c) (tz_any W hD c hc) fun k hk => ?_
  rcases Nat.eq_zero_or_pos c with e | e
  · subst e
    exact (bits_no W k 0 (Or.inl (by omega))).to rfl
  · have hle := two_le hc
    refine (bits_yes W k c e (by omega)).to ?_
    rw [show u64 (k : Int) = k by unfold u64; omega]

/-! ### ended -/
theorem ended_no (W : World) (a : Option Addr) (A : Option Addr) (n C : Nat) : AnsQ W 25 #[.pointer a, .slice A n C, .bool false] (.slice A n C) := by
  intro w hw
  go_enter Tryz.func25, Tryz.ntmps25
  go_wp2
  go_ret
  exact ⟨rfl, rfl⟩
theorem ended_yes (W : World) (a : Option Addr) (A : Option Addr) (n C : Nat) (l : List Nat) (H : OwnR W 21 #[.pointer a, .slice A n C] l) : OwnR W 25 #[.pointer a, .slice A n C, .bool true] l := by
  intro w hw
  obtain ⟨L, hL⟩ : ∃ L, l.length = L := ⟨_, rfl⟩
  have H' : ∀ {R : Ending → World → Prop}, (∀ A1 C1 w', OwnU w' w.heap.size A1 C1 l → Below w.heap.size w w' → R (.returned (.slice A1 L C1)) w') → Calls Tryz.prog 21 #[.pointer a, .slice A n C] w R :=
    fun {R} k => OwnR.use H hw fun A1 C1 w' q1 q2 => by rw [hL]; exact k A1 C1 w' q1 q2
  rw [hL]
  clear H hL
  go_enter Tryz.func25, Tryz.ntmps25
  go_wp2_with (go_at_call 21; with_reducible refine H' fun A1 C1 w2 hO hB => ?_)
  go_ret
  exact ⟨_, _, rfl, hO, hB⟩

/-! ### check -/
/-- What is wrong with a list that is to be transformed by halves. -/
def ck2 (p : Nat) (xs : List Nat) : Int := if ckD p (xs.length : Int) 4096 ≠ 0 then ckD p (xs.length : Int) 4096 else if fitV (xs.length : Int) = false then 11 else if goodB p xs = false then 9 else 0
theorem chk_err (w : World) (v : Option Addr) (A : Option Addr) (n C : Nat) (e : Int) (he : (e != 0) = true) (hlen : (n : Int) ≤ 9223372036854775807) (HC : AnsW w 35 #[.pointer v, .int .i64 (n : Int), .int .i64 4096] (.int .i64 e)) : AnsW w 22 #[.pointer v, .slice A n C] (.int .i64 e) := by
  intro j
  go_enter Tryz.func22, Tryz.ntmps22
  go_wp2_with (go_at_call 35; with_reducible refine AnsW.use HC _ fun n1 => ?_)
  go_ret
  exact ⟨rfl, _, rfl⟩
theorem chk_kind (w : World) (v : Option Addr) (A : Option Addr) (n C : Nat) (hlen : (n : Int) ≤ 9223372036854775807) (HC : AnsW w 35 #[.pointer v, .int .i64 (n : Int), .int .i64 4096] (.int .i64 0)) (HF : Ans 36 #[.int .i64 (n : Int)] (.bool false)) : AnsW w 22 #[.pointer v, .slice A n C] (.int .i64 11) := by
  intro j
  go_enter Tryz.func22, Tryz.ntmps22
  go_wp2_with (first
    | (go_at_call 35; with_reducible refine AnsW.use HC _ fun n1 => ?_)
    | (go_at_call 36; with_reducible refine Ans.use HF _ fun n2 => ?_))
  go_ret
  exact ⟨rfl, n1 + n2, by simp [Nat.add_assoc]⟩
theorem chk_good (w : World) (v : Option Addr) (A : Option Addr) (n C : Nat) (hlen : (n : Int) ≤ 9223372036854775807) (HC : AnsW w 35 #[.pointer v, .int .i64 (n : Int), .int .i64 4096] (.int .i64 0)) (HF : Ans 36 #[.int .i64 (n : Int)] (.bool true)) (HG : AnsW w 37 #[.pointer v, .slice A n C] (.bool true)) : AnsW w 22 #[.pointer v, .slice A n C] (.int .i64 0) := by
  intro j
  go_enter Tryz.func22, Tryz.ntmps22
  go_wp2_with (first
    | (go_at_call 35; with_reducible refine AnsW.use HC _ fun n1 => ?_)
    | (go_at_call 36; with_reducible refine Ans.use HF _ fun n2 => ?_)
    | (go_at_call 37; with_reducible refine AnsW.use HG _ fun n3 => ?_))
  go_ret
  exact ⟨rfl, n1 + n2 + n3, by simp [Nat.add_assoc]⟩
theorem chk_bad (w : World) (v : Option Addr) (A : Option Addr) (n C : Nat) (hlen : (n : Int) ≤ 9223372036854775807) (HC : AnsW w 35 #[.pointer v, .int .i64 (n : Int), .int .i64 4096] (.int .i64 0)) (HF : Ans 36 #[.int .i64 (n : Int)] (.bool true)) (HG : AnsW w 37 #[.pointer v, .slice A n C] (.bool false)) : AnsW w 22 #[.pointer v, .slice A n C] (.int .i64 9) := by
  intro j
  go_enter Tryz.func22, Tryz.ntmps22
  go_wp2_with (first
    | (go_at_call 35; with_reducible refine AnsW.use HC _ fun n1 => ?_)
    | (go_at_call 36; with_reducible refine Ans.use HF _ fun n2 => ?_)
    | (go_at_call 37; with_reducible refine AnsW.use HG _ fun n3 => ?_))
  go_ret
  exact ⟨rfl, n1 + n2 + n3, by simp [Nat.add_assoc]⟩
theorem chk_any {W : World} {b : Nat} {x : En} (F : FieldAt W b x) {A : Option Addr} {C : Nat} {xs : List Nat} (hU : UAt W A C xs) : AnsW W 22 #[pt b, .slice A xs.length C] (.int .i64 (ck2 x.p xs)) := by
  have hlen := hU.len
  have HC := dftck_any F (xs.length : Int) 4096 (by omega)
  have HF := fits_any (xs.length : Int)
  have HG := dftgood_any F hU
  unfold ck2
  by_cases h : ckD x.p (xs.length : Int) 4096 = 0
  · rw [h] at HC
    rw [if_neg (by omega)]
    cases hf : fitV (xs.length : Int)
    · rw [hf] at HF
      rw [if_pos rfl]
      exact chk_kind W _ A _ C hlen HC HF
    · rw [hf] at HF
      rw [if_neg (by decide)]
      cases hg : goodB x.p xs
      · rw [hg] at HG
        rw [if_pos rfl]
        exact chk_bad W _ A _ C hlen HC HF HG
      · rw [hg] at HG
        rw [if_neg (by decide)]
        exact chk_good W _ A _ C hlen HC HF HG
  · rw [if_pos h]
    exact chk_err W _ A _ C _ (by simp only [bne_iff_ne, ne_eq]; exact h) hlen HC
theorem ck2_ok {p : Nat} {xs : List Nat} (h : ck2 p xs = 0) : ∃ c, c ≤ 12 ∧ xs.length = 2 ^ c ∧ (p - 1) % xs.length = 0 ∧ ∀ y ∈ xs, y < p := by
  unfold ck2 at h
  by_cases h0 : ckD p (xs.length : Int) 4096 = 0
  · rw [if_neg (by omega)] at h
    obtain ⟨h1, h2, h3⟩ := ckD_ok h0
    cases hf : fitV (xs.length : Int)
    · rw [hf, if_pos rfl] at h; cases h
    · rw [hf, if_neg (by decide)] at h
      cases hg : goodB p xs
      · rw [hg, if_pos rfl] at h; cases h
      · obtain ⟨c, hc, e⟩ := fit_two hf
        exact ⟨c, hc, e, h3, goodB_iff.1 hg⟩
  · rw [if_pos h0] at h; exact absurd h h0
end Go.Proofs.YtehljcflodilhaaGreatDoor
/-
  What radix2.Up answers: a new row, or which error. No condition but that the field, the list and the library's table lie there.
-/
namespace Go.Proofs.YtehljcflodilhaaGreatDoor
set_option linter.unusedVariables false
open Go.RowKit

theorem up_err (w : World) (v : Option Addr) (A : Option Addr) (n C : Nat) (i : Bool) (e : Int) (he : (e != 0) = true) (HC : AnsW w 22 #[.pointer v, .slice A n C] (.int .i64 e)) : AnsW w 8 #[.pointer v, .slice A n C, .bool i] (.tuple #[.slice none 0 0, .int .i64 e]) := by
  intro j
  go_enter Tryz.func8, Tryz.ntmps8
  go_wp2_with (go_at_call 22; with_reducible refine AnsW.use HC _ fun n1 => ?_)
  go_ret2
  exact ⟨rfl, _, rfl⟩
/-- What ended answers, of what lies there as the sums. -/
structure Ends (W : World) (a : Option Addr) (i : Bool) (n : Nat) (s l : List Nat) : Prop where
  len : l.length = n
  no : i = false → l = s
  yes : i = true → ∀ w B D, Below W.heap.size W w → UAt w B D s → OwnR w 21 #[.pointer a, .slice B n D] l
/-- ended, where the sums are one's own. -/
theorem Ends.use {W : World} {a : Option Addr} {i : Bool} {n : Nat} {s l : List Nat} (h : Ends W a i n s l) (h1 : 1 ≤ n) {w w3 : World} (hw : Below W.heap.size W w) (hb : Below w.heap.size w w3) {base g C : Nat} (hbase : w.heap.size ≤ base) (hO : OwnU w3 base (some ⟨g, 0, none⟩) C s) (hs : ∀ x ∈ s, x < 18446744073709551616) {R : Ending → World → Prop}
    (k : ∀ A1 C1 w', OwnU w' w.heap.size A1 C1 l → Below w.heap.size w w' → R (.returned (.slice A1 n C1)) w') : Calls Tryz.prog 25 #[.pointer a, .slice (some ⟨g, 0, none⟩) n C, .bool i] w3 R := by
  cases i
  · have e := h.no rfl
    subst e
    exact AnsQ.use (ended_no w3 a _ n C) (Below.refl _ _) (k _ _ _ (hO.base hbase) hb)
  · refine OwnR.use (ended_yes w3 a _ n C l (h.yes rfl w3 _ _ (bb hw hb) (hO.words hs))) (Below.refl _ _) fun A1 C1 w' q1 q2 => ?_
    rw [h.len]
    exact k _ _ _ (q1.base hb.size) (bb hb q2)
set_option maxRecDepth 100000 in
set_option maxHeartbeats 4000000 in
theorem up_walk (W : World) (b : Nat) (A : Option Addr) (n C c : Nat) (i : Bool) (ls l : List Nat) (S : Nat → Nat → Nat) (hnc : 2 ^ c = n) (hc : c ≤ 12) (hll : ls.length = n) (hls : ∀ y ∈ ls, y < 18446744073709551616) (hS : ∀ j, j < n → S c j < 18446744073709551616)
    (HC : ∀ w, Below W.heap.size W w → AnsW w 22 #[pt b, .slice A n C] (.int .i64 0))
    (HL : ∀ w, Below W.heap.size W w → OwnT w 19 #[pt b, .int .i64 (n : Int), .bool i] ls)
    (HT : ∀ w, Below W.heap.size W w → OwnR w 23 #[.slice A n C] (lf n (S 0)))
    (HJ : ∀ w B D, Below W.heap.size W w → UAt w B D ls → ∀ k g C1, k < c → InP w 24 #[pt b, .slice (some ⟨g, 0, none⟩) n C1, .slice B n D, .int .i64 ((2 ^ k : Nat) : Int)] g C1 (lf n (S k)) (lf n (S (k + 1))))
    (HE : Ends W (some ⟨b, 0, none⟩) i n (lf n (S c)) l) : OwnT W 8 #[pt b, .slice A n C, .bool i] l := by
  intro w hw
  have h1 : 1 ≤ n := by rw [← hnc]; exact Nat.two_pow_pos c
  have hn : n ≤ 4096 := by rw [← hnc]; exact two_le hc
  rw [HE.len]
  have HC1 := HC w hw
  have HL1 : ∀ (x : Nat) {R : Ending → World → Prop}, (∀ g C1 w', OwnU w' w.heap.size (some ⟨g, 0, none⟩) C1 ls → Below w.heap.size w w' → R (.returned (.tuple #[.slice (some ⟨g, 0, none⟩) n C1, .int .i64 0])) w') → Calls Tryz.prog 19 #[pt b, .int .i64 (n : Int), .bool i] (w.drewN x) R :=
    fun x R k => OwnT.useG (HL w hw) hll h1 (below_drewN w x) fun g C1 w' q1 q2 => k g C1 w' (q1.base (Nat.le_refl _)) (bb (below_drewN w x) q2)
  have HT' : Hid (∀ w, Below W.heap.size W w → OwnR w 23 #[.slice A n C] (lf n (S 0))) := HT
  have HJ' := (show Hid _ from HJ)
  have HE' : Hid (Ends W (some ⟨b, 0, none⟩) i n (lf n (S c)) l) := HE
  have HN : Hid (1 ≤ n ∧ n ≤ 4096 ∧ 2 ^ c = n) := ⟨h1, hn, hnc⟩
  have HLS : Hid (∀ y ∈ ls, y < 18446744073709551616) := hls
  have HSS : Hid (∀ x ∈ lf n (S c), x < 18446744073709551616) := lf_lt hS
  have HW : Hid (Below W.heap.size W w) := hw
  have hlenn : (n : Int) ≤ 9223372036854775807 := by omega
  clear HC HL HT HJ HE hll hls hS h1 hn hnc hw
  go_enter Tryz.func8, Tryz.ntmps8
  go_wp2_with (first
    | (go_at_call 22; with_reducible refine AnsW.use0 HC1 fun n1 => ?_)
    | (go_at_call 19; with_reducible refine HL1 _ fun gl C1 w2 hO2 hB2 => ?_; have HTw := HT'.out w2 (bb HW.out hB2))
    | (go_at_call 23; with_reducible refine OwnR.useG HTw (lf_len n (S 0)) HN.out.1 (Below.refl _ _) fun g C3 w3 hO3 hB3 => ?_))
  have HO2 : Hid (UAt w2 (some ⟨gl, 0, none⟩) C1 ls) := hO2.words HLS.out
  have HB2 : Hid (Below w.heap.size w w2) := hB2
  have HO3 : Hid (OwnU w3 w2.heap.size (some ⟨g, 0, none⟩) C3 (lf n (S 0))) := hO3
  have HB3 : Hid (Below w2.heap.size w2 w3) := hB3
  clear HC1 HL1 HTw hO2 hB2 hO3 hB3
  go_loopw [12] (fun v wr => ∃ k m : Nat, v = .int .i64 (m : Int) ∧ k ≤ c ∧ m ≤ n ∧ 1 ≤ m ∧ Hid (2 ^ k = m) ∧ Hid (OwnU wr w2.heap.size (some ⟨g, 0, none⟩) C3 (lf n (S k))) ∧ Hid (Below w2.heap.size w2 wr)) (fun v _ => n - (intOf v).toNat)
  case atStart => exact ⟨0, 1, rfl, by omega, HN.out.1, by omega, rfl, HO3, HB3⟩
  case round =>
    clear HO3 HB3
    obtain ⟨k, m, rfl, hk, hm, hm1, HK, HO, HB⟩ := hrel
    by_cases hlt : m < n
    · have hkc : k < c := by
        rcases Nat.lt_or_ge k c with h | h
        · exact h
        · obtain rfl : k = c := by omega
          exfalso; have := HK.out; have := HN.out.2.2; omega
      have HK2 : Hid (2 ^ (k + 1) = m * 2) := by unfold Hid; rw [Nat.pow_succ, HK.out]
      have hm2 : m * 2 ≤ n := by
        rw [← HK2.out, ← HN.out.2.2]; exact Nat.pow_le_pow_right (by omega) hkc
      have HJk := HJ'.out w2 _ C1 (bb HW.out HB2.out) HO2.out k g C3 hkc
      rw [HK.out] at HJk
      have q1 : (m : Int) < (n : Int) := ltI hlt
      have ew := (wr2 (v := m) (by have := HN.out.2.1; omega)).1
      have ew2 : IntKind.i64.wrap ((m : Int) * 2) = ((m * 2 : Nat) : Int) := by rw [IntKind.wrap_i64]; have := HN.out.2.1; omega
      clear HK
      go_wp2_with (go_at_call 24; with_reducible refine InP.use HJk HB.out HO.out fun w4 hO4 hB4 => ?_)
      have HO4 : Hid (OwnU w4 w2.heap.size (some ⟨g, 0, none⟩) C3 (lf n (S (k + 1)))) := hO4
      have HB4 : Hid (Below w2.heap.size w2 w4) := hB4
      clear hO4 hB4 HO HB HJk
      go_wp2
      go_roundw
      case rel => exact ⟨k + 1, m * 2, by first | rw [ew] | (rw [Int.natCast_mul]; rfl), by omega, hm2, by omega, HK2, HO4, HB4⟩
      case measure => simp [intOf]; omega
    · obtain rfl : m = n := by omega
      have hkc : k = c := (Nat.pow_right_inj (by decide)).1 (HK.out.trans HN.out.2.2.symm)
      subst hkc
      have HU : Hid (∀ {R : Ending → World → Prop}, (∀ A1 C5 w', OwnU w' w.heap.size A1 C5 l → Below w.heap.size w w' → R (.returned (.slice A1 m C5)) w') → Calls Tryz.prog 25 #[pt b, .slice (some ⟨g, 0, none⟩) m C3, .bool i] wr R) :=
        fun {R} q => Ends.use HE'.out HN.out.1 HW.out (bb HB2.out HB.out) HB2.out.size HO.out HSS.out q
      have q1 : ¬ (m : Int) < (m : Int) := by omega
      clear HO HK
      go_wp2_with (go_at_call 25; with_reducible refine HU.out fun A5 C5 w5 hO5 hB5 => ?_)
      go_ret2
      exact ⟨_, _, rfl, hO5, hB5⟩
end Go.Proofs.YtehljcflodilhaaGreatDoor
/-
  Pairs put together, and parted, with a field's table; a transform's sums, and what is made of them behind; radix2.Up whole. No condition but that the field, the list and the library's table lie there.
-/
namespace Go.Proofs.YtehljcflodilhaaGreatDoor
set_option linter.unusedVariables false
open Go.RowKit

/-! ### With a field -/
theorem tab_at {w p n k l : Nat} (h : ((pws w p n).map fun y => up y p)[k]? = some l) : l = up (w ^ k % p) p := by
  rw [List.getElem?_map] at h
  have hk : k < n := by
    by_cases e : k < n
    · exact e
    · rw [List.getElem?_eq_none (by rw [pws_len]; omega)] at h; cases h
  rw [pws_get hk] at h
  simp only [Option.map_some, Option.some.injEq] at h
  exact h.symm
theorem join_any {W : World} {b : Nat} {x : En} (F : FieldAt W b x) (hF : Fld x) {n M P : Nat} (hn : 2 * M * P = n) (hM : 1 ≤ M) (hP : 1 ≤ P) (hn2 : n ≤ 4096) {B : Option Addr} {D w : Nat} (hL : UAt W B D ((pws w x.p n).map fun y => up y x.p)) {A : Nat → Nat} (hA : ∀ j, j < n → A j < x.p) (g C : Nat) :
    InP W 24 #[pt b, .slice (some ⟨g, 0, none⟩) n C, .slice B n D, .int .i64 (M : Int)] g C (lf n A) (lf n (jN x.p w M P A)) := by
  obtain ⟨h3, hodd, hlt⟩ := hF.num
  have hp : 0 < x.p := by omega
  refine join_walk W _ g C n M P B D _ A _ (fun bb ii => w ^ (ii * P) % x.p * A (2 * M * bb + M + ii) % x.p) hn hM hP hn2 hL (by rw [List.length_map, pws_len]) (fun w' hw b' i l hb hi hl => ?_) (fun w' hw b' i hb hi => ?_) (fun w' hw b' i hb hi => ?_)
  · have hin := blk_in hn hb
    have h1 := hA (2 * M * b' + M + i) (by omega)
    have h2 := Nat.mod_lt (w ^ (i * P)) hp
    rw [tab_at hl]
    exact fTimes_lift (F.below hw) _ _ (by omega) (by omega)
  · have hin := blk_in hn hb
    have h1 := hA (2 * M * b' + i) (by omega)
    have h2 := Nat.mod_lt (w ^ (i * P) % x.p * A (2 * M * b' + M + i)) hp
    rw [jN_lo A hi]
    exact fAdd_any (F.below hw) _ _ (by omega) (by omega)
  · have hin := blk_in hn hb
    have h1 := hA (2 * M * b' + i) (by omega)
    have h2 := Nat.mod_lt (w ^ (i * P) % x.p * A (2 * M * b' + M + i)) hp
    rw [jN_hi A hi]
    exact fSub_any (F.below hw) _ _ (by omega) (by omega)
/-! ### Sums -/
/-- The sums of powers, ahead of the scale. -/
def smL (x : En) (i : Bool) (xs : List Nat) : List Nat := lf xs.length fun k => tS (twR x xs.length i) xs.length (atL xs) k % x.p
theorem smL_len (x : En) (i : Bool) (xs : List Nat) : (smL x i xs).length = xs.length := lf_len _ _
theorem ends_any {W : World} {b : Nat} {x : En} (F : FieldAt W b x) (hF : Fld x) {xs : List Nat} (h1 : 1 ≤ xs.length) (hn : xs.length ≤ 4096) (hd : (x.p - 1) % xs.length = 0) (i : Bool) : Ends W (some ⟨b, 0, none⟩) i xs.length (smL x i xs) (dT x i xs) := by
  obtain ⟨h3, hodd, hlt⟩ := hF.num
  refine ⟨dT_len x i xs, fun e => ?_, fun e w B D hw hV => ?_⟩
  · subst e; rfl
  · subst e
    obtain ⟨v, hv, HS⟩ := scale_any (F.below hw) hF hV (by rw [smL_len]; exact hn)
    rw [smL_len] at hv HS
    have ev : v = invN x xs.length := by
      have hi := (len_inv hF h1 hd).2.2
      have hne := (len_inv hF h1 hd).1
      have hy := hv.yes hne
      have e1 : v = v * (xs.length * invN x xs.length) % x.p := by
        rw [Nat.mul_mod, hi, Nat.mul_one, Nat.mod_mod, Nat.mod_eq_of_lt hv.lt]
      rw [e1, ← Nat.mul_assoc, Nat.mul_comm v, Nat.mul_mod, hy, Nat.one_mul, Nat.mod_mod]
      exact Nat.mod_eq_of_lt (Nat.mod_lt _ (by omega))
    have e2 : (smL x true xs).map (fun y => v * y % x.p) = dT x true xs := by
      unfold smL lf
      rw [List.map_map]
      unfold dT
      apply List.map_congr_left
      intro k _
      show v * (tS (twR x xs.length true) xs.length (atL xs) k % x.p) % x.p = dV x true xs k
      unfold dV
      rw [if_pos rfl, ev, Nat.mul_comm]
    rw [e2] at HS
    exact HS

/-! ### Up -/
/-- The list behind so many steps. -/
def ups (p w c : Nat) (A : Nat → Nat) : Nat → Nat → Nat
  | 0 => A
  | k + 1 => jN p w (2 ^ k) (2 ^ (c - k - 1)) (ups p w c A k)
theorem ups_bk {p w c : Nat} {x : Nat → Nat} (hp : Prm p) (h3 : 3 ≤ p) (ho : OrdN w p (2 ^ c)) : ∀ k, k ≤ c → Bk w p (two c) x (ups p w c (fun i => x (tn (two c) i)) k) (c - k)
  | 0, _ => by
    have := Bk.start (w := w) (p := p) (rs := two c) (x := x) (A := fun i => x (tn (two c) i)) fun j hj => by
      rw [two_pr] at hj
      show x _ % p = _
      rw [two_back, Nat.mod_eq_of_lt hj]
    rw [two_len] at this
    exact this
  | k + 1, hk => by
    have h := ups_bk (x := x) hp h3 ho k (by omega)
    obtain ⟨j, hj⟩ : ∃ j, c - (k + 1) = j := ⟨_, rfl⟩
    rw [show c - k = j + 1 by omega] at h
    have := jn_step hp h3 (show j < c by omega) ho h
    rw [hj, ups]
    rw [show c - j - 1 = k by omega, show j = c - k - 1 by omega] at this
    rw [show j = c - k - 1 by omega]
    exact this
theorem ups_lt {p w c : Nat} {A : Nat → Nat} (hp : 0 < p) (hA : ∀ j, j < 2 ^ c → A j < p) : ∀ k j, j < 2 ^ c → ups p w c A k j < p
  | 0, j, hj => hA j hj
  | k + 1, j, hj => jN_lt hp _ _ _ _ _
theorem up_yes {W : World} {b : Nat} {x : En} (F : FieldAt W b x) (hF : Fld x) (hD : DeB W) {A : Option Addr} {C : Nat} {xs : List Nat} (hU : UAt W A C xs) (hk : ck2 x.p xs = 0) (i : Bool) : OwnT W 8 #[pt b, .slice A xs.length C, .bool i] (dT x i xs) := by
  obtain ⟨c, hc, hl, hd, hg⟩ := ck2_ok hk
  obtain ⟨h3, hodd, hlt⟩ := hF.num
  have h1 : 1 ≤ xs.length := by rw [hl]; exact Nat.two_pow_pos c
  have hn : xs.length ≤ 4096 := by rw [hl]; exact two_le hc
  have ho := twR_ord hF h1 hd i
  obtain ⟨v, hv⟩ : ∃ v, twR x xs.length i = v := ⟨_, rfl⟩
  rw [hv, hl] at ho
  have hA0 : ∀ j, j < 2 ^ c → atL xs (tn (two c) j) < x.p := fun j hj => hg _ (atL_mem (by rw [hl]; exact two_lt c j))
  have hlts := ups_lt (w := v) (c := c) (A := fun j => atL xs (tn (two c) j)) (show 0 < x.p by omega) hA0
  have hs : lf xs.length (ups x.p v c (fun j => atL xs (tn (two c) j)) c) = smL x i xs := lf_ext fun j hj => by
    rw [hl] at hj
    have hb := (ups_bk (x := atL xs) hF.prm (by omega) ho c (Nat.le_refl c))
    rw [Nat.sub_self] at hb
    have := hb.fin (k := j) (by rw [two_pr]; exact hj)
    rw [two_pr, Nat.mod_eq_of_lt (hlts c j hj)] at this
    rw [this, hv, hl]
  have hE := ends_any F hF h1 hn hd i
  rw [← hs] at hE
  refine up_walk W b A xs.length C c i ((pws v x.p xs.length).map fun y => up y x.p) (dT x i xs) (ups x.p v c fun j => atL xs (tn (two c) j)) hl.symm hc (by rw [List.length_map, pws_len]) (fun y hy => ?_) (fun j hj => ?_)
    (fun w hw => (chk_any (F.below hw) (hU.below hw)).to (by rw [hk]))
    (fun w hw => by rw [← hv]; exact lifted_yes w b x (F.below hw) hF xs.length h1 hn hd i)
    (fun w hw => by
      have := turned_any (hD.below hw) (hU.below hw) hl hc
      rw [← hl] at this
      exact this)
    (fun w B D hw hB k g C1 hkc => ?_) hE
  · obtain ⟨z, _, rfl⟩ := List.mem_map.1 hy
    have := up_lt z x.p (by omega); omega
  · have := hlts c j (by rw [← hl]; exact hj); omega
  · exact join_any (F.below hw) hF (by rw [hl, ← Nat.pow_succ', ← Nat.pow_add]; congr 1; omega) (Nat.two_pow_pos k) (Nat.two_pow_pos _) hn hB (fun j hj => hlts k j (by rw [← hl]; exact hj)) g C1
theorem up_bad {W : World} {b : Nat} {x : En} (F : FieldAt W b x) {A : Option Addr} {C : Nat} {xs : List Nat} (hU : UAt W A C xs) (hk : ck2 x.p xs ≠ 0) (i : Bool) : AnsW W 8 #[pt b, .slice A xs.length C, .bool i] (.tuple #[.slice none 0 0, .int .i64 (ck2 x.p xs)]) :=
  up_err W _ A _ C i _ (by simp only [bne_iff_ne, ne_eq]; exact hk) (chk_any F hU)
theorem up_nil (w : World) (A : Option Addr) (n C : Nat) (i : Bool) (hlen : (n : Int) ≤ 9223372036854775807) : AnsW w 8 #[.pointer none, .slice A n C, .bool i] (.tuple #[.slice none 0 0, .int .i64 2]) :=
  up_err w none A n C i 2 (by decide) (chk_err w none A n C 2 (by decide) hlen (ck_nil w _ _))
end Go.Proofs.YtehljcflodilhaaGreatDoor
/-
  What radix2.Down answers: a new row, or which error. No condition but that the field, the list and the library's table lie there.
-/
namespace Go.Proofs.YtehljcflodilhaaGreatDoor
set_option linter.unusedVariables false
open Go.RowKit

/-- Half of a length that halves are still made of: how long the halves are behind k steps; nothing, behind all. -/
theorem hv_lt {c k : Nat} (h : k < c) : 2 ^ (c - k) / 2 = 2 ^ (c - k - 1) := by
  obtain ⟨m, hm⟩ : ∃ m, c - k - 1 = m := ⟨_, rfl⟩
  rw [hm, show c - k = m + 1 by omega, Nat.pow_succ, Nat.mul_div_cancel _ (by omega)]
theorem hv_end (c : Nat) : 2 ^ (c - c) / 2 = 0 := by rw [Nat.sub_self]
theorem hv_next {c k : Nat} (h : k < c) : 2 ^ (c - k) / 2 / 2 = 2 ^ (c - (k + 1)) / 2 := by rw [hv_lt h]; congr 1
/-- The list behind so many steps. -/
def dns (p w c : Nat) (A : Nat → Nat) : Nat → Nat → Nat
  | 0 => A
  | k + 1 => qN p w (2 ^ (c - k - 1)) (2 ^ k) (dns p w c A k)
theorem dns_dk {p w c : Nat} {x : Nat → Nat} (hp : Prm p) (h3 : 3 ≤ p) (ho : OrdN w p (2 ^ c)) : ∀ k, k ≤ c → Dk w p (two c) (fun k => tS w (2 ^ c) x k) (dns p w c x k) k
  | 0, _ => Dk.start fun k _ => by rw [two_pr]; rfl
  | k + 1, hk => qn_step hp h3 (by omega) ho (dns_dk (x := x) hp h3 ho k (by omega))
theorem dns_lt {p w c : Nat} {A : Nat → Nat} (hp : 0 < p) (hA : ∀ j, j < 2 ^ c → A j < p) : ∀ k j, j < 2 ^ c → dns p w c A k j < p
  | 0, j, hj => hA j hj
  | k + 1, j, hj => qN_lt hp _ _ _ _ _
end Go.Proofs.YtehljcflodilhaaGreatDoor

/-
  The contract of sieve's Primes: just the primes up to a number, as far as 2^16, rising.
-/
import Derived.Test.YtafmmkhegkceiaaSv11
namespace Go.Proofs.Ytafmmkhegkceiaa
set_option linter.unusedVariables false
open Go.RowKit

noncomputable def prms (u : Nat) : List Nat := (List.range u).filter prmB
theorem prms_yes {n : Nat} (h : Prm n) : prms (n + 1) = prms n ++ [n] := by
  unfold prms; rw [List.range_succ, List.filter_append]; simp [prmB_yes h]
theorem prms_no {n : Nat} (h : ¬ Prm n) : prms (n + 1) = prms n := by
  unfold prms; rw [List.range_succ, List.filter_append]; simp [prmB_no h]
theorem prms_len (n : Nat) : (prms n).length ≤ n := by
  have := List.length_filter_le prmB (List.range n)
  rw [List.length_range] at this
  exact this
theorem mem_prms {u x : Nat} : x ∈ prms u ↔ x < u ∧ Prm x := by
  unfold prms; rw [List.mem_filter, List.mem_range, prmB_iff]
theorem prms_sorted (u : Nat) : (prms u).Pairwise (· < ·) := List.Pairwise.filter _ List.pairwise_lt_range
theorem prms_two : prms 2 = [] := by
  rw [prms_no (fun h => by have := h.1; omega), prms_no (fun h => by have := h.1; omega)]; rfl

/-! ### What is crossed out -/
def encI (x : Nat) : Value := .int .i64 (x : Int)
def rowB (N : Nat) (c : Nat → Bool) : List Value := (List.range N).map fun m => .bool (c m)
theorem rowB_get {N : Nat} {c : Nat → Bool} {m : Nat} (h : m < N) : (rowB N c)[m]? = some (.bool (c m)) := by
  unfold rowB; rw [List.getElem?_map, List.getElem?_range h]; rfl
def crossed (c : Nat → Bool) (j : Nat) : Nat → Bool := fun m => if m = j then true else c m
theorem rowB_set (N : Nat) (c : Nat → Bool) (j : Nat) : (rowB N c).set j (.bool true) = rowB N (crossed c j) := by
  apply List.ext_getElem?
  intro m
  rw [List.getElem?_set]
  by_cases hm : m < N
  · rw [rowB_get (c := crossed c j) hm]
    unfold crossed
    by_cases e : j = m
    · subst e; rw [if_pos rfl, if_pos (by simpa [rowB] using hm), if_pos rfl]
    · rw [if_neg e, if_neg (fun e' => e e'.symm), rowB_get hm]
  · have h1 : (rowB N c).length ≤ m := by simp [rowB]; omega
    have h2 : (rowB N (crossed c j)).length ≤ m := by simp [rowB]; omega
    rw [List.getElem?_eq_none h2]
    by_cases e : j = m
    · subst e; rw [if_pos rfl, if_neg (by omega)]
    · rw [if_neg e, List.getElem?_eq_none h1]
/-- Crossed are the multiples of the primes below n, beyond themselves. -/
def CrInv (n : Nat) (c : Nat → Bool) : Prop := ∀ m, c m = true ↔ ∃ q, Prm q ∧ q < n ∧ q ∣ m ∧ q < m
/-- .. and up to j of n's. -/
def CrIn (u n j : Nat) (c : Nat → Bool) : Prop := ∀ m, m ≤ u → (c m = true ↔ (∃ q, Prm q ∧ q < n ∧ q ∣ m ∧ q < m) ∨ (n ∣ m ∧ n < m ∧ m < j))
def CrOut (u n : Nat) (c : Nat → Bool) : Prop := ∀ m, m ≤ u → (c m = true ↔ ∃ q, Prm q ∧ q < n ∧ q ∣ m ∧ q < m)
theorem CrOut.start (u : Nat) : CrOut u 2 (fun _ => false) := fun m _ => ⟨fun h => (by cases h), fun ⟨q, hq, hl, _⟩ => (by have := hq.1; omega)⟩
theorem CrOut.at {u n : Nat} {c : Nat → Bool} (h : CrOut u n c) (hn : n ≤ u) (h2 : 2 ≤ n) : c n = true ↔ ¬ Prm n := by
  rw [h n hn]
  constructor
  · rintro ⟨q, hq, hl, hd, _⟩ hp
    rcases hp.2 q hd with e | e
    · have := hq.1; omega
    · omega
  · intro hp
    obtain ⟨q, hq, hd⟩ := has_prime n h2
    have hle := Nat.le_of_dvd (by omega) hd
    have hne : q ≠ n := fun e => hp (e ▸ hq)
    exact ⟨q, hq, by omega, hd, by omega⟩
theorem CrOut.skip {u n : Nat} {c : Nat → Bool} (h : CrOut u n c) (hp : ¬ Prm n) : CrOut u (n + 1) c := fun m hm => by
  rw [h m hm]
  constructor
  · rintro ⟨q, a, b, d⟩; exact ⟨q, a, by omega, d⟩
  · rintro ⟨q, a, b, d⟩
    have : q ≠ n := fun e => hp (e ▸ a)
    exact ⟨q, a, by omega, d⟩
theorem CrOut.inn {u n : Nat} {c : Nat → Bool} (h : CrOut u n c) : CrIn u n (2 * n) c := fun m hm => by
  rw [h m hm]
  constructor
  · exact fun h => Or.inl h
  · rintro (h | ⟨⟨k, hk⟩, a, b⟩)
    · exact h
    · exfalso
      rw [hk] at a b
      have h1 : k < 2 := Nat.lt_of_mul_lt_mul_left (a := n) (by rw [Nat.mul_comm n 2]; exact b)
      have h2 : 1 < k := Nat.lt_of_mul_lt_mul_left (a := n) (by rw [Nat.mul_one]; exact a)
      omega
theorem CrIn.step {u n t : Nat} {c : Nat → Bool} (h : CrIn u n (n * t) c) (hn : 1 ≤ n) (ht : 2 ≤ t) : CrIn u n (n * t + n) (crossed c (n * t)) := fun m hm => by
  unfold crossed
  by_cases e : m = n * t
  · rw [if_pos e]
    refine ⟨fun _ => Or.inr ⟨⟨t, e⟩, ?_, by omega⟩, fun _ => rfl⟩
    have : n * 2 ≤ n * t := Nat.mul_le_mul_left n ht
    omega
  · rw [if_neg e, h m hm]
    constructor
    · rintro (a | ⟨a, b, d⟩)
      · exact Or.inl a
      · exact Or.inr ⟨a, b, by omega⟩
    · rintro (a | ⟨⟨k, hk⟩, b, d⟩)
      · exact Or.inl a
      · right
        refine ⟨⟨k, hk⟩, b, ?_⟩
        rw [hk] at d e ⊢
        have h1 : k < t + 1 := Nat.lt_of_mul_lt_mul_left (a := n) (by rw [Nat.mul_add, Nat.mul_one]; exact d)
        have h2 : k ≠ t := fun e' => e (by rw [e'])
        exact Nat.mul_lt_mul_of_pos_left (by omega) (by omega)
theorem CrIn.done {u n j : Nat} {c : Nat → Bool} (h : CrIn u n j c) (hp : Prm n) (hj : u < j) : CrOut u (n + 1) c := fun m hm => by
  rw [h m hm]
  constructor
  · rintro (⟨q, a, b, d⟩ | ⟨a, b, d⟩)
    · exact ⟨q, a, by omega, d⟩
    · exact ⟨n, hp, by omega, a, b⟩
  · rintro ⟨q, a, b, d, e⟩
    by_cases h' : q = n
    · subst h'; exact Or.inr ⟨d, e, by omega⟩
    · exact Or.inl ⟨q, a, by omega, d, e⟩

/-- A row of ints lies there. -/
structure IntsAt (w : World) (A : Option Addr) (C : Nat) (l : List Nat) : Prop where
  cap : l.length ≤ C
  max : C ≤ maxLen
  get : ∀ (i x : Nat), l[i]? = some x → ∃ b o, A = some ⟨b, o, none⟩ ∧ b < w.heap.size ∧ w.cell? ⟨b, o + i, none⟩ = some (.int .i64 (x : Int))
theorem IntsAt.below {w w' : World} {A : Option Addr} {C : Nat} {l : List Nat} (h : IntsAt w A C l) (hb : Below w.heap.size w w') : IntsAt w' A C l :=
  ⟨h.cap, h.max, fun i x hx => by
    obtain ⟨b, o, hA, hl, c⟩ := h.get i x hx
    exact ⟨b, o, hA, Nat.lt_of_lt_of_le hl hb.size, kcell hb hl c⟩⟩
theorem ints_of_row {w : World} {base : Nat} {v : Value} {l : List Nat} (h : w.ownsRow base 3 1 v l.length (l.map encI)) : ∃ A C, v = .slice A l.length C ∧ IntsAt w A C l := by
  rcases h.2 with ⟨hv, hn⟩ | ⟨g, cap, cur, rfl, hb, hg, hc, hm, _⟩
  · refine ⟨none, 0, by rw [hv, hn], by omega, by unfold maxLen; omega, fun i x hx => ?_⟩
    have := (List.getElem?_eq_some_iff.1 hx).1; omega
  · refine ⟨_, _, rfl, hc, hm, fun i x hx => ?_⟩
    have hi := (List.getElem?_eq_some_iff.1 hx).1
    refine ⟨g, 0, rfl, (Array.getElem?_eq_some_iff.1 hg).1, ?_⟩
    rw [Nat.zero_add, h.cellAt i (by omega), List.getElem?_map, hx]; rfl
def IntsAns (f : FuncId) (arg : Value) (l : List Nat) : Prop := ∀ w, Calls Try.prog f #[arg] w fun e w' => ∃ A C, e = .returned (.slice A l.length C) ∧ IntsAt w' A C l ∧ Below w.heap.size w w'
theorem IntsAns.use {f : FuncId} {arg : Value} {l : List Nat} (h : IntsAns f arg l) {w : World} {R : Ending → World → Prop} (k : ∀ A C w', IntsAt w' A C l → Below w.heap.size w w' → R (.returned (.slice A l.length C)) w') : Calls Try.prog f #[arg] w R :=
  (h w).mono fun _ _ ⟨A, C, he, h1, h2⟩ => by subst he; exact k _ _ _ h1 h2
theorem infoI : (Try.prog.info? 3).map (fun i => (i.zero, i.size, i.bytes)) = some (some (.int .i64 0), 1, 8) := by kernel_rfl
theorem infoB : (Try.prog.info? 4).map (fun i => (i.zero, i.size, i.bytes)) = some (some (.bool false), 1, 1) := by kernel_rfl
theorem primes_few (z : Int) (h : z < 2) : IntsAns 9 (.int .i64 z) [] := by
  intro w
  go_enter Try.func9, Try.ntmps9
  go_wp2
  go_ret
  exact ⟨none, 0, rfl, ⟨by simp, by unfold maxLen; omega, fun i x hx => by simp at hx⟩, Below.refl _ _⟩
set_option maxRecDepth 100000 in
set_option maxHeartbeats 4000000 in
theorem primes_walk (z : Int) (u : Nat) (h2 : 2 ≤ z) (hz : z ≤ 9223372036854775807) (hu : min z 65536 = (u : Int)) (hu2 : 2 ≤ u) (hu6 : u ≤ 65536) : IntsAns 9 (.int .i64 z) (prms (u + 1)) := by
  intro w
  obtain ⟨ii, hii, hzi, hsi, hbi⟩ := info_parts infoI
  obtain ⟨ib, hib, hzb, hsb, hbb⟩ := info_parts infoB
  go_enter Try.func9, Try.ntmps9
  go_wp2_with (at_make; refine Hid.out ?_)
  unfold Hid
  refine wpList_make_full _ rfl _ _ 52 rfl w.heap.size 4 ib _ 1 Try.underlying52 hib hzb hsb .i64 .i64 ((u : Int) + 1) ((u : Int) + 1) (u + 1) rfl rfl (by omega) (by omega) (by rw [hbb]; omega) (by unfold maxLen; omega) (Nat.le_refl _) ?_
  intro w1 hR hG1
  have hR1 : w1.ownsRow w.heap.size 4 1 (.slice (some ⟨w.heap.size, 0, none⟩) (u + 1) (u + 1)) (u + 1) (rowB (u + 1) fun _ => false) := by
    have e : (madeCells (Value.bool false).cells ((u + 1) * 1)).toList = rowB (u + 1) fun _ => false := by
      rw [Nat.mul_one, show (Value.bool false).cells = #[.bool false] from rfl, toList_madeCells_one]
      apply List.ext_getElem?
      intro m
      by_cases hm : m < u + 1
      · rw [rowB_get hm, List.getElem?_replicate, if_pos hm]
      · rw [List.getElem?_eq_none (by simp; omega), List.getElem?_eq_none (by simp [rowB]; omega)]
    rw [← e]; exact hR
  have hB1 : Below w.heap.size w w1 := (Below.refl _ _).grown hG1 (Nat.le_refl _) (fun k ek => by cases ek)
  obtain ⟨gc, hgc⟩ : ∃ gc, w.heap.size = gc := ⟨_, rfl⟩
  have HGC : Hid (w.heap.size = gc) := hgc
  have hR2 := hR1
  rw [show (Value.slice (some ⟨w.heap.size, 0, none⟩) (u + 1) (u + 1)) = .slice (some ⟨gc, 0, none⟩) (u + 1) (u + 1) by rw [hgc]] at hR2
  have HR2 : Hid (w1.ownsRow w.heap.size 4 1 (.slice (some ⟨gc, 0, none⟩) (u + 1) (u + 1)) (u + 1) (rowB (u + 1) fun _ => false)) := hR2
  obtain ⟨u1, hu1⟩ : ∃ u1, u + 1 = u1 := ⟨_, rfl⟩
  have HU1 : Hid (u + 1 = u1) := hu1
  rw [hu1] at HR2 ⊢
  rw [hgc]
  clear hR hR1 hR2 hG1 hgc hu1
  go_wp2
  go_loopw [3, 5] (fun out v wr => ∃ (n : Nat) (c : Nat → Bool), v = .int .i64 (n : Int) ∧ 2 ≤ n ∧ n ≤ u + 1 ∧ Hid (CrOut u n c) ∧ Hid (wr.ownsRow w.heap.size 3 1 out (prms n).length ((prms n).map encI)) ∧ Hid (wr.ownsRow w.heap.size 4 1 (.slice (some ⟨gc, 0, none⟩) u1 u1) u1 (rowB u1 c)) ∧ Below w.heap.size w wr) (fun _ v _ => u + 1 - (intOf v).toNat)
  case atStart => exact ⟨2, _, rfl, by omega, by omega, CrOut.start u, (by unfold Hid; rw [prms_two]; exact World.ownsRow_nil _ _ _ _), HR2, hB1⟩
  case round =>
    clear HR2 hB1
    obtain ⟨n, c, rfl, hn2, hnu, HC, HP, HB, hB⟩ := hrel
    have hu1 := HU1.out
    by_cases hle : n ≤ u
    · have hcn : wr.cell? ⟨gc, n, none⟩ = some (.bool (c n)) := (World.ownsRow.cellAt HB.out n (by omega)).trans (rowB_get (by omega))
      have hat := HC.out.at hle hn2
      cases hc : c n with
      | true =>
        rw [hc] at hcn
        have hnp := hat.1 hc
        have HC2 : Hid (CrOut u (n + 1) c) := HC.out.skip hnp
        have HP2 : Hid (wr.ownsRow w.heap.size 3 1 u3 (prms (n + 1)).length ((prms (n + 1)).map encI)) := by unfold Hid; rw [prms_no hnp]; exact HP.out
        clear hat hnp hc HC HP
        go_wp2
        go_roundw
        case rel => exact ⟨n + 1, c, by go_num, by omega, by omega, HC2, HP2, HB, hB⟩
        case measure => simp [intOf]; omega
      | false =>
        rw [hc] at hcn
        have hp : Prm n := Classical.byContradiction fun h => by rw [hat.2 h] at hc; cases hc
        have HPr : Hid (Prm n) := hp
        have HC2 : Hid (CrIn u n (2 * n) c) := HC.out.inn
        obtain ⟨kk, hkk⟩ : ∃ kk, (prms n).length = kk := ⟨_, rfl⟩
        have hkl : kk ≤ n := hkk ▸ prms_len n
        have HK : Hid ((prms n).length = kk) := hkk
        have hO := HP.out
        rw [hkk] at hO
        have hnews : ∀ i x, [Value.int .i64 (n : Int)][i]? = some x → (wr.alloc (.cells #[.int .i64 (n : Int)] 3)).cell? ((⟨wr.heap.size, 0, none⟩ : Addr).add i) = some x := by
          intro i x hx
          rw [Addr.add_lit, World.cell?_alloc_at _ _ _ _ rfl]
          match i, hx with
          | 0, hx => cases hx; rfl
          | i + 1, hx => simp at hx
        have hO2 := World.ownsRow.alloc hO (.cells #[.int .i64 (n : Int)] 3)
        have hBa : Below w.heap.size w (wr.alloc (.cells #[.int .i64 (n : Int)] 3)) := bb hB (below_alloc _ _)
        have HBa : Hid ((wr.alloc (.cells #[.int .i64 (n : Int)] 3)).ownsRow w.heap.size 4 1 (.slice (some ⟨gc, 0, none⟩) u1 u1) u1 (rowB u1 c)) := World.ownsRow.alloc HB.out _
        clear hat hp hc HC HP HB hkk hO
        go_wp2_with (at_builtin; refine Hid.out ?_)
        unfold Hid
        refine (wpList_append_own _ rfl _ _ 23 rfl w.heap.size 3 ii _ 1 8 Try.underlying23 hii hzi hsi hbi rfl (by omega) _ kk _ rfl hO2 ⟨wr.heap.size, 0, none⟩ 1 1 [.int .i64 (n : Int)] rfl rfl hnews (by simp [Value.oneCell']) (by unfold maxLen; omega) (by omega) hBa.size ?_)
        intro v' w5 hO3 hG _
        have HP3 : Hid (w5.ownsRow w.heap.size 3 1 v' (prms (n + 1)).length ((prms (n + 1)).map encI)) := by
          unfold Hid
          rw [prms_yes HPr.out, List.length_append, HK.out, List.map_append]; exact hO3
        have hB5 : Below w.heap.size w w5 := hBa.grown hG hBa.size (fun k hk => (hO2.lt k hk).1)
        have HB5 : Hid (w5.ownsRow w.heap.size 4 1 (.slice (some ⟨gc, 0, none⟩) u1 u1) u1 (rowB u1 c)) := World.ownsRow.kept HBa.out hG (owns_apart HBa.out hO2 (by decide))
        clear hO3 hG hO2 hBa hnews HBa hB hcn
        go_wp2
        go_loopw [6] (fun v wi => ∃ (j t : Nat) (c : Nat → Bool), v = .int .i64 (j : Int) ∧ Hid (j = n * t) ∧ 2 ≤ t ∧ 2 ≤ j ∧ j ≤ u + n ∧ Hid (CrIn u n j c) ∧ Hid (wi.ownsRow w.heap.size 3 1 v' (prms (n + 1)).length ((prms (n + 1)).map encI)) ∧ Hid (wi.ownsRow w.heap.size 4 1 (.slice (some ⟨gc, 0, none⟩) u1 u1) u1 (rowB u1 c)) ∧ Below w.heap.size w wi) (fun v _ => u + n + 1 - (intOf v).toNat)
        case atStart => exact ⟨2 * n, 2, c, by go_num, by unfold Hid; rw [Nat.mul_comm], by omega, by omega, by omega, HC2, HP3, HB5, hB5⟩
        case round =>
          clear HC2 HP3 HB5 hB5
          obtain ⟨j, t, c, rfl, HJ, ht, hj2, hju, HC, HP, HB, hB⟩ := hrel
          by_cases hjl : j ≤ u
          · have hcj : wr.cell? ⟨gc, j, none⟩ = some (.bool (c j)) := (World.ownsRow.cellAt HB.out j (by omega)).trans (rowB_get (by omega))
            have hfj : wr.frozen? ⟨gc, j, none⟩ = false := World.ownsRow.frozenAt HB.out j
            have HC2 : Hid (CrIn u n (j + n) (crossed c j)) := by
              have h1 := HC.out
              unfold Hid
              rw [HJ.out] at h1 ⊢
              exact h1.step (by omega) ht
            obtain ⟨hR3, hG3⟩ := World.ownsRow.stored HB.out j (.bool true)
            rw [rowB_set] at hR3
            have HB3 : Hid ((wr.setCell ⟨gc, j, none⟩ (.bool true)).ownsRow w.heap.size 4 1 (.slice (some ⟨gc, 0, none⟩) u1 u1) u1 (rowB u1 (crossed c j))) := hR3
            have HP3 : Hid ((wr.setCell ⟨gc, j, none⟩ (.bool true)).ownsRow w.heap.size 3 1 v' (prms (n + 1)).length ((prms (n + 1)).map encI)) := World.ownsRow.kept HP.out hG3 (owns_apart HP.out HB.out (by decide))
            have hB3 : Below w.heap.size w (wr.setCell ⟨gc, j, none⟩ (.bool true)) := hB.setCell (p := ⟨gc, j, none⟩) (by rw [HGC.out]; exact Nat.le_refl _) _
            have HJ2 : Hid (j + n = n * (t + 1)) := by unfold Hid; rw [HJ.out, Nat.mul_add, Nat.mul_one]
            clear hR3 hG3 HC HP HB
            go_wp2
            go_roundw
            case rel => exact ⟨j + n, t + 1, crossed c j, by go_num, HJ2, by omega, by omega, by omega, HC2, HP3, HB3, hB3⟩
            case measure => simp [intOf]; omega
          · have HC2 : Hid (CrOut u (n + 1) c) := HC.out.done HPr.out (by omega)
            clear HC
            go_wp2
            go_roundw
            case rel => exact ⟨n + 1, c, by go_num, by omega, by omega, HC2, HP, HB, hB⟩
            case measure => simp [intOf]; omega
    · obtain rfl : n = u + 1 := by omega
      obtain ⟨A, C, hv, hIA⟩ := ints_of_row HP.out
      subst hv
      clear HC HB HP
      go_wp2
      go_ret
      exact ⟨A, C, rfl, hIA, hB⟩
/-- Primes. -/
noncomputable def prmsTo (z : Int) : List Nat := if z < 2 then [] else prms ((min z 65536).toNat + 1)
theorem primes_any (z : Int) (hz : z ≤ 9223372036854775807) : IntsAns 9 (.int .i64 z) (prmsTo z) := by
  unfold prmsTo
  by_cases h : z < 2
  · rw [if_pos h]; exact primes_few z h
  · rw [if_neg h]; exact primes_walk z _ (by omega) hz (by omega) (by omega) (by omega)
end Go.Proofs.Ytafmmkhegkceiaa

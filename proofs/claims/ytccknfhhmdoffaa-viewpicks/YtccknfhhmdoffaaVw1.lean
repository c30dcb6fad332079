/-
  What the small functions of views answer: cut, hasAxis, stepsFit, great, of, empty, Index, Contains, same. No condition but that rows lie there.
-/
import Derived.Test.YtccknfhhmdoffaaVw0
import Derived.Test.YtccknfhhmdoffaaSh12
namespace Go.Proofs.Ytccknfhhmdoffaa
set_option linter.unusedVariables false
open Go.RowKit

/-- A view, as a value. -/
def vw (o : Int) (A : Option Addr) (L C : Nat) (A' : Option Addr) (L' C' : Nat) : Value := .agg #[.int .i64 o, .slice A L C, .slice A' L' C']
/-- The empty one. -/
def vw0 : Value := .agg #[.int .i64 0, .slice none 0 0, .slice none 0 0]

theorem cut_any (z : Int) : Ans 42 #[.int .i64 z] (.int .i64 (ct z)) := by
  intro w
  by_cases h1 : 1099511627776 < z
  · have e : ct z = 1099511627776 := by unfold ct; rw [if_pos h1]
    rw [e]
    go_enter Try.func42, Try.ntmps42
    go_wp2
    go_ret
    exact ⟨rfl, 0, rfl⟩
  · by_cases h2 : z < -1099511627776
    · have e : ct z = -1099511627776 := by unfold ct; rw [if_neg h1, if_pos h2]
      rw [e]
      go_enter Try.func42, Try.ntmps42
      go_wp2
      go_ret
      exact ⟨rfl, 0, rfl⟩
    · have e : ct z = z := by unfold ct; rw [if_neg h1, if_neg h2]
      rw [e]
      go_enter Try.func42, Try.ntmps42
      go_wp2
      go_ret
      exact ⟨rfl, 0, rfl⟩

def axB (L : Nat) (k : Int) : Bool := decide (0 ≤ k ∧ k < (L : Int))
theorem hasAxis_any (W : World) (o : Int) (A : Option Addr) (L C : Nat) (A' : Option Addr) (L' C' : Nat) (k : Int) : AnsB W 47 #[vw o A L C A' L' C', .int .i64 k] (.bool (axB L k)) := by
  intro w hw
  unfold vw
  by_cases h0 : 0 ≤ k
  · by_cases h1 : k < (L : Int)
    · rw [show axB L k = true by simp [axB, h0, h1]]
      go_enter Try.func47, Try.ntmps47
      go_wp2
      go_ret
      exact ⟨rfl, below_alloc _ _⟩
    · rw [show axB L k = false by simp [axB]; omega]
      go_enter Try.func47, Try.ntmps47
      go_wp2
      go_ret
      exact ⟨rfl, below_alloc _ _⟩
  · rw [show axB L k = false by simp [axB]; omega]
    go_enter Try.func47, Try.ntmps47
    go_wp2
    go_ret
    exact ⟨rfl, below_alloc _ _⟩

/-- More than is played. -/
def gtB (L L' : Nat) : Bool := decide (20 < L ∨ 20 < L')
theorem great_any (W : World) (o : Int) (A : Option Addr) (L C : Nat) (A' : Option Addr) (L' C' : Nat) : AnsB W 11 #[vw o A L C A' L' C'] (.bool (gtB L L')) := by
  intro w hw
  unfold vw
  by_cases h0 : (20 : Int) < (L : Int)
  · rw [show gtB L L' = true by simp [gtB]; omega]
    go_enter Try.func11, Try.ntmps11
    go_wp2
    go_ret
    exact ⟨rfl, below_alloc _ _⟩
  · by_cases h1 : (20 : Int) < (L' : Int)
    · rw [show gtB L L' = true by simp [gtB]; omega]
      go_enter Try.func11, Try.ntmps11
      go_wp2
      go_ret
      exact ⟨rfl, below_alloc _ _⟩
    · rw [show gtB L L' = false by simp [gtB]; omega]
      go_enter Try.func11, Try.ntmps11
      go_wp2
      go_ret
      exact ⟨rfl, below_alloc _ _⟩

theorem of_any (W : World) (o : Int) (A : Option Addr) (L C : Nat) (A' : Option Addr) (L' C' : Nat) : AnsB W 12 #[vw o A L C A' L' C'] (vw o A L C A' L' C') := by
  intro w hw
  unfold vw
  go_enter Try.func12, Try.ntmps12
  go_wp2
  exact bodyPost_ret (v := .agg #[.int .i64 o, .slice A L C, .slice A' L' C']) (by simp [results, Try.results12, go_sem]) rfl ⟨rfl, (by repeat' (first | with_reducible exact Below.refl _ _ | with_reducible refine Below.setCell ?_ ?_ _ | with_reducible refine Below.alloc ?_ ?_ _ | omega | (simp; done) | (simp; omega)))⟩

theorem empty_any (W : World) : AnsB W 20 #[vw0] (.bool true) := by
  intro w hw
  unfold vw0
  go_enter Try.func20, Try.ntmps20
  go_wp2
  go_ret
  exact ⟨rfl, below_alloc _ _⟩

/-! ### stepsFit -/
/-- The document's condition for Slice. -/
def Fit (n f s c : Int) : Prop := 0 ≤ f ∧ f < n ∧ 1 ≤ c ∧ c ≤ n ∧ (c ≠ 1 → s ≠ 0 ∧ -n < s ∧ s < n ∧ 0 ≤ f + (c - 1) * s ∧ f + (c - 1) * s < n)
theorem mul_small {a b n : Int} (hn : n ≤ 4096) (ha : 0 ≤ a ∧ a < n) (hb : -n < b ∧ b < n) : -16777216 ≤ a * b ∧ a * b ≤ 16777216 := by
  have h1 := mul_mid (p := a) (m := 4096) (s := b) ha.1 (by omega)
  omega
theorem stepsFit_yes (n f s c : Int) (hn : n ≤ 4096) (h : Fit n f s c) : Ans 39 #[.int .i64 n, .int .i64 f, .int .i64 s, .int .i64 c] (.bool true) := by
  intro w
  obtain ⟨h1, h2, h3, h4, h5⟩ := h
  by_cases hc : c = 1
  · subst hc
    have h1' : ¬ f < 0 := by omega
    have h2' : ¬ n ≤ f := by omega
    have h3' : ¬ n < 1 := by omega
    clear h5 hn h4 h2 h1
    go_enter Try.func39, Try.ntmps39
    go_wp2
    go_ret
    exact ⟨rfl, 0, rfl⟩
  · obtain ⟨s0, s1, s2, l0, l1⟩ := h5 hc
    have h1' : ¬ f < 0 := by omega
    have h2' : ¬ n ≤ f := by omega
    have h3' : ¬ n < c := by omega
    have h4' : ¬ c < 1 := by omega
    have s1' : ¬ s ≤ -n := by omega
    have s2' : ¬ n ≤ s := by omega
    have hm := mul_small hn (a := c - 1) (b := s) (by omega) ⟨s1, s2⟩
    have e0 : wrap64 (-n) = -n := by unfold wrap64; omega
    obtain ⟨d, hd⟩ : ∃ d, c - 1 = d := ⟨_, rfl⟩
    have e1 : wrap64 (c - 1) = d := by rw [← hd]; unfold wrap64; omega
    rw [hd] at hm l0 l1
    obtain ⟨p, hp⟩ : ∃ p, d * s = p := ⟨_, rfl⟩
    rw [hp] at hm l0 l1
    have e2 : wrap64 (d * s) = p := by rw [hp]; unfold wrap64; omega
    obtain ⟨q, hq⟩ : ∃ q, f + p = q := ⟨_, rfl⟩
    have e3 : wrap64 (f + p) = q := by rw [← hq]; unfold wrap64; omega
    rw [hq] at l0 l1
    clear h5 hm hn h1 h2 h3 h4 hq hp hd
    go_enter Try.func39, Try.ntmps39
    go_wp2
    go_ret
    exact ⟨ret_b (by simp), 0, rfl⟩
theorem stepsFit_no (n f s c : Int) (h0 : 1 ≤ n) (hn : n ≤ 4096) (h : ¬ Fit n f s c) : Ans 39 #[.int .i64 n, .int .i64 f, .int .i64 s, .int .i64 c] (.bool false) := by
  intro w
  by_cases h1 : f < 0
  · go_enter Try.func39, Try.ntmps39
    go_wp2
    go_ret
    exact ⟨rfl, 0, rfl⟩
  by_cases h2 : n ≤ f
  · go_enter Try.func39, Try.ntmps39
    go_wp2
    go_ret
    exact ⟨rfl, 0, rfl⟩
  by_cases h3 : c < 1
  · go_enter Try.func39, Try.ntmps39
    go_wp2
    go_ret
    exact ⟨rfl, 0, rfl⟩
  by_cases h4 : n < c
  · go_enter Try.func39, Try.ntmps39
    go_wp2
    go_ret
    exact ⟨rfl, 0, rfl⟩
  by_cases hc : c = 1
  · exact absurd ⟨by omega, by omega, by omega, by omega, fun k => absurd hc k⟩ h
  have e0 : wrap64 (-n) = -n := by unfold wrap64; omega
  have H0 : Hid (1 ≤ n) := h0
  have HN : Hid (n ≤ 4096) := hn
  by_cases h5 : s = 0
  · subst h5
    clear h h0 hn
    go_enter Try.func39, Try.ntmps39
    go_wp2
    go_ret
    exact ⟨rfl, 0, rfl⟩
  by_cases h6 : s ≤ -n
  · clear h h0 hn
    go_enter Try.func39, Try.ntmps39
    go_wp2
    go_ret
    exact ⟨rfl, 0, rfl⟩
  by_cases h7 : n ≤ s
  · clear h h0 hn
    go_enter Try.func39, Try.ntmps39
    go_wp2
    go_ret
    exact ⟨rfl, 0, rfl⟩
  have hm := mul_small hn (a := c - 1) (b := s) (by omega) (by omega)
  have hq0 : ¬ (0 ≤ f + (c - 1) * s ∧ f + (c - 1) * s < n) := fun k => h ⟨by omega, by omega, by omega, by omega, fun _ => ⟨h5, by omega, by omega, k.1, k.2⟩⟩
  obtain ⟨d, hd⟩ : ∃ d, c - 1 = d := ⟨_, rfl⟩
  have e1 : wrap64 (c - 1) = d := by rw [← hd]; unfold wrap64; omega
  rw [hd] at hm hq0
  obtain ⟨p, hp⟩ : ∃ p, d * s = p := ⟨_, rfl⟩
  rw [hp] at hm hq0
  have e2 : wrap64 (d * s) = p := by rw [hp]; unfold wrap64; omega
  obtain ⟨q, hq⟩ : ∃ q, f + p = q := ⟨_, rfl⟩
  have e3 : wrap64 (f + p) = q := by rw [← hq]; unfold wrap64; omega
  rw [hq] at hq0
  clear hm hn h0 hq hp hd h
  by_cases l0 : 0 ≤ q
  · have l1 : ¬ q < n := fun k => hq0 ⟨l0, k⟩
    clear hq0
    go_enter Try.func39, Try.ntmps39
    go_wp2
    go_ret
    exact ⟨ret_b (by simp), 0, rfl⟩
  · clear hq0
    go_enter Try.func39, Try.ntmps39
    go_wp2
    go_ret
    exact ⟨rfl, 0, rfl⟩

/-! ### Index, Contains, same -/
def ixB (zs : List Int) (z : Int) : Int := match zs.findIdx? (· == z) with
  | none => -1
  | some k => (k : Int)
theorem fnd {l : List Int} {z : Int} {k : Nat} (hx : l[k]? = some z) (hb : ∀ j y, j < k → l[j]? = some y → y ≠ z) : ixB l z = (k : Int) := by
  obtain ⟨hk, rfl⟩ := List.getElem?_eq_some_iff.1 hx
  unfold ixB
  rw [show l.findIdx? (· == l[k]) = some k from List.findIdx?_eq_some_iff_getElem.2 ⟨hk, by simp, fun j hj => by
    simp; exact hb j _ hj (List.getElem?_eq_getElem (by omega))⟩]
theorem fnd_none {l : List Int} {z : Int} (hb : ∀ j y, j < l.length → l[j]? = some y → y ≠ z) : ixB l z = -1 ∧ z ∉ l := by
  refine ⟨?_, fun h => ?_⟩
  · unfold ixB
    rw [show l.findIdx? (· == z) = none from List.findIdx?_eq_none_iff.2 fun x hx => by
      obtain ⟨j, hj, rfl⟩ := List.getElem_of_mem hx
      simpa using hb j _ hj (List.getElem?_eq_getElem hj)]
  · obtain ⟨j, hj, e⟩ := List.getElem_of_mem h
    exact hb j _ hj (List.getElem?_eq_getElem hj) e
set_option maxHeartbeats 1000000 in
theorem index_any (W : World) (A : Option Addr) (C : Nat) (zs : List Int) (hZ : ZAt W A C zs) (z : Int) : AnsQ W 50 #[.slice A zs.length C, .int .i64 z] (.int .i64 (ixB zs z)) := by
  intro w hw
  have hlen := hZ.len
  obtain ⟨L, hL⟩ : ∃ L, zs.length = L := ⟨_, rfl⟩
  rw [hL] at hlen
  have HL : Hid (zs.length = L) := hL
  rw [hL]
  clear hL
  go_enter Try.func50, Try.ntmps50
  go_wp2
  go_loopw [8] (fun v wr => ∃ k : Nat, v = .int .i64 k ∧ k ≤ L ∧ Hid (∀ j y, j < k → zs[j]? = some y → y ≠ z) ∧ wr = w) (fun v _ => L - (intOf v).toNat)
  case atStart => exact ⟨0, rfl, by omega, fun j y hj => absurd hj (by omega), rfl⟩
  case round =>
    obtain ⟨k, rfl, hk, HI, rfl⟩ := hrel
    by_cases hlt : k < L
    · have hlt' : k < zs.length := by rw [HL.out]; exact hlt
      obtain ⟨y, hy⟩ : ∃ y, zs[k]? = some y := ⟨_, List.getElem?_eq_getElem hlt'⟩
      obtain ⟨b, o, rfl, hb, c0, _⟩ := hZ.get k y hy
      have c0' := ((bcell hw).1 b (o + k) hb).trans c0
      by_cases he : z = y
      · subst he
        have HE : Hid (ixB zs z = (k : Int)) := fnd hy HI.out
        clear c0 hy HI hlt'
        go_wp2
        go_ret
        exact ⟨ret_int HE.out.symm, rfl⟩
      · have HE : Hid (∀ j y, j < k + 1 → zs[j]? = some y → y ≠ z) := fun j y' hj hy' => by
          by_cases hjk : j = k
          · subst hjk; rw [hy] at hy'; cases hy'; exact fun e => he e.symm
          · exact HI.out j y' (by omega) hy'
        clear c0 hy HI hlt'
        go_wp2
        go_roundw
        case rel => exact ⟨k + 1, by go_num, by omega, HE, by first | rfl | trivial⟩
        case measure => simp [intOf]; omega
    · obtain rfl : k = L := by omega
      have HE : Hid (ixB zs z = -1 ∧ z ∉ zs) := fnd_none fun j y hj => HI.out j y (by rw [← HL.out]; exact hj)
      clear HI
      go_wp2
      go_ret
      exact ⟨ret_int HE.out.1.symm, rfl⟩
def inB (zs : List Int) (z : Int) : Bool := decide (z ∈ zs)
theorem ixB_in (zs : List Int) (z : Int) : decide (0 ≤ ixB zs z) = inB zs z := by
  unfold ixB inB
  cases h : zs.findIdx? (· == z) with
  | none =>
    have : z ∉ zs := fun hz => by have := List.findIdx?_eq_none_iff.1 h z hz; simp at this
    simp [this]
  | some k =>
    obtain ⟨hk, e, _⟩ := List.findIdx?_eq_some_iff_getElem.1 h
    have : z ∈ zs := by have := eq_of_beq e; rw [← this]; exact List.getElem_mem hk
    simp [this]
theorem contains_any (W : World) (A : Option Addr) (C : Nat) (zs : List Int) (hZ : ZAt W A C zs) (z : Int) : AnsQ W 48 #[.slice A zs.length C, .int .i64 z] (.bool (inB zs z)) := by
  intro w hw
  have HI := index_any W A C zs hZ z
  rw [← ixB_in]
  generalize ixB zs z = r at *
  generalize zs.length = L at *
  clear hZ
  go_enter Try.func48, Try.ntmps48
  go_wp2_with (go_at_call 50; with_reducible refine AnsQ.use HI hw ?_)
  go_ret
  exact ⟨rfl, rfl⟩
def smB (zs ss : List Int) : Bool := decide (zs = ss)
theorem smB_len {zs ss : List Int} (h : zs.length ≠ ss.length) : smB zs ss = false := by simp [smB]; exact fun e => h (by rw [e])
theorem take_same {zs ss : List Int} {k : Nat} {x : Int} (h : zs.take k = ss.take k) (h1 : zs[k]? = some x) (h2 : ss[k]? = some x) : zs.take (k + 1) = ss.take (k + 1) := by rw [take_snoc h1, take_snoc h2, h]
set_option maxHeartbeats 1000000 in
theorem same_any (W : World) (A : Option Addr) (C : Nat) (zs : List Int) (hZ : ZAt W A C zs) (A' : Option Addr) (C' : Nat) (ss : List Int) (hS : ZAt W A' C' ss) : AnsB W 15 #[.slice A zs.length C, .slice A' ss.length C'] (.bool (smB zs ss)) := by
  intro w hw
  have hlen := hZ.len
  have hlen' := hS.len
  by_cases hl : zs.length = ss.length
  · rw [← hl]
    obtain ⟨L, hL⟩ : ∃ L, zs.length = L := ⟨_, rfl⟩
    rw [hL] at hlen
    have HL : Hid (zs.length = L) := hL
    have HL' : Hid (ss.length = L) := by unfold Hid; rw [← hl, hL]
    rw [hL]
    clear hL hl hlen'
    go_enter Try.func15, Try.ntmps15
    go_wp2
    go_loopw [13] (fun v wr => ∃ k : Nat, v = .int .i64 k ∧ k ≤ L ∧ Hid (zs.take k = ss.take k) ∧ ∃ m, wr = w.drewN m) (fun v _ => L - (intOf v).toNat)
    case atStart => exact ⟨0, rfl, by omega, rfl, 0, rfl⟩
    case round =>
      obtain ⟨k, rfl, hk, HI, m, rfl⟩ := hrel
      by_cases hlt : k < L
      · have hlt' : k < zs.length := by rw [HL.out]; exact hlt
        have hlt2 : k < ss.length := by rw [HL'.out]; exact hlt
        obtain ⟨x, hx⟩ : ∃ x, zs[k]? = some x := ⟨_, List.getElem?_eq_getElem hlt'⟩
        obtain ⟨y, hy⟩ : ∃ y, ss[k]? = some y := ⟨_, List.getElem?_eq_getElem hlt2⟩
        obtain ⟨b, o, rfl, hb, c0, _⟩ := hZ.get k x hx
        obtain ⟨b', o', rfl, hb', c1, _⟩ := hS.get k y hy
        have c0' := ((bcell hw).1 b (o + k) hb).trans c0
        have c1' := ((bcell hw).1 b' (o' + k) hb').trans c1
        have hkL : (k : Int) < (L : Int) := by omega
        by_cases he : x = y
        · subst he
          have HE : Hid (zs.take (k + 1) = ss.take (k + 1)) := take_same HI.out hx hy
          clear c0 c1 hx hy HI hlt' hlt2
          go_wp2
          go_quiet ((fail))
          go_wp2
          go_roundw
          case rel => exact ⟨k + 1, by go_num, by omega, HE, _, rfl⟩
          case measure => simp [intOf]; omega
        · have HE : Hid (smB zs ss = false) := by
            unfold Hid; simp [smB]; intro e; subst e; rw [hx] at hy; cases hy; exact he rfl
          have hne : (x != y) = true := by simp [he]
          clear c0 c1 hx hy HI hlt' hlt2
          go_wp2
          go_quiet ((fail))
          go_wp2
          go_ret
          exact ⟨ret_b HE.out.symm, below_dN (below_dN (Below.refl _ _) _) _⟩
      · obtain rfl : k = L := by omega
        have HE : Hid (smB zs ss = true) := by
          have := HI.out
          rw [← HL.out, List.take_length, HL.out, ← HL'.out, List.take_length] at this
          simp [Hid, smB, this]
        clear HI
        go_wp2
        go_ret
        exact ⟨ret_b HE.out.symm, below_dN (Below.refl _ _) _⟩
  · rw [smB_len hl]
    have hl' : ¬ (zs.length : Int) = (ss.length : Int) := by omega
    generalize zs.length = L at *
    generalize ss.length = L' at *
    clear hZ hS
    go_enter Try.func15, Try.ntmps15
    go_wp2
    go_ret
    exact ⟨rfl, Below.refl _ _⟩
end Go.Proofs.Ytccknfhhmdoffaa

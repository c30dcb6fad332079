/-
  What radix2.turned, ended and check, and slices.Clone of words, answer. No condition but that the rows, the field and the library's table lie there.
-/
import Derived.Test.YtpjfapibjihbbaaGreatDoorF34
import Derived.Test.YtpjfapibjihbbaaGreatDoorF30
import Derived.Test.YtpjfapibjihbbaaGreatDoorF33
import Derived.Deep.RegionWith
namespace Go.Proofs.YtpjfapibjihbbaaGreatDoor
set_option linter.unusedVariables false
open Go.RowKit

/-! ### Clone -/
/-! ### turned -/
theorem lf_zero (n : Nat) : lf n (fun _ => 0) = List.replicate n 0 := by
  apply List.ext_getElem?
  intro j
  by_cases h : j < n
  · rw [lf_get _ h, List.getElem?_replicate, if_pos h]
  · rw [List.getElem?_eq_none (by rw [lf_len]; omega), List.getElem?_eq_none (by simp; omega)]
/-- The first k places laid where they go. -/
def trF (T : Nat → Nat) (xs : List Nat) (k i : Nat) : Nat := if T i < k then atL xs (T i) else 0
theorem trF_set {T : Nat → Nat} {xs : List Nat} {n k : Nat} (hT : ∀ i, i < n → T i < n ∧ T (T i) = i) (hk : k < n) : (lf n (trF T xs k)).set (T k) (atL xs k) = lf n (trF T xs (k + 1)) := by
  refine lf_set fun j hj => ?_
  unfold trF
  by_cases e : j = T k
  · rw [if_pos e, e, (hT k hk).2, if_pos (by omega)]
  · have hne : T j ≠ k := fun h => e (by rw [← h, (hT j hj).2])
    rw [if_neg e]
    by_cases h : T j < k
    · rw [if_pos h, if_pos (by omega)]
    · rw [if_neg h, if_neg (by omega)]
theorem two_tn (c : Nat) : ∀ i, i < 2 ^ c → tn (two c) i < 2 ^ c ∧ tn (two c) (tn (two c) i) = i := fun i hi => ⟨two_lt c i, by rw [two_back, Nat.mod_eq_of_lt hi]⟩
/-! ### ended -/
/-! ### check -/
/-- What is wrong with a list that is to be transformed by halves. -/
def ck2 (p : Nat) (xs : List Nat) : Int := if ckD p (xs.length : Int) 4096 ≠ 0 then ckD p (xs.length : Int) 4096 else if fitV (xs.length : Int) = false then 11 else if goodB p xs = false then 9 else 0
theorem ck2_ok {p : Nat} {xs : List Nat} (h : ck2 p xs = 0) : ∃ c, c ≤ 12 ∧ xs.length = 2 ^ c ∧ (p - 1) % xs.length = 0 ∧ ∀ y ∈ xs, y < p := by
  unfold ck2 at h
  by_cases h0 : ckD p (xs.length : Int) 4096 = 0
  · rw [if_neg (by omega)] at h
    obtain ⟨h1, h2, h3⟩ := ckD_ok h0
    cases hf : fitV (xs.length : Int)
    · rw [hf, if_pos rfl] at h; cases h
    · rw [hf, if_neg (by decide)] at h
      cases hg : goodB p xs
      · rw [hg, if_pos rfl] at h; cases h
      · obtain ⟨c, hc, e⟩ := fit_two hf
        exact ⟨c, hc, e, h3, goodB_iff.1 hg⟩
  · rw [if_pos h0] at h; exact absurd h h0
end Go.Proofs.YtpjfapibjihbbaaGreatDoor
/-
  What radix2.Up answers: a new row, or which error. No condition but that the field, the list and the library's table lie there.
-/
namespace Go.Proofs.YtpjfapibjihbbaaGreatDoor
set_option linter.unusedVariables false
open Go.RowKit

/-- What ended answers, of what lies there as the sums. -/
structure Ends (W : World) (a : Option Addr) (i : Bool) (n : Nat) (s l : List Nat) : Prop where
  len : l.length = n
  no : i = false → l = s
  yes : i = true → ∀ w B D, Below W.heap.size W w → UAt w B D s → OwnR w 85 #[.pointer a, .slice B n D] l
end Go.Proofs.YtpjfapibjihbbaaGreatDoor
/-
  Pairs put together, and parted, with a field's table; a transform's sums, and what is made of them behind; radix2.Up whole. No condition but that the field, the list and the library's table lie there.
-/
namespace Go.Proofs.YtpjfapibjihbbaaGreatDoor
set_option linter.unusedVariables false
open Go.RowKit

/-! ### With a field -/
theorem tab_at {w p n k l : Nat} (h : ((pws w p n).map fun y => up y p)[k]? = some l) : l = up (w ^ k % p) p := by
  rw [List.getElem?_map] at h
  have hk : k < n := by
    by_cases e : k < n
    · exact e
    · rw [List.getElem?_eq_none (by rw [pws_len]; omega)] at h; cases h
  rw [pws_get hk] at h
  simp only [Option.map_some, Option.some.injEq] at h
  exact h.symm
/-! ### Sums -/
/-- The sums of powers, ahead of the scale. -/
def smL (x : En) (i : Bool) (xs : List Nat) : List Nat := lf xs.length fun k => tS (twR x xs.length i) xs.length (atL xs) k % x.p
theorem smL_len (x : En) (i : Bool) (xs : List Nat) : (smL x i xs).length = xs.length := lf_len _ _
theorem ends_any {W : World} {b : Nat} {x : En} (F : FieldAt W b x) (hF : Fld x) {xs : List Nat} (h1 : 1 ≤ xs.length) (hn : xs.length ≤ 4096) (hd : (x.p - 1) % xs.length = 0) (i : Bool) : Ends W (some ⟨b, 0, none⟩) i xs.length (smL x i xs) (dT x i xs) := by
  obtain ⟨h3, hodd, hlt⟩ := hF.num
  refine ⟨dT_len x i xs, fun e => ?_, fun e w B D hw hV => ?_⟩
  · subst e; rfl
  · subst e
    obtain ⟨v, hv, HS⟩ := scale_any (F.below hw) hF hV (by rw [smL_len]; exact hn)
    rw [smL_len] at hv HS
    have ev : v = invN x xs.length := by
      have hi := (len_inv hF h1 hd).2.2
      have hne := (len_inv hF h1 hd).1
      have hy := hv.yes hne
      have e1 : v = v * (xs.length * invN x xs.length) % x.p := by
        rw [Nat.mul_mod, hi, Nat.mul_one, Nat.mod_mod, Nat.mod_eq_of_lt hv.lt]
      rw [e1, ← Nat.mul_assoc, Nat.mul_comm v, Nat.mul_mod, hy, Nat.one_mul, Nat.mod_mod]
      exact Nat.mod_eq_of_lt (Nat.mod_lt _ (by omega))
    have e2 : (smL x true xs).map (fun y => v * y % x.p) = dT x true xs := by
      unfold smL lf
      rw [List.map_map]
      unfold dT
      apply List.map_congr_left
      intro k _
      show v * (tS (twR x xs.length true) xs.length (atL xs) k % x.p) % x.p = dV x true xs k
      unfold dV
      rw [if_pos rfl, ev, Nat.mul_comm]
    rw [e2] at HS
    exact HS

/-! ### Up -/
/-- The list behind so many steps. -/
def ups (p w c : Nat) (A : Nat → Nat) : Nat → Nat → Nat
  | 0 => A
  | k + 1 => jN p w (2 ^ k) (2 ^ (c - k - 1)) (ups p w c A k)
theorem ups_bk {p w c : Nat} {x : Nat → Nat} (hp : Prm p) (h3 : 3 ≤ p) (ho : OrdN w p (2 ^ c)) : ∀ k, k ≤ c → Bk w p (two c) x (ups p w c (fun i => x (tn (two c) i)) k) (c - k)
  | 0, _ => by
    have := Bk.start (w := w) (p := p) (rs := two c) (x := x) (A := fun i => x (tn (two c) i)) fun j hj => by
      rw [two_pr] at hj
      show x _ % p = _
      rw [two_back, Nat.mod_eq_of_lt hj]
    rw [two_len] at this
    exact this
  | k + 1, hk => by
    have h := ups_bk (x := x) hp h3 ho k (by omega)
    obtain ⟨j, hj⟩ : ∃ j, c - (k + 1) = j := ⟨_, rfl⟩
    rw [show c - k = j + 1 by omega] at h
    have := jn_step hp h3 (show j < c by omega) ho h
    rw [hj, ups]
    rw [show c - j - 1 = k by omega, show j = c - k - 1 by omega] at this
    rw [show j = c - k - 1 by omega]
    exact this
theorem ups_lt {p w c : Nat} {A : Nat → Nat} (hp : 0 < p) (hA : ∀ j, j < 2 ^ c → A j < p) : ∀ k j, j < 2 ^ c → ups p w c A k j < p
  | 0, j, hj => hA j hj
  | k + 1, j, hj => jN_lt hp _ _ _ _ _
end Go.Proofs.YtpjfapibjihbbaaGreatDoor
/-
  What radix2.Down answers: a new row, or which error. No condition but that the field, the list and the library's table lie there.
-/
namespace Go.Proofs.YtpjfapibjihbbaaGreatDoor
set_option linter.unusedVariables false
open Go.RowKit

/-- Half of a length that halves are still made of: how long the halves are behind k steps; nothing, behind all. -/
theorem hv_lt {c k : Nat} (h : k < c) : 2 ^ (c - k) / 2 = 2 ^ (c - k - 1) := by
  obtain ⟨m, hm⟩ : ∃ m, c - k - 1 = m := ⟨_, rfl⟩
  rw [hm, show c - k = m + 1 by omega, Nat.pow_succ, Nat.mul_div_cancel _ (by omega)]
theorem hv_end (c : Nat) : 2 ^ (c - c) / 2 = 0 := by rw [Nat.sub_self]
theorem hv_next {c k : Nat} (h : k < c) : 2 ^ (c - k) / 2 / 2 = 2 ^ (c - (k + 1)) / 2 := by rw [hv_lt h]; congr 1
/-- The list behind so many steps. -/
def dns (p w c : Nat) (A : Nat → Nat) : Nat → Nat → Nat
  | 0 => A
  | k + 1 => qN p w (2 ^ (c - k - 1)) (2 ^ k) (dns p w c A k)
theorem dns_dk {p w c : Nat} {x : Nat → Nat} (hp : Prm p) (h3 : 3 ≤ p) (ho : OrdN w p (2 ^ c)) : ∀ k, k ≤ c → Dk w p (two c) (fun k => tS w (2 ^ c) x k) (dns p w c x k) k
  | 0, _ => Dk.start fun k _ => by rw [two_pr]; rfl
  | k + 1, hk => qn_step hp h3 (by omega) ho (dns_dk (x := x) hp h3 ho k (by omega))
theorem dns_lt {p w c : Nat} {A : Nat → Nat} (hp : 0 < p) (hA : ∀ j, j < 2 ^ c → A j < p) : ∀ k j, j < 2 ^ c → dns p w c A k j < p
  | 0, j, hj => hA j hj
  | k + 1, j, hj => qN_lt hp _ _ _ _ _
end Go.Proofs.YtpjfapibjihbbaaGreatDoor

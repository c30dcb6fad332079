/-
  Plain mathematics of layer 12: lists by their places; pairs put together, and parted, block by block, some of them done; the transform by halves, from pairs up and down to pairs. No condition.
-/
import Derived.Test.YtpjfapibjihbbaaGreatDoorF32
import Derived.Test.YtpjfapibjihbbaaGreatDoorF30
import Derived.Test.YtpjfapibjihbbaaGreatDoorF3
import Derived.Deep.RegionWith
namespace Go.Proofs.YtpjfapibjihbbaaGreatDoor
set_option linter.unusedVariables false

/-! ### Lists by their places -/
def lf (n : Nat) (f : Nat → Nat) : List Nat := (List.range n).map f
theorem lf_len (n : Nat) (f : Nat → Nat) : (lf n f).length = n := by simp [lf]
theorem lf_get {n j : Nat} (f : Nat → Nat) (h : j < n) : (lf n f)[j]? = some (f j) := by
  unfold lf; rw [List.getElem?_map, List.getElem?_range h]; rfl
theorem lf_at {n j : Nat} (f : Nat → Nat) (h : j < n) : atL (lf n f) j = f j := atL_of (lf_get f h)
theorem lf_ext {n : Nat} {f g : Nat → Nat} (h : ∀ j, j < n → f j = g j) : lf n f = lf n g := by
  unfold lf; exact List.map_congr_left fun j hj => h j (List.mem_range.1 hj)
theorem lf_of (xs : List Nat) : lf xs.length (atL xs) = xs := list_ext (lf_len _ _) fun k hk => by rw [lf_len] at hk; rw [lf_at _ hk]
theorem lf_lt {n b : Nat} {f : Nat → Nat} (h : ∀ j, j < n → f j < b) : ∀ y ∈ lf n f, y < b := fun y hy => by
  obtain ⟨j, hj, rfl⟩ := List.mem_map.1 hy
  exact h j (List.mem_range.1 hj)
theorem lf_set {n k y : Nat} {f g : Nat → Nat} (h : ∀ j, j < n → g j = if j = k then y else f j) : (lf n f).set k y = lf n g := by
  apply List.ext_getElem?
  intro j
  rw [List.getElem?_set, lf_len]
  by_cases hj : j < n
  · rw [lf_get g hj, lf_get f hj, h j hj]
    by_cases e : k = j
    · rw [if_pos e, if_pos e.symm, if_pos (by omega)]
    · rw [if_neg e, if_neg (fun h => e h.symm)]
  · rw [List.getElem?_eq_none (by rw [lf_len]; omega), List.getElem?_eq_none (by rw [lf_len]; omega)]
    split
    · rw [if_neg (by omega)]
    · rfl

/-! ### Blocks of pairs -/
theorem pl_lo {M b i : Nat} (hi : i < M) : (2 * M * b + i) / (2 * M) = b ∧ (2 * M * b + i) % (2 * M) = i ∧ (2 * M * b + i) % M = i := by
  refine ⟨?_, ?_, ?_⟩
  · rw [Nat.mul_add_div (by omega), Nat.div_eq_of_lt (by omega), Nat.add_zero]
  · rw [Nat.mul_add_mod, Nat.mod_eq_of_lt (by omega)]
  · rw [Nat.mul_comm 2 M, Nat.mul_assoc, Nat.mul_add_mod, Nat.mod_eq_of_lt hi]
theorem pl_hi {M b i : Nat} (hi : i < M) : (2 * M * b + M + i) / (2 * M) = b ∧ (2 * M * b + M + i) % (2 * M) = M + i ∧ (2 * M * b + M + i) % M = i := by
  refine ⟨?_, ?_, ?_⟩
  · rw [Nat.add_assoc, Nat.mul_add_div (by omega), Nat.div_eq_of_lt (by omega), Nat.add_zero]
  · rw [Nat.add_assoc, Nat.mul_add_mod, Nat.mod_eq_of_lt (by omega)]
  · rw [Nat.mul_comm 2 M, Nat.mul_assoc, Nat.add_assoc, Nat.mul_add_mod, Nat.add_mod_left, Nat.mod_eq_of_lt hi]
theorem pl_of {M j : Nat} (hM : 1 ≤ M) : j = 2 * M * (j / (2 * M)) + j % M ∨ j = 2 * M * (j / (2 * M)) + M + j % M := by
  have h1 := Nat.div_add_mod j (2 * M)
  have h2 := Nat.mod_lt j (show 0 < 2 * M by omega)
  have h3 : j % M = j % (2 * M) % M := (Nat.mod_mul_left_mod j 2 M).symm
  generalize 2 * M * (j / (2 * M)) = q at h1 ⊢
  generalize j % (2 * M) = r at h1 h2 h3
  by_cases h : r < M
  · left; rw [h3, Nat.mod_eq_of_lt h]; omega
  · right
    have h4 : r % M = r - M := by rw [Nat.mod_eq_sub_mod (by omega), Nat.mod_eq_of_lt (by omega)]
    rw [h3, h4]; omega
/-- The first so many blocks done, and of the next one the first so many pairs. -/
def stF (M : Nat) (A N : Nat → Nat) (b i j : Nat) : Nat := if j / (2 * M) < b ∨ (j / (2 * M) = b ∧ j % M < i) then N j else A j
theorem stF_zero (M : Nat) (A N : Nat → Nat) (j : Nat) : stF M A N 0 0 j = A j := by unfold stF; rw [if_neg (fun h => h.elim (fun h => absurd h (Nat.not_lt_zero _)) fun h => absurd h.2 (Nat.not_lt_zero _))]
theorem stF_all {M P : Nat} (hM : 1 ≤ M) (A N : Nat → Nat) {j : Nat} (h : j < 2 * M * P) : stF M A N P 0 j = N j := by
  unfold stF; rw [if_pos (Or.inl (Nat.div_lt_of_lt_mul h))]
theorem stF_next {M : Nat} (hM : 1 ≤ M) (A N : Nat → Nat) (b j : Nat) : stF M A N b M j = stF M A N (b + 1) 0 j := by
  have := Nat.mod_lt j (show 0 < M by omega)
  unfold stF
  by_cases h : j / (2 * M) < b + 1
  · rw [if_pos (by omega), if_pos (by omega)]
  · rw [if_neg (by omega), if_neg (by omega)]
theorem stF_lo {M b i : Nat} (hi : i < M) (A N : Nat → Nat) : stF M A N b i (2 * M * b + i) = A (2 * M * b + i) := by
  obtain ⟨h1, _, h3⟩ := pl_lo (b := b) hi
  unfold stF; rw [h1, h3, if_neg (by omega)]
theorem stF_hi {M b i : Nat} (hi : i < M) (A N : Nat → Nat) : stF M A N b i (2 * M * b + M + i) = A (2 * M * b + M + i) := by
  obtain ⟨h1, _, h3⟩ := pl_hi (b := b) hi
  unfold stF; rw [h1, h3, if_neg (by omega)]
theorem stF_step {M n b i : Nat} (A N : Nat → Nat) (hi : i < M) : ((lf n (stF M A N b i)).set (2 * M * b + i) (N (2 * M * b + i))).set (2 * M * b + M + i) (N (2 * M * b + M + i)) = lf n (stF M A N b (i + 1)) := by
  rw [lf_set (g := fun j => if j = 2 * M * b + i then N j else stF M A N b i j) fun j _ => by
    by_cases e : j = 2 * M * b + i
    · rw [if_pos e, if_pos e, e]
    · rw [if_neg e, if_neg e]]
  refine lf_set fun j _ => ?_
  obtain ⟨h1, _, h3⟩ := pl_lo (b := b) hi
  obtain ⟨h4, _, h6⟩ := pl_hi (b := b) hi
  by_cases e : j = 2 * M * b + M + i
  · subst e
    rw [if_pos rfl]
    unfold stF; rw [h4, h6, if_pos (by omega)]
  · rw [if_neg e]
    by_cases e2 : j = 2 * M * b + i
    · subst e2
      rw [if_pos rfl]
      unfold stF; rw [h1, h3, if_pos (by omega)]
    · rw [if_neg e2]
      unfold stF
      have hp := pl_of (M := M) (j := j) (by omega)
      have hne : ¬ (j / (2 * M) = b ∧ j % M = i) := by
        rintro ⟨ea, eb⟩
        rw [ea, eb] at hp
        omega
      by_cases h : j / (2 * M) < b ∨ (j / (2 * M) = b ∧ j % M < i)
      · rw [if_pos h, if_pos (by omega)]
      · rw [if_neg h, if_neg (by omega)]

/-! ### Pairs put together, and parted -/
/-- A pair put together: the first one and v's power times the second one; the sum, the difference. -/
def jN (p v M P : Nat) (A : Nat → Nat) (j : Nat) : Nat :=
  if j % (2 * M) < M then (A (2 * M * (j / (2 * M)) + j % M) + v ^ (j % M * P) % p * A (2 * M * (j / (2 * M)) + M + j % M) % p) % p
  else (A (2 * M * (j / (2 * M)) + j % M) + negN (v ^ (j % M * P) % p * A (2 * M * (j / (2 * M)) + M + j % M) % p) p) % p
theorem jN_lo {p v M P b i : Nat} (A : Nat → Nat) (hi : i < M) : jN p v M P A (2 * M * b + i) = (A (2 * M * b + i) + v ^ (i * P) % p * A (2 * M * b + M + i) % p) % p := by
  obtain ⟨h1, h2, h3⟩ := pl_lo (b := b) hi
  unfold jN; rw [h1, h2, h3, if_pos hi]
theorem jN_hi {p v M P b i : Nat} (A : Nat → Nat) (hi : i < M) : jN p v M P A (2 * M * b + M + i) = (A (2 * M * b + i) + negN (v ^ (i * P) % p * A (2 * M * b + M + i) % p) p) % p := by
  obtain ⟨h1, h2, h3⟩ := pl_hi (b := b) hi
  unfold jN; rw [h1, h2, h3, if_neg (by omega)]
theorem jN_lt {p : Nat} (hp : 0 < p) (v M P : Nat) (A : Nat → Nat) (j : Nat) : jN p v M P A j < p := by
  unfold jN; split <;> exact Nat.mod_lt _ hp
/-- A pair parted: the sum; the difference, times v's power. -/
def qN (p v M P : Nat) (A : Nat → Nat) (j : Nat) : Nat :=
  if j % (2 * M) < M then (A (2 * M * (j / (2 * M)) + j % M) + A (2 * M * (j / (2 * M)) + M + j % M)) % p
  else v ^ (j % M * P) % p * ((A (2 * M * (j / (2 * M)) + j % M) + negN (A (2 * M * (j / (2 * M)) + M + j % M)) p) % p) % p
theorem qN_lo {p v M P b i : Nat} (A : Nat → Nat) (hi : i < M) : qN p v M P A (2 * M * b + i) = (A (2 * M * b + i) + A (2 * M * b + M + i)) % p := by
  obtain ⟨h1, h2, h3⟩ := pl_lo (b := b) hi
  unfold qN; rw [h1, h2, h3, if_pos hi]
theorem qN_hi {p v M P b i : Nat} (A : Nat → Nat) (hi : i < M) : qN p v M P A (2 * M * b + M + i) = v ^ (i * P) % p * ((A (2 * M * b + i) + negN (A (2 * M * b + M + i)) p) % p) % p := by
  obtain ⟨h1, h2, h3⟩ := pl_hi (b := b) hi
  unfold qN; rw [h1, h2, h3, if_neg (by omega)]
theorem qN_lt {p : Nat} (hp : 0 < p) (v M P : Nat) (A : Nat → Nat) (j : Nat) : qN p v M P A j < p := by
  unfold qN; split <;> exact Nat.mod_lt _ hp
theorem neg_mul {p t : Nat} (hp : 1 ≤ p) : negN t p % p = (p - 1) * t % p := by
  have hs := Nat.mod_lt t (show 0 < p by omega)
  rw [Nat.mul_mod (p - 1)]
  unfold negN
  generalize t % p = s at hs ⊢
  rcases Nat.eq_zero_or_pos s with e | e
  · subst e; rw [Nat.sub_zero, Nat.mod_self, Nat.mul_zero, Nat.zero_mod]
  · obtain ⟨u, rfl⟩ : ∃ u, s = u + 1 := ⟨s - 1, by omega⟩
    obtain ⟨q, rfl⟩ : ∃ q, p = q + 1 := ⟨p - 1, by omega⟩
    rw [Nat.mod_mod, Nat.mod_mul_mod]
    have : (q + 1 - 1) * (u + 1) = (q + 1) * u + (q + 1 - (u + 1)) := by
      rw [Nat.add_sub_cancel, Nat.mul_succ, Nat.succ_mul]; omega
    rw [this, Nat.mul_add_mod]
theorem two_at {c j : Nat} (h : j < c) : (two c)[j]? = some 2 := by unfold two; rw [List.getElem?_replicate, if_pos h]
theorem two_take {c j : Nat} (h : j ≤ c) : pr ((two c).take j) = 2 ^ j := by
  rw [show (two c).take j = two j by unfold two; rw [List.take_replicate, Nat.min_eq_left h], two_pr]
theorem two_drop {c j : Nat} : pr ((two c).drop j) = 2 ^ (c - j) := by
  rw [show (two c).drop j = two (c - j) by unfold two; rw [List.drop_replicate], two_pr]
theorem two_len (c : Nat) : (two c).length = c := by unfold two; exact List.length_replicate ..
theorem md3 (V U a p : Nat) : (V % p) * (U % p * a) % p = V * U * (a % p) % p := by
  rw [Nat.mod_mul_mod, Nat.mul_mod_mod, Nat.mul_mod V, Nat.mod_mul_mod, Nat.mod_mul_mod, Nat.mul_mod_mod, Nat.mul_assoc]
/-- One step up. -/
theorem jn_step {w p c j : Nat} {x A : Nat → Nat} (hp : Prm p) (h3 : 3 ≤ p) (hj : j < c) (ho : OrdN w p (2 ^ c)) (h : Bk w p (two c) x A (j + 1)) : Bk w p (two c) x (jN p w (2 ^ (c - j - 1)) (2 ^ j) A) j := by
  refine h.step (two_at hj) (two_one c) (by rw [two_pr]; exact ho) fun b k hb hk => ?_
  rw [two_take (by omega)] at hb ⊢
  rw [two_drop] at hk ⊢
  rw [two_drop, Nat.sub_add_eq]
  have e2 : 2 ^ (c - j) = 2 * 2 ^ (c - j - 1) := by rw [← Nat.pow_succ']; congr 1; omega
  have en : 2 ^ c = 2 ^ j * (2 * 2 ^ (c - j - 1)) := by rw [← e2, ← Nat.pow_add]; congr 1; omega
  rw [e2] at hk ⊢
  rw [en] at ho
  have hM : 1 ≤ 2 ^ (c - j - 1) := Nat.two_pow_pos _
  generalize 2 ^ (c - j - 1) = M at *
  have hv := ho.pow (Nat.two_pow_pos j)
  have hh := half_pow hp h3 hM hv
  generalize hP : 2 ^ j = P at *
  have ew : ∀ i, (w ^ P) ^ i = w ^ (i * P) := fun i => by rw [← Nat.pow_mul, Nat.mul_comm]
  rw [sN_two, Nat.zero_mul, Nat.pow_zero, Nat.one_mul, Nat.one_mul, Nat.zero_mul, Nat.one_mul, Nat.add_zero, Nat.mul_comm b]
  by_cases hkM : k < M
  · rw [jN_lo A hkM, Nat.mod_eq_of_lt hkM, ew, Nat.mod_mod, Nat.add_mod_mod, Nat.mod_add_mod, Nat.add_mod, Nat.mod_mul_mod, Nat.add_mod (A _) (_ * (_ % p)), Nat.mul_mod_mod]
  · obtain ⟨i, rfl⟩ : ∃ i, k = M + i := ⟨k - M, by omega⟩
    have hi : i < M := by omega
    rw [← Nat.add_assoc, jN_hi A hi, Nat.add_mod_left, Nat.mod_eq_of_lt hi, Nat.mod_mod, Nat.mod_add_mod, Nat.add_mod, neg_mul (by omega), Nat.add_mod (A _) (_ * (_ % p))]
    congr 2
    rw [Nat.mul_mod_mod, Nat.pow_add, ← ew i, ← hh]
    exact md3 _ _ _ _
/-- One step down. -/
theorem qn_step {w p c j : Nat} {X A : Nat → Nat} (hp : Prm p) (h3 : 3 ≤ p) (hj : j < c) (ho : OrdN w p (2 ^ c)) (h : Dk w p (two c) X A j) : Dk w p (two c) X (qN p w (2 ^ (c - j - 1)) (2 ^ j) A) (j + 1) := by
  refine h.step (by omega) (two_at hj) (two_one c) (by rw [two_pr]; exact ho) fun b u t hb hu ht => ?_
  rw [two_take (by omega)] at hb ⊢
  rw [two_drop, Nat.sub_add_eq] at ht
  rw [two_drop, two_drop, Nat.sub_add_eq]
  have e2 : 2 ^ (c - j) = 2 * 2 ^ (c - j - 1) := by rw [← Nat.pow_succ']; congr 1; omega
  have en : 2 ^ c = 2 ^ j * (2 * 2 ^ (c - j - 1)) := by rw [← e2, ← Nat.pow_add]; congr 1; omega
  rw [e2]
  rw [en] at ho
  have hM : 1 ≤ 2 ^ (c - j - 1) := Nat.two_pow_pos _
  generalize 2 ^ (c - j - 1) = M at *
  have hv := ho.pow (Nat.two_pow_pos j)
  have hh := half_pow hp h3 hM hv
  generalize hP : 2 ^ j = P at *
  have ew : ∀ i, (w ^ P) ^ i = w ^ (i * P) := fun i => by rw [← Nat.pow_mul, Nat.mul_comm]
  rw [sN_two, Nat.mul_comm b, Nat.zero_mul, Nat.zero_add, Nat.zero_mul, Nat.pow_zero, Nat.mul_one, Nat.one_mul]
  rcases (show u = 0 ∨ u = 1 by omega) with e | e
  · subst e
    rw [Nat.zero_mul, Nat.add_zero, qN_lo A ht, Nat.mul_zero, Nat.mul_zero, Nat.pow_zero, Nat.mul_one, Nat.mul_one, Nat.mod_mod, Nat.add_assoc]
  · subst e
    rw [Nat.one_mul, qN_hi A ht, Nat.mul_one, Nat.mul_one, ew t, Nat.mod_mod, Nat.mul_comm (_ % p), Nat.mul_mod_mod, Nat.mod_mul_mod, Nat.mul_mod, Nat.mul_mod (_ + _)]
    congr 2
    rw [Nat.add_mod, neg_mul (by omega), Nat.add_mod (A _) (_ * _), Nat.mul_mod (A _), hh, Nat.mul_comm (A _ % p), Nat.add_assoc, Nat.mul_mod_mod]
end Go.Proofs.YtpjfapibjihbbaaGreatDoor
/-
  What radix2.join does: pairs of a list put together, in their place. No condition but that the rows lie there.
-/
namespace Go.Proofs.YtpjfapibjihbbaaGreatDoor
set_option linter.unusedVariables false
open Go.RowKit

/-- A call that lays into a list of one's own, and leaves what was there before it. -/
def InP (W : World) (f : FuncId) (args : Array Value) (g C : Nat) (l l' : List Nat) : Prop := ∀ w, Below W.heap.size W w → OwnU w W.heap.size (some ⟨g, 0, none⟩) C l →
  Calls Tryz.prog f args w fun e w' => e = .returned (.tuple #[]) ∧ OwnU w' W.heap.size (some ⟨g, 0, none⟩) C l' ∧ Below W.heap.size W w'
theorem InP.use {W : World} {f : FuncId} {args : Array Value} {g C : Nat} {l l' : List Nat} (H : InP W f args g C l l') {w : World} (hw : Below W.heap.size W w) (hO : OwnU w W.heap.size (some ⟨g, 0, none⟩) C l) {R : Ending → World → Prop}
    (k : ∀ w', OwnU w' W.heap.size (some ⟨g, 0, none⟩) C l' → Below W.heap.size W w' → R (.returned (.tuple #[])) w') : Calls Tryz.prog f args w R :=
  (H w hw hO).mono fun _ _ ⟨he, h1, h2⟩ => by subst he; exact k _ h1 h2
theorem OwnU.cap {w : World} {base : Nat} {A : Option Addr} {C : Nat} {xs : List Nat} (h : OwnU w base A C xs) : xs.length ≤ C := by
  rcases h.2 with ⟨_, hz⟩ | ⟨g, cap, cur, hv, hb, hg, hc, hm, _⟩
  · omega
  · simp only [Value.slice.injEq] at hv
    obtain ⟨_, _, rfl⟩ := hv
    exact hc
theorem mulI {i P k : Nat} (h : i * P = k) (hk : k ≤ 16777216) : wrap64 ((i : Int) * (P : Int)) = (k : Int) ∧ IntKind.i64.wrap ((i : Int) * (P : Int)) = (k : Int) := by
  rw [← Int.natCast_mul, h]; exact ⟨wrN hk, wrI hk⟩
/-- What both walks stand on: a block's place, and its pairs'. -/
theorem blk_in {M P n b : Nat} (hn : 2 * M * P = n) (hb : b < P) : 2 * M * b + M + M ≤ n := by
  have := Nat.mul_le_mul_left (2 * M) hb
  rw [Nat.mul_succ] at this
  omega
theorem tab_in {M P n i : Nat} (hn : 2 * M * P = n) (hM : 1 ≤ M) (hP : 1 ≤ P) (hi : i < M) : i * P < n := by
  have h1 : (i + 1) * P ≤ M * P := Nat.mul_le_mul_right P hi
  rw [Nat.succ_mul] at h1
  rw [Nat.mul_assoc] at hn
  omega

end Go.Proofs.YtpjfapibjihbbaaGreatDoor
/-
  What radix2.part does: pairs of a list parted, in their place. No condition but that the rows lie there.
-/
namespace Go.Proofs.YtpjfapibjihbbaaGreatDoor
set_option linter.unusedVariables false
open Go.RowKit

end Go.Proofs.YtpjfapibjihbbaaGreatDoor

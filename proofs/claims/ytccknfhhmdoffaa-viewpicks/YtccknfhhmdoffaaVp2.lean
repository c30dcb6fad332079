/-
  Plain mathematics: a view of fewer indexes of an axis, and one of one index of it alone, can be. No condition.
-/
import Derived.Test.YtccknfhhmdoffaaVp1
import Derived.Test.YtccknfhhmdoffaaVw15
namespace Go.Proofs.Ytccknfhhmdoffaa
set_option linter.unusedVariables false

theorem ln_set {ds : List Nat} {k : Nat} (hk : k < ds.length) (c j : Nat) : ln (ds.set k c) j = if j = k then c else ln ds j := by
  unfold ln
  rw [List.getElem?_set]
  by_cases h : j = k
  · subst h; rw [if_pos rfl, if_pos hk, if_pos rfl]; rfl
  · rw [if_neg h, if_neg (fun e => h e.symm)]
theorem pr_set : ∀ {ds : List Nat} {k d c : Nat}, ds[k]? = some d → c ≤ d → pr (ds.set k c) ≤ pr ds
  | [], k, d, c, h, _ => by simp at h
  | x :: ds, 0, d, c, h, hc => by
    simp at h; subst h
    simp only [List.set_cons_zero, pr]
    exact Nat.mul_le_mul_right _ hc
  | x :: ds, k + 1, d, c, h, hc => by
    simp only [List.set_cons_succ, pr]
    exact Nat.mul_le_mul_left _ (pr_set (by simpa using h) hc)
theorem sg_sts {ss : List Int} {k : Nat} (hk : k < ss.length) (c s : Int) (j : Nat) : sg (sts ss k c s) j = if j = k ∧ 1 < c then sg ss k * s else sg ss j := by
  unfold sts
  by_cases hc : 1 < c
  · rw [if_pos hc]
    unfold sg
    rw [List.getElem?_set]
    by_cases h : j = k
    · subst h; rw [if_pos rfl, if_pos hk, if_pos ⟨rfl, hc⟩]; rfl
    · rw [if_neg (fun e => h e.symm), if_neg (fun e => h e.1)]
  · rw [if_neg hc, if_neg (fun e => hc e.2)]
theorem ints_set (ds : List Nat) (k c : Nat) : (ints ds).set k (c : Int) = ints (ds.set k c) := by unfold ints; rw [List.map_set]; rfl
/-- Which index one of the part stands for. -/
def slI (k : Nat) (f s : Int) (c : Nat) (i : Nat → Nat) (j : Nat) : Nat := if j = k then (if 1 < c then (f + (i k : Int) * s).toNat else f.toNat) else i j
theorem fit_in {d : Nat} {f s : Int} {c : Nat} (h : Fit d f s c) {n : Nat} (hn : n < c) (hc : 1 < c) : 0 ≤ f + (n : Int) * s ∧ f + (n : Int) * s < d := by
  obtain ⟨h1, h2, h3, h4, h5⟩ := h
  obtain ⟨_, _, _, h6, h7⟩ := h5 (by omega)
  have := mul_mid (p := (n : Int)) (m := (c : Int) - 1) (s := s) (by omega) (by omega)
  omega
theorem slice_stand {o : Int} {ds : List Nat} {ss : List Int} (hO : Ok o ds ss) {k d : Nat} (hd : ds[k]? = some d) {f s : Int} {c : Nat} (h : Fit d f s c) :
    Stand o ds ss (o + f * sg ss k) (ds.set k c) (sts ss k c s) (slI k f s c) := by
  have hS := hO.shp
  have hk : k < ds.length := (List.getElem?_eq_some_iff.1 hd).1
  have hks : k < ss.length := by rw [hO.len]; exact hk
  obtain ⟨h1, h2, h3, h4, h5⟩ := id h
  refine ⟨⟨by rw [List.length_set]; exact hS.few, fun x hx => ?_, Nat.le_trans (pr_set hd (by omega)) hS.max⟩, by rw [sts_len, List.length_set, hO.len], ?_, ?_, ?_⟩
  · rcases List.mem_or_eq_of_mem_set hx with hx | rfl
    · exact hS.pos x hx
    · omega
  · intro i hi j hj
    have hj' := hi j hj
    rw [ln_set hk] at hj'
    unfold slI
    by_cases e : j = k
    · subst e
      rw [if_pos rfl] at hj' ⊢
      rw [ln_in hd]
      by_cases hc : 1 < c
      · rw [if_pos hc]
        have := fit_in h hj' hc
        omega
      · rw [if_neg hc]; omega
    · rw [if_neg e] at hj' ⊢
      exact hj'
  · intro i hi
    rw [List.length_set]
    have hik := hi k (by have := hS.few; omega)
    rw [ln_set hk, if_pos rfl] at hik
    have lo : ∀ M, M ≤ k → cl (o + f * sg ss k) (sts ss k c s) (fun j => (i j : Int)) M = cl o ss (fun j => (slI k f s c i j : Int)) M + f * sg ss k := by
      intro M
      induction M with
      | zero => intro _; rfl
      | succ M ih =>
        intro hM
        simp only [cl]
        have e0 : slI k f s c i M = i M := by unfold slI; rw [if_neg (show ¬ M = k by omega)]
        rw [ih (by omega), sg_sts hks, if_neg (fun h => absurd h.1 (by omega)), e0]
        omega
    have hi' : ∀ M, k < M → cl (o + f * sg ss k) (sts ss k c s) (fun j => (i j : Int)) M = cl o ss (fun j => (slI k f s c i j : Int)) M := by
      intro M
      induction M with
      | zero => intro h; omega
      | succ M ih =>
        intro hM
        simp only [cl]
        by_cases e : M = k
        · subst e
          rw [lo M (Nat.le_refl _), sg_sts hks]
          have he : (slI M f s c i M : Int) * sg ss M = f * sg ss M + (i M : Int) * (if M = M ∧ 1 < (c : Int) then sg ss M * s else sg ss M) := by
            unfold slI
            rw [if_pos rfl]
            by_cases hc : 1 < c
            · have := fit_in h hik hc
              rw [if_pos hc, if_pos ⟨rfl, by omega⟩, show ((f + (i M : Int) * s).toNat : Int) = f + (i M : Int) * s by omega, Int.add_mul, Int.mul_assoc, Int.mul_comm s]
            · rw [if_neg hc, if_neg (by omega), show i M = 0 by omega, show (f.toNat : Int) = f by omega]
              simp
          rw [he]
          omega
        · rw [ih (by omega), sg_sts hks, if_neg (fun h => e h.1)]
          unfold slI
          rw [if_neg e]
    exact hi' _ hk
  · intro i i' hi hi' he j hj
    by_cases e : j = k
    · subst e
      have a := hi j hj
      have b := hi' j hj
      rw [ln_set hk, if_pos rfl] at a b
      have := he j hj
      unfold slI at this
      rw [if_pos rfl, if_pos rfl] at this
      by_cases hc : 1 < c
      · rw [if_pos hc, if_pos hc] at this
        have x := fit_in h a hc
        have y := fit_in h b hc
        have hs := (h5 (by omega)).1
        have e2 : (i j : Int) * s = (i' j : Int) * s := by omega
        have := Int.eq_of_mul_eq_mul_right hs e2
        omega
      · omega
    · have := he j hj
      unfold slI at this
      rw [if_neg e, if_neg e] at this
      exact this
theorem rev_fit {d : Nat} (h : 1 ≤ d) : Fit d ((d : Int) - 1) (-1) d := ⟨by omega, by omega, by omega, by omega, fun _ => ⟨by omega, by omega, by omega, by omega, by omega⟩⟩

/-! ### One index alone -/
def pkI (k a : Nat) (i : Nat → Nat) (j : Nat) : Nat := if j < k then i j else if j = k then a else i (j - 1)
theorem ln_erase {ds : List Nat} {k : Nat} (hk : k < ds.length) (j : Nat) : ln (ds.eraseIdx k) j = ln ds (if j < k then j else j + 1) := by
  unfold ln
  rw [List.getElem?_eraseIdx]
  split <;> rfl
theorem sg_erase {ss : List Int} {k : Nat} (j : Nat) : sg (ss.eraseIdx k) j = sg ss (if j < k then j else j + 1) := by
  unfold sg
  rw [List.getElem?_eraseIdx]
  split <;> rfl
theorem pr_erase : ∀ {ds : List Nat} {k d : Nat}, ds[k]? = some d → pr ds = d * pr (ds.eraseIdx k)
  | [], k, d, h => by simp at h
  | x :: ds, 0, d, h => by simp at h; subst h; rfl
  | x :: ds, k + 1, d, h => by
    simp only [List.eraseIdx_cons_succ, pr]
    rw [pr_erase (by simpa using h), ← Nat.mul_assoc, Nat.mul_comm x, Nat.mul_assoc]
theorem pick_stand {o : Int} {ds : List Nat} {ss : List Int} (hO : Ok o ds ss) {k d : Nat} (hd : ds[k]? = some d) {a : Nat} (ha : a < d) :
    Stand o ds ss (o + (a : Int) * sg ss k) (ds.eraseIdx k) (ss.eraseIdx k) (pkI k a) := by
  have hS := hO.shp
  have hk : k < ds.length := (List.getElem?_eq_some_iff.1 hd).1
  have h4 := hS.few
  have hle : (ds.eraseIdx k).length = ds.length - 1 := by rw [List.length_eraseIdx, if_pos hk]
  refine ⟨⟨by rw [hle]; omega, fun x hx => hS.pos x (List.mem_of_mem_eraseIdx hx), ?_⟩, by rw [List.length_eraseIdx, if_pos (by rw [hO.len]; exact hk), hle, hO.len], ?_, ?_, ?_⟩
  · have := pr_erase hd
    have h1 : 1 * pr (ds.eraseIdx k) ≤ d * pr (ds.eraseIdx k) := Nat.mul_le_mul_right _ (by omega)
    have := hS.max
    omega
  · intro i hi j hj
    unfold pkI
    by_cases h1 : j < k
    · have := hi j hj
      rw [ln_erase hk, if_pos h1] at this
      rw [if_pos h1]; exact this
    · rw [if_neg h1]
      by_cases h2 : j = k
      · subst h2; rw [if_pos rfl, ln_in hd]; exact ha
      · rw [if_neg h2]
        have := hi (j - 1) (by omega)
        rw [ln_erase hk, if_neg (by omega), show j - 1 + 1 = j by omega] at this
        exact this
  · intro i hi
    rw [hle]
    have lo : ∀ M, M ≤ k → cl (o + (a : Int) * sg ss k) (ss.eraseIdx k) (fun j => (i j : Int)) M = cl o ss (fun j => (pkI k a i j : Int)) M + (a : Int) * sg ss k := by
      intro M
      induction M with
      | zero => intro _; rfl
      | succ M ih =>
        intro hM
        simp only [cl]
        rw [ih (by omega), sg_erase, if_pos (by omega)]
        unfold pkI
        rw [if_pos (by omega)]
        omega
    have hi' : ∀ M, k ≤ M → cl (o + (a : Int) * sg ss k) (ss.eraseIdx k) (fun j => (i j : Int)) M = cl o ss (fun j => (pkI k a i j : Int)) (M + 1) := by
      intro M
      induction M with
      | zero =>
        intro h
        obtain rfl : k = 0 := by omega
        simp only [cl]
        unfold pkI
        rw [if_neg (by omega), if_pos rfl]
      | succ M ih =>
        intro hM
        by_cases e : k = M + 1
        · rw [lo (M + 1) (by omega)]
          show _ = cl o ss (fun j => (pkI k a i j : Int)) (M + 1) + (pkI k a i (M + 1) : Int) * sg ss (M + 1)
          unfold pkI
          rw [if_neg (by omega), if_pos e.symm, e]
        · show cl _ _ _ M + (i M : Int) * sg (ss.eraseIdx k) M = cl o ss (fun j => (pkI k a i j : Int)) (M + 1) + (pkI k a i (M + 1) : Int) * sg ss (M + 1)
          rw [ih (by omega), sg_erase, if_neg (by omega)]
          have : pkI k a i (M + 1) = i M := by unfold pkI; rw [if_neg (by omega), if_neg (by omega)]; rfl
          rw [this]
    rw [hi' _ (by omega), show ds.length - 1 + 1 = ds.length by omega]
  · intro i i' hi hi' he j hj
    by_cases h1 : j < k
    · have := he j hj
      unfold pkI at this
      rw [if_pos h1, if_pos h1] at this
      exact this
    · by_cases h3 : j + 1 < 4
      · have := he (j + 1) h3
        unfold pkI at this
        rw [if_neg (by omega), if_neg (by omega), if_neg (by omega), if_neg (by omega)] at this
        simpa using this
      · have a := hi j hj
        have b := hi' j hj
        rw [ln_out (by rw [hle]; omega)] at a b
        omega
end Go.Proofs.Ytccknfhhmdoffaa

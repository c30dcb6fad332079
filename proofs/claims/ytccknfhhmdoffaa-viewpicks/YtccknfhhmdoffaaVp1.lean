/-
  Plain mathematics: what is made of a view that can be, by taking its indexes from others, can be a view. No condition.
-/
import Derived.Test.YtccknfhhmdoffaaVw11
namespace Go.Proofs.Ytccknfhhmdoffaa
set_option linter.unusedVariables false

theorem Ok.inj {o : Int} {ds : List Nat} {ss : List Int} (h : Ok o ds ss) {m n : Nat} (hm : m < pr ds) (hn : n < pr ds) (he : ce o ss ds m = ce o ss ds n) : m = n := by
  rcases Nat.lt_trichotomy m n with hlt | hlt | hlt
  · exact absurd ⟨m, n, hlt, hn, he⟩ h.once
  · exact hlt
  · exact absurd ⟨n, m, hlt, hm, he.symm⟩ h.once
/-- Each index of the one stands for one of the other. -/
structure Stand (o : Int) (ds : List Nat) (ss : List Int) (o' : Int) (ds' : List Nat) (ss' : List Int) (f : (Nat → Nat) → Nat → Nat) : Prop where
  shp : Shp ds'
  len : ss'.length = ds'.length
  into : ∀ i, (∀ j, j < 4 → i j < ln ds' j) → ∀ j, j < 4 → f i j < ln ds j
  cell : ∀ i, (∀ j, j < 4 → i j < ln ds' j) → cl o' ss' (fun j => (i j : Int)) ds'.length = cl o ss (fun j => (f i j : Int)) ds.length
  inj : ∀ i k, (∀ j, j < 4 → i j < ln ds' j) → (∀ j, j < 4 → k j < ln ds' j) → (∀ j, j < 4 → f i j = f k j) → ∀ j, j < 4 → i j = k j
theorem Stand.num {o : Int} {ds : List Nat} {ss : List Int} {o' : Int} {ds' : List Nat} {ss' : List Int} {f : (Nat → Nat) → Nat → Nat} (h : Stand o ds ss o' ds' ss' f) (hO : Ok o ds ss) {n : Nat} (hn : n < pr ds') :
    ∃ m, m < pr ds ∧ (∀ j, j < 4 → ix ds m j = f (ix ds' n) j) ∧ ce o' ss' ds' n = ce o ss ds m := by
  have hi : ∀ j, j < 4 → ix ds' n j < ln ds' j := fun j hj => ix_lt h.shp n hj
  obtain ⟨m, hm, he⟩ := idx_num hO.shp (h.into _ hi)
  exact ⟨m, hm, he, by rw [ce_idx hO.shp he]; exact h.cell _ hi⟩
theorem Stand.ok {o : Int} {ds : List Nat} {ss : List Int} {o' : Int} {ds' : List Nat} {ss' : List Int} {f : (Nat → Nat) → Nat → Nat} (h : Stand o ds ss o' ds' ss' f) (hO : Ok o ds ss) : Ok o' ds' ss' := by
  refine ⟨h.len, h.shp, fun n hn => ?_, ?_⟩
  · obtain ⟨m, hm, _, e⟩ := h.num hO hn
    rw [e]; exact hO.am m hm
  · rintro ⟨m, n, hmn, hn, he⟩
    have hm : m < pr ds' := by omega
    obtain ⟨a, ha, ea, ca⟩ := h.num hO hm
    obtain ⟨b, hb, eb, cb⟩ := h.num hO hn
    have hab : a = b := hO.inj ha hb (by rw [← ca, ← cb, he])
    subst hab
    have hix := h.inj (ix ds' m) (ix ds' n) (fun j hj => ix_lt h.shp m hj) (fun j hj => ix_lt h.shp n hj) (fun j hj => by rw [← ea j hj, eb j hj])
    have : m = n := by
      rw [← hor_ix h.shp hm, ← hor_ix h.shp hn]
      exact hor_congr 4 hix
    omega
theorem Stand.cellOf {o : Int} {ds : List Nat} {ss : List Int} {o' : Int} {ds' : List Nat} {ss' : List Int} {f : (Nat → Nat) → Nat → Nat} (h : Stand o ds ss o' ds' ss' f) {n : Nat} (hn : n < pr ds') : ce o' ss' ds' n = cl o ss (fun j => (f (ix ds' n) j : Int)) ds.length :=
  h.cell _ fun j hj => ix_lt h.shp n hj

/-! ### In another order -/
theorem cl_sum (o : Int) (ss : List Int) (p : Nat → Int) : ∀ k, cl o ss p k = o + ((List.range k).map fun j => p j * sg ss j).sum
  | 0 => by simp [cl]
  | k + 1 => by
    simp only [cl]
    rw [cl_sum o ss p k, List.range_succ, List.map_append, List.sum_append]
    simp
    omega
theorem perm_sum {a b : List Int} (h : a.Perm b) : a.sum = b.sum := by
  induction h with
  | nil => rfl
  | cons x _ ih => simp [ih]
  | swap x y l => simp; omega
  | trans _ _ h1 h2 => exact h1.trans h2
theorem perm_pr {a b : List Nat} (h : a.Perm b) : pr a = pr b := by
  induction h with
  | nil => rfl
  | cons x _ ih => simp [pr, ih]
  | swap x y l => simp only [pr]; rw [← Nat.mul_assoc, Nat.mul_comm y x, Nat.mul_assoc]
  | trans _ _ h1 h2 => exact h1.trans h2
theorem ln_range (ds : List Nat) : (List.range ds.length).map (ln ds) = ds := by
  apply List.ext_getElem?
  intro i
  rw [List.getElem?_map]
  by_cases h : i < ds.length
  · rw [List.getElem?_range h, List.getElem?_eq_getElem h]
    show some (ln ds i) = _
    rw [ln_in (List.getElem?_eq_getElem h)]
  · rw [List.getElem?_eq_none (by simp; omega), List.getElem?_eq_none (by omega)]; rfl
theorem perm_few {L : Nat} (h4 : L ≤ 4) {js : List Nat} (hl : js.length = L) (hm : ∀ j ∈ js, j < L) (hn : js.Nodup) : js.Perm (List.range L) := by
  match L, h4, js, hl with
  | 0, _, [], _ => exact List.Perm.refl _
  | 1, _, [a], _ =>
    have : ∀ a, a < 1 → [a].Perm (List.range 1) := by decide
    exact this a (hm a (by simp))
  | 2, _, [a, b], _ =>
    have : ∀ a, a < 2 → ∀ b, b < 2 → [a, b].Nodup → [a, b].Perm (List.range 2) := by decide
    exact this a (hm a (by simp)) b (hm b (by simp)) hn
  | 3, _, [a, b, c], _ =>
    have : ∀ a, a < 3 → ∀ b, b < 3 → ∀ c, c < 3 → [a, b, c].Nodup → [a, b, c].Perm (List.range 3) := by decide +kernel
    exact this a (hm a (by simp)) b (hm b (by simp)) c (hm c (by simp)) hn
  | 4, _, [a, b, c, d], _ =>
    have k0 : ∀ b, b < 4 → ∀ c, c < 4 → ∀ d, d < 4 → [0, b, c, d].Nodup → [0, b, c, d].Perm (List.range 4) := by decide +kernel
    have k1 : ∀ b, b < 4 → ∀ c, c < 4 → ∀ d, d < 4 → [1, b, c, d].Nodup → [1, b, c, d].Perm (List.range 4) := by decide +kernel
    have k2 : ∀ b, b < 4 → ∀ c, c < 4 → ∀ d, d < 4 → [2, b, c, d].Nodup → [2, b, c, d].Perm (List.range 4) := by decide +kernel
    have k3 : ∀ b, b < 4 → ∀ c, c < 4 → ∀ d, d < 4 → [3, b, c, d].Nodup → [3, b, c, d].Perm (List.range 4) := by decide +kernel
    have ha := hm a (by simp)
    match a, ha with
    | 0, _ => exact k0 b (hm b (by simp)) c (hm c (by simp)) d (hm d (by simp)) hn
    | 1, _ => exact k1 b (hm b (by simp)) c (hm c (by simp)) d (hm d (by simp)) hn
    | 2, _ => exact k2 b (hm b (by simp)) c (hm c (by simp)) d (hm d (by simp)) hn
    | 3, _ => exact k3 b (hm b (by simp)) c (hm c (by simp)) d (hm d (by simp)) hn
  | L + 5, h, _, _ => omega
/-- The order, as a list of axes. -/
theorem eo_perm {L : Nat} (h4 : L ≤ 4) {xs : List Int} (h : eoB L xs = true) : ∃ js : List Nat, xs = js.map (fun (j : Nat) => (j : Int)) ∧ js.Perm (List.range L) ∧ js.Nodup ∧ js.length = L := by
  simp only [eoB, decide_eq_true_eq] at h
  obtain ⟨hl, h1, h2⟩ := h
  have he : xs = (xs.map Int.toNat).map (fun (j : Nat) => (j : Int)) := by
    apply List.ext_getElem?
    intro i
    rw [List.getElem?_map, List.getElem?_map]
    cases e : xs[i]? with
    | none => rfl
    | some x =>
      have := h1 x (List.mem_of_getElem? e)
      simp [axB] at this
      simp; omega
  have hnd : (xs.map Int.toNat).Nodup := by
    rw [he] at h2
    exact (List.pairwise_map.1 h2).imp fun {a b} h e => h (by rw [show a = b from e])
  refine ⟨xs.map Int.toNat, he, ?_, hnd, by simpa using hl⟩
  refine perm_few h4 (by simpa using hl) (fun j hj => ?_) hnd
  obtain ⟨x, hx, rfl⟩ := List.mem_map.1 hj
  have := h1 x hx
  simp [axB] at this
  omega
theorem permute_stand {o : Int} {ds : List Nat} {ss : List Int} (hO : Ok o ds ss) {xs : List Int} (h : eoB ds.length xs = true) : ∃ f, Stand o ds ss o (pmZ ds xs) (pmS ss xs) f := by
  have hS := hO.shp
  obtain ⟨js, rfl, hp, hn, hl⟩ := eo_perm hS.few h
  have e1 : pmZ ds (js.map fun (j : Nat) => (j : Int)) = js.map (ln ds) := by unfold pmZ; rw [List.map_map]; rfl
  have e2 : pmS ss (js.map fun (j : Nat) => (j : Int)) = js.map (sg ss) := by unfold pmS; rw [List.map_map]; rfl
  rw [e1, e2]
  have hd : ∀ n j, js[n]? = some j → ln (js.map (ln ds)) n = ln ds j := fun n j hj => by
    unfold ln; rw [List.getElem?_map, hj]; rfl
  have hs : ∀ n j, js[n]? = some j → sg (js.map (sg ss)) n = sg ss j := fun n j hj => by
    unfold sg; rw [List.getElem?_map, hj]; rfl
  have hmem : ∀ j, j < ds.length → j ∈ js := fun j hj => hp.mem_iff.2 (by simpa using hj)
  have hidx : ∀ j, j ∈ js → js[js.idxOf j]? = some j := fun j hj => by
    rw [List.getElem?_eq_getElem (List.idxOf_lt_length_of_mem hj), List.getElem_idxOf]
  have hix : ∀ n j, js[n]? = some j → js.idxOf j = n := fun n j hj => by
    obtain ⟨hlt, rfl⟩ := List.getElem?_eq_some_iff.1 hj
    exact hn.idxOf_getElem n hlt
  refine ⟨fun i j => if j < ds.length then i (js.idxOf j) else 0, ⟨by simp [hl, hS.few], ?_, ?_⟩, by simp, ?_, ?_, ?_⟩
  · intro d hd'
    obtain ⟨j, _, rfl⟩ := List.mem_map.1 hd'
    exact ln_pos hS j
  · rw [perm_pr (hp.map (ln ds)), ln_range]; exact hS.max
  · intro i hi j hj
    show (if j < ds.length then i (js.idxOf j) else 0) < ln ds j
    split
    · rename_i hjl
      have hm := hmem j hjl
      have := hi (js.idxOf j) (by have := List.idxOf_lt_length_of_mem hm; have := hS.few; omega)
      rw [hd _ j (hidx j hm)] at this
      exact this
    · exact ln_pos hS j
  · intro i hi
    rw [cl_sum, cl_sum]
    congr 1
    have : (List.range (js.map (ln ds)).length).map (fun n => (i n : Int) * sg (js.map (sg ss)) n) = js.map fun j => (((if j < ds.length then i (js.idxOf j) else 0 : Nat) : Int)) * sg ss j := by
      apply List.ext_getElem?
      intro n
      rw [List.getElem?_map, List.getElem?_map, List.length_map]
      by_cases hnl : n < js.length
      · rw [List.getElem?_range hnl]
        obtain ⟨j, hj⟩ : ∃ j, js[n]? = some j := ⟨_, List.getElem?_eq_getElem hnl⟩
        rw [hj]
        have hjl : j < ds.length := by
          have := hp.mem_iff.1 (List.mem_of_getElem? hj)
          simpa using this
        simp only [Option.map_some]
        rw [hs n j hj, if_pos hjl, hix n j hj]
      · rw [List.getElem?_eq_none (by simp; omega), List.getElem?_eq_none (by omega)]; rfl
    rw [this]
    exact perm_sum (hp.map _)
  · intro i k hi hk he j hj
    by_cases hjl : j < js.length
    · obtain ⟨a, ha⟩ : ∃ a, js[j]? = some a := ⟨_, List.getElem?_eq_getElem hjl⟩
      have hal : a < ds.length := by
        have := hp.mem_iff.1 (List.mem_of_getElem? ha)
        simpa using this
      have := he a (by have := hS.few; omega)
      simp only [if_pos hal, hix j a ha] at this
      exact this
    · have h1 := hi j hj
      have h2 := hk j hj
      rw [ln_out (by simp; omega)] at h1 h2
      omega
end Go.Proofs.Ytccknfhhmdoffaa

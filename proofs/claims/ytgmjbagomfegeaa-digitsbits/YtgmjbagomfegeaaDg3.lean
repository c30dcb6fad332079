/-
  Rows of ints and of words of one's own; what the document's Digits, Turn and Back (layer 9) answer. No condition but that the rows lie there.
-/
import Derived.Test.YtgmjbagomfegeaaDg2
namespace Go.Proofs.Ytgmjbagomfegeaa
set_option linter.unusedVariables false
open Go.RowKit

theorem infoZ : (Try.prog.info? 3).map (fun i => (i.zero, i.size, i.bytes)) = some (some (.int .i64 0), 1, 8) := by kernel_rfl
theorem infoU : (Try.prog.info? 38).map (fun i => (i.zero, i.size, i.bytes)) = some (some (.int .u64 0), 1, 8) := by kernel_rfl
theorem infoB : (Try.prog.info? 4).map (fun i => (i.zero, i.size, i.bytes)) = some (some (.bool false), 1, 1) := by kernel_rfl
theorem grown_below {W W' : World} (h : Below W.heap.size W W') : W.grownBy W' none := ⟨h.os, h.tape, h.output, h.size, fun k hk _ => h.block k hk⟩
theorem row_below {base : Nat} {e : TypeId} {v : Value} {n : Nat} {xs : List Value} {X Y : World} (h : X.ownsRow base e 1 v n xs) (hb : Below X.heap.size X Y) : Y.ownsRow base e 1 v n xs := h.kept (grown_below hb) (by
  cases hv : v.ownBlock with
  | none => exact .inl rfl
  | some g => exact .inr (by simp))
theorem one_new (w : World) (v : Value) (t : TypeId) : ∀ (i : Nat) (x : Value), [v][i]? = some x → (w.alloc (.cells #[v] t)).cell? ((⟨w.heap.size, 0, none⟩ : Addr).add i) = some x := by
  intro i x hx
  rw [Addr.add_lit, World.cell?_alloc_at _ _ _ _ rfl]
  match i, hx with
  | 0, hx => cases hx; rfl
  | i + 1, hx => simp at hx
def zcells (zs : List Int) : List Value := zs.map fun z => .int .i64 z
theorem zcells_at {zs : List Int} {j : Nat} {u : Value} (h : (zcells zs)[j]? = some u) : ∃ z, zs[j]? = some z ∧ u = .int .i64 z := by
  unfold zcells at h
  rw [List.getElem?_map] at h
  cases hz : zs[j]? with
  | none => rw [hz] at h; cases h
  | some z => rw [hz] at h; cases h; exact ⟨z, rfl, rfl⟩
theorem zcells_snoc (zs : List Int) (z : Int) : zcells (zs ++ [z]) = zcells zs ++ [.int .i64 z] := by simp [zcells]
/-- A row of the call's own read as a row of ints. -/
theorem own_ints {w : World} {base : Nat} {v : Value} {zs : List Int} (h : w.ownsRow base 3 1 v zs.length (zcells zs)) (hok : ∀ z ∈ zs, I64 z) : ∃ A C, v = .slice A zs.length C ∧ ZAt w A C zs := by
  have h' := h
  rcases h.2 with ⟨rfl, hn⟩ | ⟨g, cap, cur, rfl, hb, hg, hc, hm, _⟩
  · refine ⟨none, 0, by rw [hn], by omega, by unfold maxLen; omega, fun i f hf => ?_⟩
    have := (List.getElem?_eq_some_iff.1 hf).1; omega
  · refine ⟨_, _, rfl, hc, hm, fun i z hz => ?_⟩
    have ca := h'.cells (g := g) rfl i (.int .i64 z) (by unfold zcells; rw [List.getElem?_map, hz]; rfl)
    refine ⟨g, 0, rfl, (Array.getElem?_eq_some_iff.1 hg).1, ?_, hok z (List.mem_of_getElem? hz)⟩
    rw [Nat.zero_add]; rw [Addr.add_lit] at ca; simpa using ca
/-- A call that answers a new row of ints. -/
def NewRow (W : World) (f : FuncId) (args : Array Value) (l : List Int) : Prop := ∀ w, Below W.heap.size W w → Calls Try.prog f args w fun e w' => ∃ A1 C1, e = .returned (.slice A1 l.length C1) ∧ ZAt w' A1 C1 l ∧ Below w.heap.size w w'
theorem NewRow.use {W : World} {f : FuncId} {args : Array Value} {l : List Int} (h : NewRow W f args l) {w : World} (hw : Below W.heap.size W w) {R : Ending → World → Prop} (k : ∀ A1 C1 w', ZAt w' A1 C1 l → Below w.heap.size w w' → R (.returned (.slice A1 l.length C1)) w') : Calls Try.prog f args w R :=
  (h w hw).mono fun _ _ ⟨A', C', he, h1, h2⟩ => by subst he; exact k _ _ _ h1 h2
theorem i64_small {x : Nat} (h : x ≤ 16777216) : I64 (x : Int) := by unfold I64; omega
theorem ints_len (rs : List Nat) : (ints rs).length = rs.length := by simp [ints]
theorem ints_get {rs : List Nat} {k r : Nat} (h : rs[k]? = some r) : (ints rs)[k]? = some (r : Int) := by simp [ints, h]

/-! ### Digits -/
def dg : List Nat → Nat → List Nat
  | [], _ => []
  | r :: rs, i => i % r :: dg rs (i / r)
theorem dg_len : ∀ (rs : List Nat) (i : Nat), (dg rs i).length = rs.length
  | [], _ => rfl
  | r :: rs, i => by rw [dg, List.length_cons, List.length_cons, dg_len rs]
theorem dg_append : ∀ (a b : List Nat) (i : Nat), dg (a ++ b) i = dg a i ++ dg b (i / pr a)
  | [], b, i => by simp [dg, pr]
  | r :: a, b, i => by rw [List.cons_append, dg, dg_append a b, dg, pr, Nat.div_div_eq_div_mul, List.cons_append]
theorem dg_take {rs : List Nat} {k r : Nat} (hr : rs[k]? = some r) (i : Nat) : dg (rs.take (k + 1)) i = dg (rs.take k) i ++ [i / pr (rs.take k) % r] := by
  rw [List.take_add_one, hr, dg_append]; rfl
theorem dg_get {rs : List Nat} {k r : Nat} (hr : rs[k]? = some r) (i : Nat) : (dg rs i)[k]? = some (i / pr (rs.take k) % r) := by
  have hk : k < rs.length := (List.getElem?_eq_some_iff.1 hr).1
  have e : rs = rs.take (k + 1) ++ rs.drop (k + 1) := (List.take_append_drop _ _).symm
  have e1 : dg rs i = dg (rs.take k) i ++ [i / pr (rs.take k) % r] ++ dg (rs.drop (k + 1)) (i / pr (rs.take (k + 1))) := by
    rw [← dg_take hr, ← dg_append, ← e]
  have hl : (dg (rs.take k) i).length = k := by rw [dg_len, List.length_take]; omega
  rw [e1, List.append_assoc, List.getElem?_append_right (by omega), hl, Nat.sub_self]
  rfl
theorem dg_small : ∀ (rs : List Nat) (i : Nat), (∀ r ∈ rs, 1 ≤ r ∧ r ≤ 4096) → ∀ d ∈ dg rs i, d ≤ 4096
  | [], _, _, d, hd => by simp [dg] at hd
  | r :: rs, i, h, d, hd => by
    rcases List.mem_cons.1 hd with rfl | hd
    · obtain ⟨h1, h2⟩ := h r (List.mem_cons_self ..)
      have := Nat.mod_lt i (show 0 < r by omega); omega
    · exact dg_small rs _ (fun x hx => h x (List.mem_cons_of_mem _ hx)) d hd
theorem Rad.small {rs : List Nat} (h : Rad rs) : ∀ r ∈ rs, 1 ≤ r ∧ r ≤ 4096 := fun r hr => by
  obtain ⟨k, hk, rfl⟩ := List.getElem_of_mem hr
  have := tn_step h (List.getElem?_eq_getElem hk) 0
  omega
set_option maxHeartbeats 1000000 in
theorem digits_any (W : World) (A : Option Addr) (C : Nat) (rs : List Nat) (hZ : ZAt W A C (ints rs)) (hR : Rad rs) (i : Nat) (hi : i ≤ 4096) : NewRow W 24 #[.slice A rs.length C, .int .i64 (i : Int)] (ints (dg rs i)) := by
  intro w hw
  obtain ⟨ii, hii, hzi, hsi, hbi⟩ := info_parts infoZ
  have hfew := hR.few
  have hcap := hZ.cap
  have hlen := hZ.len
  rw [ints_len] at hlen hcap
  obtain ⟨L, hL⟩ : ∃ L, rs.length = L := ⟨_, rfl⟩
  have HL : Hid (rs.length = L) := hL
  have HR : Hid (Rad rs) := hR
  rw [hL] at hlen hfew ⊢
  clear hL hR hcap
  go_enter Try.func24, Try.ntmps24
  go_wp2
  go_loopw [1, 5, 10] (fun x out v wr => ∃ q k : Nat, x = .int .i64 q ∧ v = .int .i64 k ∧ k ≤ L ∧ Hid (q ≤ 4096) ∧ Hid (q = i / pr (rs.take k)) ∧ Hid (wr.ownsRow w.heap.size 3 1 out k (zcells (ints (dg (rs.take k) i)))) ∧ Below w.heap.size w wr) (fun _ _ v _ => L - (intOf v).toNat)
  case atStart => exact ⟨i, 0, rfl, rfl, by omega, hi, by unfold Hid; simp [pr], by unfold Hid; rw [List.take_zero]; exact World.ownsRow_nil _ _ _ _, Below.refl _ _⟩
  case round =>
    clear hi
    obtain ⟨q, k, rfl, rfl, hk, Hq, HQ, HO, hB⟩ := hrel
    by_cases hlt : k < L
    · have hlt' : k < rs.length := by rw [HL.out]; exact hlt
      obtain ⟨r, hr⟩ : ∃ r, rs[k]? = some r := ⟨_, List.getElem?_eq_getElem hlt'⟩
      obtain ⟨b, o, rfl, hb, c0, _⟩ := hZ.get k (r : Int) (ints_get hr)
      have c0' := ((bcell (hw.trans (hB.mono hw.size))).1 b (o + k) hb).trans c0
      obtain ⟨h2, h3, _, _, _, h7⟩ := tn_step HR.out hr i
      rw [← HQ.out] at h7
      have HQ' : Hid (q / r = i / pr (rs.take (k + 1))) := h7.symm
      have HD' : Hid (zcells (ints (dg (rs.take (k + 1)) i)) = zcells (ints (dg (rs.take k) i)) ++ [.int .i64 ((q % r : Nat) : Int)]) := by
        unfold Hid
        rw [dg_take hr, ← HQ.out, ← zcells_snoc]
        simp [ints]
      have hr0 : ¬ (r : Int) = 0 := by omega
      have hm1 : Int.tmod (q : Int) (r : Int) = ((q % r : Nat) : Int) := rfl
      have hd1 : Int.tdiv (q : Int) (r : Int) = ((q / r : Nat) : Int) := rfl
      have hml : q % r ≤ 4096 := by have := Nat.mod_lt q (show 0 < r by omega); omega
      have hdl : q / r ≤ 4096 := Nat.le_trans (Nat.div_le_self _ _) Hq.out
      obtain ⟨d, hd⟩ : ∃ d, q / r = d := ⟨_, rfl⟩
      obtain ⟨m, hm⟩ : ∃ m, q % r = m := ⟨_, rfl⟩
      rw [hd] at HQ' hd1 hdl
      rw [hm] at HD' hm1 hml
      have w2 : wrap64 (m : Int) = (m : Int) := wrS (Nat.le_trans hml (by decide))
      have w4 : wrap64 (d : Int) = (d : Int) := wrS (Nat.le_trans hdl (by decide))
      have HB : Hid (d ≤ 4096) := hdl
      have hO2 := World.ownsRow.alloc HO.out (.cells #[.int .i64 (m : Int)] 3)
      have hnews := one_new wr (.int .i64 (m : Int)) 3
      have hBa : Below w.heap.size w (wr.alloc (.cells #[.int .i64 (m : Int)] 3)) := bb hB (below_alloc _ _)
      clear c0 hr h2 h3 h7 HQ HO hd hm hml hdl Hq hlt'
      go_wp2_with (at_builtin; refine Hid.out ?_)
      unfold Hid
      refine (wpList_append_own _ rfl _ _ 22 rfl w.heap.size 3 ii _ 1 8 Try.underlying22 hii hzi hsi hbi rfl (by omega) _ k _ rfl hO2 ⟨wr.heap.size, 0, none⟩ 1 1 [.int .i64 (m : Int)] rfl rfl hnews (by simp [Value.oneCell']) (by unfold maxLen; omega) (by omega) hBa.size ?_)
      intro v' w5 hO3 hG _
      have HO3 : Hid (w5.ownsRow w.heap.size 3 1 v' (k + 1) (zcells (ints (dg (rs.take (k + 1)) i)))) := by unfold Hid; rw [HD'.out]; exact hO3
      have hB5 : Below w.heap.size w w5 := hBa.grown hG hBa.size (fun k hk => (hO2.lt k hk).1)
      clear hO3 hG hO2 hBa hnews hB HD'
      go_wp2
      go_roundw
      case rel => exact ⟨d, k + 1, by first | rfl | (rw [w4]), by go_num, by omega, HB, HQ', HO3, hB5⟩
      case measure => simp [intOf]; omega
    · obtain rfl : k = L := by omega
      have HO4 : Hid (wr.ownsRow w.heap.size 3 1 u5 (ints (dg rs i)).length (zcells (ints (dg rs i)))) := by
        unfold Hid
        have := HO.out
        rw [← HL.out, List.take_length] at this
        rw [ints_len, dg_len]
        exact this
      obtain ⟨A1, C1, hv, hz⟩ := own_ints HO4.out (fun z hz => by
        obtain ⟨n, hn, rfl⟩ := List.mem_map.1 hz
        exact i64_small (Nat.le_trans (dg_small rs i HR.out.small n hn) (by decide)))
      subst hv
      clear HQ HO HO4 Hq
      go_wp2
      go_ret
      exact ⟨A1, C1, rfl, hz, hB⟩
end Go.Proofs.Ytgmjbagomfegeaa

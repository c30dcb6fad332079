/-
  The arguments opened: a row of entries that can be read as data lies there.
-/
import Derived.Test.YtpjfapibjihbbaaGreatDoorF1
import Derived.Test.YtpjfapibjihbbaaGreatDoorChecked
import Derived.Deep.Slices
import Derived.Deep.SlicePairs
import Derived.Deep.Strs
import Derived.SizedLaws
import Derived.OpenShut
import Derived.Carry
import Derived.Lib.SmallJoins
namespace Go.Proofs.YtpjfapibjihbbaaGreatDoor
set_option linter.unusedVariables false
open Go.ChangeShapes Go.WideShapes Go.RowKit Go.Deep

theorem cellsEn : Tryz.prog.cellsOf 71 = 3 := by kernel_rfl
theorem cellsPw : Tryz.prog.cellsOf 92 = 2 := by kernel_rfl
theorem cellsWd : Tryz.prog.cellsOf 22 = 1 := by kernel_rfl
theorem cellsIn : Tryz.prog.cellsOf 3 = 1 := by kernel_rfl
theorem cellsSl : Tryz.prog.cellsOf 69 = 1 := by kernel_rfl
theorem bytesPw : Tryz.prog.bytesOf 92 = 16 := by kernel_rfl
theorem laidOut : laidOutB Tryz.prog = true := by kernel_rfl
theorem own : ownKnob Tryz.prog.godebug = none := by kernel_rfl

theorem wfo_u64 {x : Int} (h : (Lit.int .u64 x).wf = true) : 0 ≤ x ∧ x < 18446744073709551616 := by
  simp [Lit.wf, IntKind.min, IntKind.max, IntKind.signed, IntKind.bits] at h
  exact ⟨by omega, by omega⟩
theorem wf_i64 {x : Int} (h : (Lit.int .i64 x).wf = true) : -9223372036854775808 ≤ x ∧ x < 9223372036854775808 := by
  simp [Lit.wf, IntKind.min, IntKind.max, IntKind.signed, IntKind.bits] at h
  exact ⟨by omega, by omega⟩

section
variable {H : Type} {enc : TypeId × Value → H}

theorem mem_all {P : Program} {e : TypeId} {d : DataW H} {n : Nat} : ∀ {l : List (DataW H)}, d ∈ l → n ∈ d.weights P e → n ∈ DataW.weightsAll P e l
  | x :: l, hd, hn => by
    rw [DataW.weightsAll, List.mem_append]
    rcases List.mem_cons.1 hd with rfl | hd
    · exact Or.inl hn
    · exact Or.inr (mem_all hd hn)

set_option maxRecDepth 100000 in
theorem open_pows {W : World} {n : Nat} {c : Value} {fd : DataW H} {p : List MemPlace} (h : DataW.trod enc Tryz.prog W 0 (fun _ => true) true n 69 [c] = some (fd, p)) (hsz : ∀ n ∈ fd.weights Tryz.prog 69, n ≤ reachBytes) :
    ∃ A C fs, c = .slice A fs.length C ∧ PowsAt W A C fs ∧ fs.length * 16 ≤ 140737488355328 := by
  rcases open_slice_pairs Tryz.underlying69 Tryz.underlying92 cellsPw rfl rfl cellsWd cellsIn h with ⟨hc, _⟩ | ⟨a, len, cap, m, k, V0, V1, D0, D1, P0, P1, hc, _, hl, hm, hmm, hx, hall⟩
  · simp only [List.cons.injEq, and_true] at hc
    exact ⟨none, 0, [], hc, ⟨by simp, by unfold maxLen; omega, fun i f hf => by simp at hf⟩, by simp⟩
  · simp only [List.cons.injEq, and_true] at hc
    simp only [if_true] at hmm
    subst hmm
    have e0 : ∀ i, i < m → ∃ q : Nat, V0 i = .int .u64 (q : Int) ∧ q < 18446744073709551616 := fun i hi => by
      obtain ⟨x, h1, _, h3⟩ := DataW.trod_int Tryz.underlying22 (hall i hi).2.2.1
      simp only [List.cons.injEq, and_true] at h1
      obtain ⟨w0, w1⟩ := wfo_u64 h3
      obtain ⟨q, rfl⟩ := Int.eq_ofNat_of_zero_le w0
      exact ⟨q, h1, by omega⟩
    have e1 : ∀ i, i < m → ∃ e : Int, V1 i = .int .i64 e ∧ -9223372036854775808 ≤ e ∧ e < 9223372036854775808 := fun i hi => by
      obtain ⟨x, h1, _, h3⟩ := DataW.trod_int Tryz.underlying3 (hall i hi).2.2.2
      simp only [List.cons.injEq, and_true] at h1
      exact ⟨x, h1, wf_i64 h3⟩
    obtain ⟨Q, hQ⟩ := choose_lt e0
    obtain ⟨E, hE⟩ := choose_lt e1
    have hw := hsz ((len + (m - len)) * 16) (by
      simp only [Prod.mk.injEq] at hx
      rw [hx.1, DataW.weights, Tryz.underlying69]
      simp [bytesPw])
    refine ⟨some a, m, (List.range len).map fun i => ⟨Q i, E i⟩, by rw [hc]; simp, ⟨by simpa using hl, hm, fun i f hf => ?_⟩, ?_⟩
    · have hi : i < len := by simpa using (List.getElem?_eq_some_iff.1 hf).1
      have hf' : f = ⟨Q i, E i⟩ := by
        rw [List.getElem?_map, List.getElem?_range hi] at hf
        simpa using hf.symm
      obtain ⟨b, o, spot⟩ := a
      have hspot : spot = none := by simpa [Addr.add] using World.cell?_spot (hall 0 (by omega)).1
      subst hspot
      have c0 := (hall i (by omega)).1
      have c1 := (hall i (by omega)).2.1
      rw [Addr.add_lit, (hQ i (by omega)).1] at c0
      rw [Addr.add_lit, (hE i (by omega)).1, ← Nat.add_assoc] at c1
      rw [hf']
      exact ⟨b, o, rfl, block_lt_of_cell (a := ⟨b, o + i * 2, none⟩) c0, c0, c1, (hQ i (by omega)).2, (hE i (by omega)).2⟩
    · simp only [List.length_map, List.length_range]
      have : reachBytes = 140737488351232 := rfl
      omega
set_option maxRecDepth 100000 in
theorem open_rows {W : World} {A : Option Addr} {len cap : Nat} {d : DataW H} {p : List MemPlace} (h0 : DataW.Trod enc Tryz.prog W 0 (fun _ => true) true 23 (.slice A len cap) d p) (hsz : ∀ n ∈ d.weights Tryz.prog 23, n ≤ reachBytes) :
    ∃ es, len = es.length ∧ EntsAt W A cap es ∧ ∀ x ∈ es, x.fs.length * 16 ≤ 140737488355328 := by
  obtain ⟨fuel, h⟩ := h0
  rcases open_slice Tryz.underlying23 h with ⟨hc, _⟩ | ⟨a, len', cap', m, k, D, Pl, hc, _, hl, hm, hmm, hx, hall⟩
  · simp [Value.cells] at hc
    obtain ⟨rfl, rfl, rfl⟩ := hc
    exact ⟨[], rfl, ⟨by simp, by unfold maxLen; omega, fun i f hf => by simp at hf⟩, fun x hx => by cases hx⟩
  · simp [Value.cells] at hc
    obtain ⟨rfl, rfl, rfl⟩ := hc
    simp only [if_true] at hmm
    subst hmm
    simp only [Prod.mk.injEq] at hx
    have each : ∀ i, i < len → ∃ r : En × Option Addr × Nat, W.cell? (a.add (i * 3)) = some (.int .u64 (r.1.p : Int)) ∧ W.cell? (a.add (i * 3 + 1)) = some (.int .u64 (r.1.g : Int)) ∧ W.cell? (a.add (i * 3 + 2)) = some (.slice r.2.1 r.1.fs.length r.2.2) ∧ PowsAt W r.2.1 r.2.2 r.1.fs ∧ r.1.p < 18446744073709551616 ∧ r.1.g < 18446744073709551616 ∧ r.1.fs.length * 16 ≤ 140737488355328 := by
      intro i hi
      obtain ⟨cs', h1, h2⟩ := hall i (by omega)
      rw [cellsEn] at h1
      obtain ⟨_, hlen, hcell⟩ := World.cells?_some h1
      obtain ⟨y0, y1, y2, n, hd, _, g0, g1, g2⟩ := trod_struct3 Tryz.underlying71 h2
      match cs', hlen with
      | [v0, v1, v2], _ =>
        have k0 := hcell 0 (by omega)
        have k1 := hcell 1 (by omega)
        have k2 := hcell 2 (by omega)
        rw [add_add] at k0 k1 k2
        simp [cellsWd, cellsSl] at g0 g1 g2
        simp only [Prod.mk.injEq] at hd
        obtain ⟨p, hp, _, wp⟩ := DataW.trod_int Tryz.underlying22 g0
        obtain ⟨g, hg, _, wg⟩ := DataW.trod_int Tryz.underlying22 g1
        simp only [List.cons.injEq, and_true] at hp hg
        subst hp; subst hg
        obtain ⟨p0, p1⟩ := wfo_u64 wp
        obtain ⟨q0, q1⟩ := wfo_u64 wg
        obtain ⟨p, rfl⟩ := Int.eq_ofNat_of_zero_le p0
        obtain ⟨g, rfl⟩ := Int.eq_ofNat_of_zero_le q0
        obtain ⟨A', C', fs, rfl, hP, hb⟩ := open_pows (fd := y2.1) (p := y2.2) g2 (fun n hn => hsz n (by
          rw [hx.1, DataW.weights, Tryz.underlying23]
          refine List.mem_cons_of_mem _ (List.mem_append_left _ (mem_all (d := D i) (List.mem_map.2 ⟨i, List.mem_range.2 hi, rfl⟩) ?_))
          rw [hd.1, DataW.weights, Tryz.underlying71]
          simp [DataW.weightsEach, hn]))
        exact ⟨(⟨p, g, fs⟩, A', C'), by simpa using k0, by simpa using k1, by simpa using k2, hP, by show p < 18446744073709551616; omega, by show g < 18446744073709551616; omega, hb⟩
    haveI : Inhabited (En × Option Addr × Nat) := ⟨(⟨0, 0, []⟩, none, 0)⟩
    obtain ⟨R, hR⟩ := choose_lt each
    refine ⟨(List.range len).map fun i => (R i).1, by simp, ⟨by simpa using hl, hm, fun i x hx => ?_⟩, fun x hx => ?_⟩
    · have hi : i < len := by simpa using (List.getElem?_eq_some_iff.1 hx).1
      have hx' : x = (R i).1 := by
        rw [List.getElem?_map, List.getElem?_range hi] at hx
        simpa using hx.symm
      obtain ⟨b, o, spot⟩ := a
      have hspot : spot = none := by simpa [Addr.add] using World.cell?_spot (hR 0 (by omega)).1
      subst hspot
      obtain ⟨c0, c1, c2, hP, hp, hg, _⟩ := hR i hi
      rw [Addr.add_lit] at c0 c1 c2
      rw [← Nat.add_assoc] at c1 c2
      rw [hx']
      exact ⟨b, o, _, _, rfl, block_lt_of_cell (a := ⟨b, o + i * 3, none⟩) c0, c0, c1, c2, hP, hp, hg⟩
    · obtain ⟨i, hi, rfl⟩ := List.mem_map.1 hx
      exact (hR i (List.mem_range.1 hi)).2.2.2.2.2.2
end
end Go.Proofs.YtpjfapibjihbbaaGreatDoor
/-
  A source opened: a struct of two ints, a word and a row of entries.
-/
namespace Go.Proofs.YtpjfapibjihbbaaGreatDoor
set_option linter.unusedVariables false
open Go.ChangeShapes Go.WideShapes Go.RowKit Go.Deep

section
variable {H : Type} {enc : TypeId × Value → H}
theorem one_slice {W : World} {n : Nat} {c : Value} {d : DataW H} {p : List MemPlace} (h : DataW.trod enc Tryz.prog W 0 (fun _ => true) true n 23 [c] = some (d, p)) : ∃ A len cap, c = .slice A len cap := by
  rcases open_slice Tryz.underlying23 h with ⟨hc, _⟩ | ⟨a, len', cap', m, k, D, Pl, hc, _⟩
  · simp only [List.cons.injEq, and_true] at hc; exact ⟨_, _, _, hc⟩
  · simp only [List.cons.injEq, and_true] at hc; exact ⟨_, _, _, hc⟩
theorem cellsSrc : Tryz.prog.cellsOf 25 = 4 := by kernel_rfl
set_option maxRecDepth 100000 in
theorem open_src {W : World} {r : Reach} {b0 : Nat} {v : Value} {d : DataW H} {p : List MemPlace} (hv : Value.okWide Tryz.prog W r b0 25 v) (h : DataW.Trod enc Tryz.prog W 0 (fun _ => true) true 25 v d p) (hsz : ∀ n ∈ d.weights Tryz.prog 25, n ≤ reachBytes) :
    ∃ (kind z : Int) (q : Nat) (A : Option Addr) (C : Nat) (es : List En), v = .agg #[.int .i64 kind, .int .i64 z, .int .u64 (q : Int), .slice A es.length C] ∧ z < 9223372036854775808 ∧ q < 18446744073709551616 ∧ EntsAt W A C es ∧ ∀ x ∈ es, x.fs.length * 16 ≤ 140737488355328 := by
  obtain ⟨v0, v1, v2, v3, y0, y1, y2, y3, n, rfl, hd, hp, h0, h1, h2, h3⟩ := Go.Joins.open_agg4 Tryz.underlying25 (by kernel_rfl) cellsSrc hv h
  obtain ⟨kind, e0, _, w0⟩ := DataW.trod_int Tryz.underlying3 h0
  obtain ⟨z, e1, _, w1⟩ := DataW.trod_int Tryz.underlying3 h1
  obtain ⟨q, e2, _, w2⟩ := DataW.trod_int Tryz.underlying22 h2
  simp only [List.cons.injEq, and_true] at e0 e1 e2
  subst e0; subst e1; subst e2
  obtain ⟨A, len, C, rfl⟩ := one_slice (d := y3.1) (p := y3.2) h3
  obtain ⟨q0, q1⟩ := wfo_u64 w2
  obtain ⟨q, rfl⟩ := Int.eq_ofNat_of_zero_le q0
  obtain ⟨es, rfl, hE, hfs⟩ := open_rows (d := y3.1) (p := y3.2) ⟨n, h3⟩ (fun k hk => hsz k (by
    rw [hd, DataW.weights, Tryz.underlying25]
    simp [DataW.weightsEach, hk]))
  exact ⟨kind, z, q, A, C, es, rfl, (wf_i64 w1).2, by omega, hE, hfs⟩
end
end Go.Proofs.YtpjfapibjihbbaaGreatDoor

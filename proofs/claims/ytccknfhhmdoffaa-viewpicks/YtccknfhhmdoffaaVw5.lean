/-
  What Check and checkAxis of a view, and the document's Check answer. No condition but that the rows lie there.
-/
import Derived.Test.YtccknfhhmdoffaaVw4
namespace Go.Proofs.Ytccknfhhmdoffaa
set_option linter.unusedVariables false
open Go.RowKit

theorem rcheck_arg (W : World) (o : Int) (A : Option Addr) (L C : Nat) (A' : Option Addr) (L' C' : Nat) (c : Int) (h : L ≠ L' ∨ c < 0 ∨ 4096 < c) : AnsB W 14 #[vw o A L C A' L' C', .int .i64 c] (.int .i64 1) := by
  intro w hw
  unfold vw
  by_cases h1 : (L : Int) = (L' : Int)
  · obtain rfl : L = L' := by omega
    by_cases h2 : c < 0
    · clear h
      go_enter Try.func14, Try.ntmps14
      go_wp2
      go_ret
      exact ⟨rfl, below_alloc _ _⟩
    · have h3 : 4096 < c := by omega
      clear h
      go_enter Try.func14, Try.ntmps14
      go_wp2
      go_ret
      exact ⟨rfl, below_alloc _ _⟩
  · clear h
    go_enter Try.func14, Try.ntmps14
    go_wp2
    go_ret
    exact ⟨rfl, below_alloc _ _⟩
theorem rcheck_err (W : World) (o : Int) (A : Option Addr) (C : Nat) (A' : Option Addr) (C' : Nat) (zs : List Int) (hZ : ZAt W A C zs) (c : Int) (h0 : 0 ≤ c) (h4 : c ≤ 4096) (he : errV zs ≠ 0) : AnsB W 14 #[vw o A zs.length C A' zs.length C', .int .i64 c] (.int .i64 (errV zs)) := by
  intro w hw
  unfold vw
  have HR := rsize_any W A C zs hZ
  generalize sizeV zs = sv at *
  generalize errV zs = ev at *
  generalize zs.length = L at *
  have h0' : ¬ c < 0 := by omega
  have h4' : ¬ 4096 < c := by omega
  have hB0 := below_alloc w (.cells #[.int .i64 o, .slice A L C, .slice A' L C'] 24)
  have hw0 := hw.trans (hB0.mono hw.size)
  clear hZ h0 h4
  go_enter Try.func14, Try.ntmps14
  go_wp2_with (go_at_call 19; with_reducible refine AnsQ.use HR hw0 ?_)
  go_ret
  exact ⟨rfl, hB0⟩
/-- The document's Check. -/
theorem rcheck_any (W : World) (o : Int) (A : Option Addr) (C : Nat) (A' : Option Addr) (C' : Nat) (zs ss : List Int) (hD : ZAt W A C zs) (hZ : ZAt W A' C' ss) (c e : Int) (h : Chk o zs ss c e) : AnsB W 14 #[vw o A zs.length C A' ss.length C', .int .i64 c] (.int .i64 e) := by
  rcases h with ⟨h, rfl⟩ | ⟨h1, h2, h3, h4, rfl⟩ | ⟨h1, h2, h3, ds, rfl, hS, h⟩
  · exact rcheck_arg W o A _ C A' _ C' c h
  · rw [← h1]; exact rcheck_err W o A C A' C' zs hD c h2 h3 h4
  · rw [ints_len] at h1 ⊢
    refine rcheck_shape W o A C A' C' ds hS hD ss h1.symm hZ c h2 h3 e ?_ ?_ ?_
    · intro k; rcases h with ⟨_, h⟩ | ⟨h, _⟩ | ⟨h, _⟩
      · exact h
      · exact absurd h k
      · exact absurd h k
    · intro k l; rcases h with ⟨h, _⟩ | ⟨_, _, h⟩ | ⟨_, h, _⟩
      · exact absurd k h
      · exact h
      · exact absurd l h
    · intro k l; rcases h with ⟨h, _⟩ | ⟨_, h, _⟩ | ⟨_, _, h⟩
      · exact absurd k h
      · exact absurd h l
      · exact h

theorem check_arg (W : World) (o : Int) (A : Option Addr) (L C : Nat) (A' : Option Addr) (L' C' : Nat) (c : Int) (h : L ≠ L' ∨ c < 0 ∨ 4096 < c) : AnsB W 13 #[vw o A L C A' L' C', .int .i64 c] (.int .i64 1) := by
  intro w hw
  unfold vw
  by_cases h1 : (L' : Int) = (L : Int)
  · obtain rfl : L = L' := by omega
    by_cases h2 : c < 0
    · clear h
      go_enter Try.func13, Try.ntmps13
      go_wp2
      go_ret
      exact ⟨rfl, below_alloc _ _⟩
    · have h3 : 4096 < c := by omega
      clear h
      go_enter Try.func13, Try.ntmps13
      go_wp2
      go_ret
      exact ⟨rfl, below_alloc _ _⟩
  · clear h
    go_enter Try.func13, Try.ntmps13
    go_wp2
    go_ret
    exact ⟨rfl, below_alloc _ _⟩
theorem check_err (W : World) (o : Int) (A : Option Addr) (C : Nat) (A' : Option Addr) (C' : Nat) (zs : List Int) (hZ : ZAt W A C zs) (c : Int) (h0 : 0 ≤ c) (h4 : c ≤ 4096) (he : errV zs ≠ 0) : AnsB W 13 #[vw o A zs.length C A' zs.length C', .int .i64 c] (.int .i64 (errV zs)) := by
  intro w hw
  unfold vw
  have HR := size_any W A C zs hZ
  generalize sizeV zs = sv at *
  generalize errV zs = ev at *
  generalize zs.length = L at *
  have h0' : ¬ c < 0 := by omega
  have h4' : ¬ 4096 < c := by omega
  have hB0 := below_alloc w (.cells #[.int .i64 o, .slice A L C, .slice A' L C'] 28)
  have hw0 := hw.trans (hB0.mono hw.size)
  clear hZ h0 h4
  go_enter Try.func13, Try.ntmps13
  go_wp2_with (go_at_call 29; with_reducible refine AnsQ.use HR hw0 ?_)
  go_ret
  exact ⟨rfl, hB0⟩
theorem Among.mono {o : Int} {ss : List Int} {ds : List Nat} {c c' : Int} (h : Among o ss ds c) (hc : c ≤ c') : Among o ss ds c' := fun n hn => by have := h n hn; omega
set_option maxHeartbeats 1000000 in
theorem check_shape (W : World) (o : Int) (A : Option Addr) (C : Nat) (A' : Option Addr) (C' : Nat) (ds : List Nat) (hS : Shp ds) (hD : ZAt W A C (ints ds)) (ss : List Int) (hl : ss.length = ds.length) (hZ : ZAt W A' C' ss) (c : Int) (h0 : 0 ≤ c) (hc : c ≤ 4096) (e : Int)
    (h : (¬ Among o ss ds c ∧ e = 6) ∨ (Among o ss ds c ∧ Twice o ss ds ∧ e = 7) ∨ (Among o ss ds c ∧ ¬ Twice o ss ds ∧ e = 0)) :
    AnsB W 13 #[vw o A ds.length C A' ss.length C', .int .i64 c] (.int .i64 e) := by
  intro w hw
  have HR := size_any W A C (ints ds) hD
  rw [ints_len, errV_shape hS] at HR
  generalize sizeV (ints ds) = sv at HR
  have h0' : ¬ c < 0 := by omega
  have h4' : ¬ 4096 < c := by omega
  have HAm := fun r hr => isAmong_any W o A C A' C' ds hS hD ss hl hZ c h0 hc r hr
  have HMe := fun hA t ht => meets_any W o A C A' C' ds hS hD ss hl hZ hA t ht
  unfold vw at *
  rw [hl] at *
  have hB0 := below_alloc w (.cells #[.int .i64 o, .slice A ds.length C, .slice A' ds.length C'] 28)
  have hw0 := hw.trans (hB0.mono hw.size)
  rcases h with ⟨hA, rfl⟩ | ⟨hA, hT, rfl⟩ | ⟨hA, hT, rfl⟩
  · have HA := HAm false ⟨fun k => by (cases k), fun k => absurd (k.among hS) hA⟩
    generalize ds.length = L at *
    clear HAm HMe h0 hc hA hD hZ
    go_enter Try.func13, Try.ntmps13
    go_wp2_with (first
      | (go_at_call 29; with_reducible refine AnsQ.use HR hw0 ?_)
      | (go_at_call 30; with_reducible refine AnsB.use HA hw0 fun w2 hb2 => ?_))
    go_ret
    exact ⟨rfl, bb hB0 hb2⟩
  · have HA := HAm true ⟨fun _ => way_of hS hA, fun _ => rfl⟩
    have HM := HMe (hA.mono hc) true ⟨fun _ => hT, fun _ => rfl⟩
    generalize ds.length = L at *
    clear HAm HMe h0 hc hA hD hZ
    go_enter Try.func13, Try.ntmps13
    go_wp2_with (first
      | (go_at_call 29; with_reducible refine AnsQ.use HR hw0 ?_)
      | (go_at_call 30; with_reducible refine AnsB.use HA hw0 fun w2 hb2 => ?_; have hw2 := hw0.trans (hb2.mono hw0.size); obtain ⟨k1, k2⟩ := bcell hb2; have kz : w.heap.size < w.heap.size + 1 := Nat.lt_succ_self _)
      | (go_at_call 31; with_reducible refine AnsB.use HM hw2 fun w3 hb3 => ?_))
    go_ret
    exact ⟨rfl, bb (bb hB0 hb2) hb3⟩
  · have HA := HAm true ⟨fun _ => way_of hS hA, fun _ => rfl⟩
    have HM := HMe (hA.mono hc) false ⟨fun k => by (cases k), fun k => absurd k hT⟩
    generalize ds.length = L at *
    clear HAm HMe h0 hc hA hD hZ
    go_enter Try.func13, Try.ntmps13
    go_wp2_with (first
      | (go_at_call 29; with_reducible refine AnsQ.use HR hw0 ?_)
      | (go_at_call 30; with_reducible refine AnsB.use HA hw0 fun w2 hb2 => ?_; have hw2 := hw0.trans (hb2.mono hw0.size); obtain ⟨k1, k2⟩ := bcell hb2; have kz : w.heap.size < w.heap.size + 1 := Nat.lt_succ_self _)
      | (go_at_call 31; with_reducible refine AnsB.use HM hw2 fun w3 hb3 => ?_))
    go_ret
    exact ⟨rfl, bb (bb hB0 hb2) hb3⟩
/-- Check. -/
theorem check_any (W : World) (o : Int) (A : Option Addr) (C : Nat) (A' : Option Addr) (C' : Nat) (zs ss : List Int) (hD : ZAt W A C zs) (hZ : ZAt W A' C' ss) (c e : Int) (h : Chk o zs ss c e) : AnsB W 13 #[vw o A zs.length C A' ss.length C', .int .i64 c] (.int .i64 e) := by
  rcases h with ⟨h, rfl⟩ | ⟨h1, h2, h3, h4, rfl⟩ | ⟨h1, h2, h3, ds, rfl, hS, h⟩
  · exact check_arg W o A _ C A' _ C' c h
  · rw [← h1]; exact check_err W o A C A' C' zs hD c h2 h3 h4
  · rw [ints_len] at h1 ⊢
    exact check_shape W o A C A' C' ds hS hD ss h1.symm hZ c h2 h3 e h
/-- checkAxis. -/
def caE (e : Int) (L : Nat) (k : Int) : Int := if e = 0 then (if axB L k then 0 else 10) else e
theorem checkAxis_any (W : World) (o : Int) (A : Option Addr) (C : Nat) (A' : Option Addr) (C' : Nat) (zs ss : List Int) (hD : ZAt W A C zs) (hZ : ZAt W A' C' ss) (e : Int) (h : Chk o zs ss 4096 e) (k : Int) : AnsB W 38 #[vw o A zs.length C A' ss.length C', .int .i64 k] (.int .i64 (caE e zs.length k)) := by
  intro w hw
  have HC := check_any W o A C A' C' zs ss hD hZ 4096 e h
  have HX := hasAxis_any W o A zs.length C A' ss.length C' k
  unfold vw at *
  generalize zs.length = L at *
  generalize ss.length = L' at *
  have hB0 := below_alloc w (.cells #[.int .i64 o, .slice A L C, .slice A' L' C'] 28)
  have hw0 := hw.trans (hB0.mono hw.size)
  clear h hD hZ
  by_cases he : e = 0
  · subst he
    cases hx : axB L k with
    | true =>
      have HE : Hid (caE 0 L k = 0) := by simp [Hid, caE, hx]
      rw [hx] at HX
      clear hx
      go_enter Try.func38, Try.ntmps38
      go_wp2_with (first
        | (go_at_call 13; with_reducible refine AnsB.use HC hw0 fun w2 hb2 => ?_; have hw2 := hw0.trans (hb2.mono hw0.size); obtain ⟨k1, k2⟩ := bcell hb2; have kz : w.heap.size < w.heap.size + 1 := Nat.lt_succ_self _)
        | (go_at_call 47; with_reducible refine AnsB.use HX hw2 fun w3 hb3 => ?_))
      go_ret
      exact ⟨ret_int HE.out.symm, bb (bb hB0 hb2) hb3⟩
    | false =>
      have HE : Hid (caE 0 L k = 10) := by simp [Hid, caE, hx]
      rw [hx] at HX
      clear hx
      go_enter Try.func38, Try.ntmps38
      go_wp2_with (first
        | (go_at_call 13; with_reducible refine AnsB.use HC hw0 fun w2 hb2 => ?_; have hw2 := hw0.trans (hb2.mono hw0.size); obtain ⟨k1, k2⟩ := bcell hb2; have kz : w.heap.size < w.heap.size + 1 := Nat.lt_succ_self _)
        | (go_at_call 47; with_reducible refine AnsB.use HX hw2 fun w3 hb3 => ?_))
      go_ret
      exact ⟨ret_int HE.out.symm, bb (bb hB0 hb2) hb3⟩
  · have HE : Hid (caE e L k = e) := by simp [Hid, caE, he]
    go_enter Try.func38, Try.ntmps38
    go_wp2_with (go_at_call 13; with_reducible refine AnsB.use HC hw0 fun w2 hb2 => ?_)
    go_ret
    exact ⟨ret_int HE.out.symm, bb hB0 hb2⟩
end Go.Proofs.Ytccknfhhmdoffaa

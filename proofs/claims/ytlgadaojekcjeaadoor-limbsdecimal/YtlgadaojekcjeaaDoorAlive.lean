/-
  The contract of the statements' first question: what the document tells by example is answered so.
-/
import Derived.Test.YtlgadaojekcjeaaDoorDec
namespace Go.Proofs.YtlgadaojekcjeaaDoor
open Go.RowKit

theorem dec_two64 : Lib.decDigits 18446744073709551616 = [49, 56, 52, 52, 54, 55, 52, 52, 48, 55, 51, 55, 48, 57, 53, 53, 49, 54, 49, 54] := by
  have h : Lib.nDigits 18446744073709551616 = 20 := Lib.nDigits_unique 19 _ (by decide) (by decide)
  rw [Lib.decDigits_eq, h]
  decide +kernel

theorem neg_one (s0 s1 s2 : Int) (c : Bool) (h : SubR 0 0 0 1 0 0 s0 s1 s2 c) : s0 = 18446744073709551615 ∧ s1 = 18446744073709551615 ∧ s2 = 18446744073709551615 := by
  obtain ⟨⟨_, _⟩, ⟨_, _⟩, ⟨_, _⟩, h⟩ := h
  unfold val at h
  cases c <;> simp at h <;> omega
theorem int_max : intN 18446744073709551615 18446744073709551615 18446744073709551615 = -1 ∧ intB 18446744073709551615 18446744073709551615 18446744073709551615 = true := by
  decide +kernel

set_option maxHeartbeats 1000000 in
set_option maxRecDepth 100000 in
theorem alive_any (w : World) (htab : Tab w) : Calls Tryd.prog 10 #[] w fun e w' => e = .returned (.bool true) ∧ Below w.heap.size w w' := by
  have HT : Hid (Tab w) := htab
  clear htab
  go_enter Tryd.func10, Tryd.ntmps10
  go_wp2_with fail
  refine (neg_any 1 0 0 ⟨by omega, by omega⟩ wd0 wd0 _).mono ?_
  rintro e w1 ⟨s0, s1, s2, c, rfl, hR, hb1⟩
  obtain ⟨rfl, rfl, rfl⟩ := neg_one _ _ _ _ hR
  clear hR
  go_wp2_with fail
  refine (int_any _ _ _ ⟨by omega, by omega⟩ _).mono ?_
  rintro e w2 ⟨rfl, hb2⟩
  rw [int_max.1, int_max.2]
  go_wp2_with fail
  have hB : Below w.heap.size w w2 := hb1.trans (hb2.mono hb1.size)
  refine (dec_any 0 1 0 wd0 ⟨by omega, by omega⟩ wd0 _ (tab_below HT.out hB)).mono ?_
  rintro e w3 ⟨rfl, hb3⟩
  rw [show (val 0 1 0).toNat = 18446744073709551616 from rfl, dec_two64]
  go_wp2
  go_ret
  exact ⟨rfl, hB.trans (hb3.mono hB.size)⟩
end Go.Proofs.YtlgadaojekcjeaaDoor

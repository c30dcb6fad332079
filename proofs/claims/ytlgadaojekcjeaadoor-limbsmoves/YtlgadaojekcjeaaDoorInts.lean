/-
  Plain laws of three words: the same modulo 2^192 is the same.
-/
import Derived.Test.YtlgadaojekcjeaaDoorA
namespace Go.Proofs.YtlgadaojekcjeaaDoor
theorem val_inj (x0 x1 x2 y0 y1 y2 : Int) (k : Int) (hx0 : Wd x0) (hx1 : Wd x1) (hx2 : Wd x2) (hy0 : Wd y0) (hy1 : Wd y1) (hy2 : Wd y2) (h : val x0 x1 x2 = val y0 y1 y2 + k * 6277101735386680763835789423207666416102355444464034512896) : x0 = y0 ∧ x1 = y1 ∧ x2 = y2 := by
  obtain ⟨_, _⟩ := hx0; obtain ⟨_, _⟩ := hx1; obtain ⟨_, _⟩ := hx2; obtain ⟨_, _⟩ := hy0; obtain ⟨_, _⟩ := hy1; obtain ⟨_, _⟩ := hy2
  unfold val at h
  omega
theorem AddR.mod {a0 a1 a2 b0 b1 b2 s0 s1 s2 : Int} {c : Bool} (h : AddR a0 a1 a2 b0 b1 b2 s0 s1 s2 c) : ∃ k : Int, val s0 s1 s2 = val a0 a1 a2 + val b0 b1 b2 - k * 6277101735386680763835789423207666416102355444464034512896 := by
  obtain ⟨_, _, _, h⟩ := h
  cases c
  · exact ⟨0, by simp at h; omega⟩
  · exact ⟨1, by simp at h; omega⟩
theorem SubR.mod {a0 a1 a2 b0 b1 b2 s0 s1 s2 : Int} {c : Bool} (h : SubR a0 a1 a2 b0 b1 b2 s0 s1 s2 c) : ∃ k : Int, val s0 s1 s2 = val a0 a1 a2 - val b0 b1 b2 + k * 6277101735386680763835789423207666416102355444464034512896 := by
  obtain ⟨_, _, _, h⟩ := h
  cases c
  · exact ⟨0, by simp at h; omega⟩
  · exact ⟨1, by simp at h; omega⟩
end Go.Proofs.YtlgadaojekcjeaaDoor

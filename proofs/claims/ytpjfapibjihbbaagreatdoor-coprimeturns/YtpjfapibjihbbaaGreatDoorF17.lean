/-
  The known primes: their entries, as the document's table has them.
-/
import Derived.Test.YtpjfapibjihbbaaGreatDoorF16
namespace Go.Proofs.YtpjfapibjihbbaaGreatDoor
set_option linter.unusedVariables false
open Go.RowKit

/-- The known primes' factors, their entries. -/
def knFs : Nat → List Pw
  | 0 => [⟨2, 57⟩, ⟨29, 1⟩]
  | 1 => [⟨2, 56⟩, ⟨3, 3⟩]
  | 2 => [⟨2, 55⟩, ⟨5, 1⟩]
  | 3 => [⟨2, 24⟩, ⟨3, 2⟩, ⟨5, 1⟩]
  | 4 => [⟨2, 26⟩, ⟨7, 1⟩]
  | _ => [⟨2, 25⟩, ⟨5, 1⟩]
def knP : Nat → Nat
  | 0 => 4179340454199820289
  | 1 => 1945555039024054273
  | 2 => 180143985094819841
  | 3 => 754974721
  | 4 => 469762049
  | _ => 167772161
def knG : Nat → Nat
  | 0 => 3
  | 1 => 5
  | 2 => 6
  | 3 => 11
  | 4 => 3
  | _ => 3
def kn (i : Nat) : En := ⟨knP i, knG i, knFs i⟩
theorem pows_new (w : World) (l : List Pw) (hok : ∀ f ∈ l, f.ok) (hl : l.length ≤ 100) : PowsAt (w.alloc (.cells (pcells l).toArray 93)) (some ⟨w.heap.size, 0, none⟩) l.length l := by
  refine ⟨Nat.le_refl _, by unfold maxLen; omega, fun i f hf => ⟨w.heap.size, 0, rfl, by simp, ?_, ?_, hok f (List.mem_of_getElem? hf)⟩⟩
  · rw [World.cell?_alloc_at _ _ _ _ rfl, Nat.zero_add, List.getElem?_toArray]; exact (pcells_get l i f hf).1
  · rw [World.cell?_alloc_at _ _ _ _ rfl, Nat.zero_add, List.getElem?_toArray]; exact (pcells_get l i f hf).2
theorem knFs_ok (i : Nat) : ∀ f ∈ knFs i, f.ok := by
  intro f hf
  unfold knFs at hf
  split at hf <;> (simp at hf; rcases hf with rfl | rfl | rfl <;> (unfold Pw.ok; decide)) <;> skip
theorem knFs_len (i : Nat) : (knFs i).length ≤ 100 := by
  unfold knFs
  split <;> (show _ ≤ 100; decide)
/-- The entries, the k-th one's factors k + 1 blocks behind b. -/
def knAgg (b : Nat) : Value := .agg #[.int .u64 4179340454199820289, .int .u64 3, .slice (some ⟨b + 1, 0, none⟩) 2 2, .int .u64 1945555039024054273, .int .u64 5, .slice (some ⟨b + 1 + 1, 0, none⟩) 2 2, .int .u64 180143985094819841, .int .u64 6, .slice (some ⟨b + 1 + 1 + 1, 0, none⟩) 2 2, .int .u64 754974721, .int .u64 11, .slice (some ⟨b + 1 + 1 + 1 + 1, 0, none⟩) 3 3, .int .u64 469762049, .int .u64 3, .slice (some ⟨b + 1 + 1 + 1 + 1 + 1, 0, none⟩) 2 2, .int .u64 167772161, .int .u64 3, .slice (some ⟨b + 1 + 1 + 1 + 1 + 1 + 1, 0, none⟩) 2 2]
def KnAns : Prop := ∀ w, Calls Tryz.prog 38 #[] w fun e w' => e = .returned (knAgg w.heap.size) ∧ Below w.heap.size w w' ∧ PowsAt w' (some ⟨w.heap.size + 1, 0, none⟩) 2 (knFs 0) ∧ PowsAt w' (some ⟨w.heap.size + 1 + 1, 0, none⟩) 2 (knFs 1) ∧ PowsAt w' (some ⟨w.heap.size + 1 + 1 + 1, 0, none⟩) 2 (knFs 2) ∧ PowsAt w' (some ⟨w.heap.size + 1 + 1 + 1 + 1, 0, none⟩) 3 (knFs 3) ∧ PowsAt w' (some ⟨w.heap.size + 1 + 1 + 1 + 1 + 1, 0, none⟩) 2 (knFs 4) ∧ PowsAt w' (some ⟨w.heap.size + 1 + 1 + 1 + 1 + 1 + 1, 0, none⟩) 2 (knFs 5)
theorem kn_end (w : World) : Below w.heap.size w (((((((w.alloc (.cells #[.int .u64 4179340454199820289, .int .u64 3, .slice (some ⟨w.heap.size + 1, 0, none⟩) 2 2, .int .u64 1945555039024054273, .int .u64 5, .slice (some ⟨w.heap.size + 1 + 1, 0, none⟩) 2 2, .int .u64 180143985094819841, .int .u64 6, .slice (some ⟨w.heap.size + 1 + 1 + 1, 0, none⟩) 2 2, .int .u64 754974721, .int .u64 11, .slice (some ⟨w.heap.size + 1 + 1 + 1 + 1, 0, none⟩) 3 3, .int .u64 469762049, .int .u64 3, .slice (some ⟨w.heap.size + 1 + 1 + 1 + 1 + 1, 0, none⟩) 2 2, .int .u64 167772161, .int .u64 3, .slice (some ⟨w.heap.size + 1 + 1 + 1 + 1 + 1 + 1, 0, none⟩) 2 2] 79)).alloc (.cells #[.int .u64 2, .int .i64 57, .int .u64 29, .int .i64 1] 93)).alloc (.cells #[.int .u64 2, .int .i64 56, .int .u64 3, .int .i64 3] 93)).alloc (.cells #[.int .u64 2, .int .i64 55, .int .u64 5, .int .i64 1] 93)).alloc (.cells #[.int .u64 2, .int .i64 24, .int .u64 3, .int .i64 2, .int .u64 5, .int .i64 1] 93)).alloc (.cells #[.int .u64 2, .int .i64 26, .int .u64 7, .int .i64 1] 93)).alloc (.cells #[.int .u64 2, .int .i64 25, .int .u64 5, .int .i64 1] 93)) ∧ PowsAt (((((((w.alloc (.cells #[.int .u64 4179340454199820289, .int .u64 3, .slice (some ⟨w.heap.size + 1, 0, none⟩) 2 2, .int .u64 1945555039024054273, .int .u64 5, .slice (some ⟨w.heap.size + 1 + 1, 0, none⟩) 2 2, .int .u64 180143985094819841, .int .u64 6, .slice (some ⟨w.heap.size + 1 + 1 + 1, 0, none⟩) 2 2, .int .u64 754974721, .int .u64 11, .slice (some ⟨w.heap.size + 1 + 1 + 1 + 1, 0, none⟩) 3 3, .int .u64 469762049, .int .u64 3, .slice (some ⟨w.heap.size + 1 + 1 + 1 + 1 + 1, 0, none⟩) 2 2, .int .u64 167772161, .int .u64 3, .slice (some ⟨w.heap.size + 1 + 1 + 1 + 1 + 1 + 1, 0, none⟩) 2 2] 79)).alloc (.cells #[.int .u64 2, .int .i64 57, .int .u64 29, .int .i64 1] 93)).alloc (.cells #[.int .u64 2, .int .i64 56, .int .u64 3, .int .i64 3] 93)).alloc (.cells #[.int .u64 2, .int .i64 55, .int .u64 5, .int .i64 1] 93)).alloc (.cells #[.int .u64 2, .int .i64 24, .int .u64 3, .int .i64 2, .int .u64 5, .int .i64 1] 93)).alloc (.cells #[.int .u64 2, .int .i64 26, .int .u64 7, .int .i64 1] 93)).alloc (.cells #[.int .u64 2, .int .i64 25, .int .u64 5, .int .i64 1] 93)) (some ⟨w.heap.size + 1, 0, none⟩) 2 (knFs 0) ∧ PowsAt (((((((w.alloc (.cells #[.int .u64 4179340454199820289, .int .u64 3, .slice (some ⟨w.heap.size + 1, 0, none⟩) 2 2, .int .u64 1945555039024054273, .int .u64 5, .slice (some ⟨w.heap.size + 1 + 1, 0, none⟩) 2 2, .int .u64 180143985094819841, .int .u64 6, .slice (some ⟨w.heap.size + 1 + 1 + 1, 0, none⟩) 2 2, .int .u64 754974721, .int .u64 11, .slice (some ⟨w.heap.size + 1 + 1 + 1 + 1, 0, none⟩) 3 3, .int .u64 469762049, .int .u64 3, .slice (some ⟨w.heap.size + 1 + 1 + 1 + 1 + 1, 0, none⟩) 2 2, .int .u64 167772161, .int .u64 3, .slice (some ⟨w.heap.size + 1 + 1 + 1 + 1 + 1 + 1, 0, none⟩) 2 2] 79)).alloc (.cells #[.int .u64 2, .int .i64 57, .int .u64 29, .int .i64 1] 93)).alloc (.cells #[.int .u64 2, .int .i64 56, .int .u64 3, .int .i64 3] 93)).alloc (.cells #[.int .u64 2, .int .i64 55, .int .u64 5, .int .i64 1] 93)).alloc (.cells #[.int .u64 2, .int .i64 24, .int .u64 3, .int .i64 2, .int .u64 5, .int .i64 1] 93)).alloc (.cells #[.int .u64 2, .int .i64 26, .int .u64 7, .int .i64 1] 93)).alloc (.cells #[.int .u64 2, .int .i64 25, .int .u64 5, .int .i64 1] 93)) (some ⟨w.heap.size + 1 + 1, 0, none⟩) 2 (knFs 1) ∧ PowsAt (((((((w.alloc (.cells #[.int .u64 4179340454199820289, .int .u64 3, .slice (some ⟨w.heap.size + 1, 0, none⟩) 2 2, .int .u64 1945555039024054273, .int .u64 5, .slice (some ⟨w.heap.size + 1 + 1, 0, none⟩) 2 2, .int .u64 180143985094819841, .int .u64 6, .slice (some ⟨w.heap.size + 1 + 1 + 1, 0, none⟩) 2 2, .int .u64 754974721, .int .u64 11, .slice (some ⟨w.heap.size + 1 + 1 + 1 + 1, 0, none⟩) 3 3, .int .u64 469762049, .int .u64 3, .slice (some ⟨w.heap.size + 1 + 1 + 1 + 1 + 1, 0, none⟩) 2 2, .int .u64 167772161, .int .u64 3, .slice (some ⟨w.heap.size + 1 + 1 + 1 + 1 + 1 + 1, 0, none⟩) 2 2] 79)).alloc (.cells #[.int .u64 2, .int .i64 57, .int .u64 29, .int .i64 1] 93)).alloc (.cells #[.int .u64 2, .int .i64 56, .int .u64 3, .int .i64 3] 93)).alloc (.cells #[.int .u64 2, .int .i64 55, .int .u64 5, .int .i64 1] 93)).alloc (.cells #[.int .u64 2, .int .i64 24, .int .u64 3, .int .i64 2, .int .u64 5, .int .i64 1] 93)).alloc (.cells #[.int .u64 2, .int .i64 26, .int .u64 7, .int .i64 1] 93)).alloc (.cells #[.int .u64 2, .int .i64 25, .int .u64 5, .int .i64 1] 93)) (some ⟨w.heap.size + 1 + 1 + 1, 0, none⟩) 2 (knFs 2) ∧ PowsAt (((((((w.alloc (.cells #[.int .u64 4179340454199820289, .int .u64 3, .slice (some ⟨w.heap.size + 1, 0, none⟩) 2 2, .int .u64 1945555039024054273, .int .u64 5, .slice (some ⟨w.heap.size + 1 + 1, 0, none⟩) 2 2, .int .u64 180143985094819841, .int .u64 6, .slice (some ⟨w.heap.size + 1 + 1 + 1, 0, none⟩) 2 2, .int .u64 754974721, .int .u64 11, .slice (some ⟨w.heap.size + 1 + 1 + 1 + 1, 0, none⟩) 3 3, .int .u64 469762049, .int .u64 3, .slice (some ⟨w.heap.size + 1 + 1 + 1 + 1 + 1, 0, none⟩) 2 2, .int .u64 167772161, .int .u64 3, .slice (some ⟨w.heap.size + 1 + 1 + 1 + 1 + 1 + 1, 0, none⟩) 2 2] 79)).alloc (.cells #[.int .u64 2, .int .i64 57, .int .u64 29, .int .i64 1] 93)).alloc (.cells #[.int .u64 2, .int .i64 56, .int .u64 3, .int .i64 3] 93)).alloc (.cells #[.int .u64 2, .int .i64 55, .int .u64 5, .int .i64 1] 93)).alloc (.cells #[.int .u64 2, .int .i64 24, .int .u64 3, .int .i64 2, .int .u64 5, .int .i64 1] 93)).alloc (.cells #[.int .u64 2, .int .i64 26, .int .u64 7, .int .i64 1] 93)).alloc (.cells #[.int .u64 2, .int .i64 25, .int .u64 5, .int .i64 1] 93)) (some ⟨w.heap.size + 1 + 1 + 1 + 1, 0, none⟩) 3 (knFs 3) ∧ PowsAt (((((((w.alloc (.cells #[.int .u64 4179340454199820289, .int .u64 3, .slice (some ⟨w.heap.size + 1, 0, none⟩) 2 2, .int .u64 1945555039024054273, .int .u64 5, .slice (some ⟨w.heap.size + 1 + 1, 0, none⟩) 2 2, .int .u64 180143985094819841, .int .u64 6, .slice (some ⟨w.heap.size + 1 + 1 + 1, 0, none⟩) 2 2, .int .u64 754974721, .int .u64 11, .slice (some ⟨w.heap.size + 1 + 1 + 1 + 1, 0, none⟩) 3 3, .int .u64 469762049, .int .u64 3, .slice (some ⟨w.heap.size + 1 + 1 + 1 + 1 + 1, 0, none⟩) 2 2, .int .u64 167772161, .int .u64 3, .slice (some ⟨w.heap.size + 1 + 1 + 1 + 1 + 1 + 1, 0, none⟩) 2 2] 79)).alloc (.cells #[.int .u64 2, .int .i64 57, .int .u64 29, .int .i64 1] 93)).alloc (.cells #[.int .u64 2, .int .i64 56, .int .u64 3, .int .i64 3] 93)).alloc (.cells #[.int .u64 2, .int .i64 55, .int .u64 5, .int .i64 1] 93)).alloc (.cells #[.int .u64 2, .int .i64 24, .int .u64 3, .int .i64 2, .int .u64 5, .int .i64 1] 93)).alloc (.cells #[.int .u64 2, .int .i64 26, .int .u64 7, .int .i64 1] 93)).alloc (.cells #[.int .u64 2, .int .i64 25, .int .u64 5, .int .i64 1] 93)) (some ⟨w.heap.size + 1 + 1 + 1 + 1 + 1, 0, none⟩) 2 (knFs 4) ∧ PowsAt (((((((w.alloc (.cells #[.int .u64 4179340454199820289, .int .u64 3, .slice (some ⟨w.heap.size + 1, 0, none⟩) 2 2, .int .u64 1945555039024054273, .int .u64 5, .slice (some ⟨w.heap.size + 1 + 1, 0, none⟩) 2 2, .int .u64 180143985094819841, .int .u64 6, .slice (some ⟨w.heap.size + 1 + 1 + 1, 0, none⟩) 2 2, .int .u64 754974721, .int .u64 11, .slice (some ⟨w.heap.size + 1 + 1 + 1 + 1, 0, none⟩) 3 3, .int .u64 469762049, .int .u64 3, .slice (some ⟨w.heap.size + 1 + 1 + 1 + 1 + 1, 0, none⟩) 2 2, .int .u64 167772161, .int .u64 3, .slice (some ⟨w.heap.size + 1 + 1 + 1 + 1 + 1 + 1, 0, none⟩) 2 2] 79)).alloc (.cells #[.int .u64 2, .int .i64 57, .int .u64 29, .int .i64 1] 93)).alloc (.cells #[.int .u64 2, .int .i64 56, .int .u64 3, .int .i64 3] 93)).alloc (.cells #[.int .u64 2, .int .i64 55, .int .u64 5, .int .i64 1] 93)).alloc (.cells #[.int .u64 2, .int .i64 24, .int .u64 3, .int .i64 2, .int .u64 5, .int .i64 1] 93)).alloc (.cells #[.int .u64 2, .int .i64 26, .int .u64 7, .int .i64 1] 93)).alloc (.cells #[.int .u64 2, .int .i64 25, .int .u64 5, .int .i64 1] 93)) (some ⟨w.heap.size + 1 + 1 + 1 + 1 + 1 + 1, 0, none⟩) 2 (knFs 5) ∧ (∀ j u, #[.int .u64 4179340454199820289, .int .u64 3, .slice (some ⟨w.heap.size + 1, 0, none⟩) 2 2, .int .u64 1945555039024054273, .int .u64 5, .slice (some ⟨w.heap.size + 1 + 1, 0, none⟩) 2 2, .int .u64 180143985094819841, .int .u64 6, .slice (some ⟨w.heap.size + 1 + 1 + 1, 0, none⟩) 2 2, .int .u64 754974721, .int .u64 11, .slice (some ⟨w.heap.size + 1 + 1 + 1 + 1, 0, none⟩) 3 3, .int .u64 469762049, .int .u64 3, .slice (some ⟨w.heap.size + 1 + 1 + 1 + 1 + 1, 0, none⟩) 2 2, .int .u64 167772161, .int .u64 3, .slice (some ⟨w.heap.size + 1 + 1 + 1 + 1 + 1 + 1, 0, none⟩) 2 2][j]? = some u → (((((((w.alloc (.cells #[.int .u64 4179340454199820289, .int .u64 3, .slice (some ⟨w.heap.size + 1, 0, none⟩) 2 2, .int .u64 1945555039024054273, .int .u64 5, .slice (some ⟨w.heap.size + 1 + 1, 0, none⟩) 2 2, .int .u64 180143985094819841, .int .u64 6, .slice (some ⟨w.heap.size + 1 + 1 + 1, 0, none⟩) 2 2, .int .u64 754974721, .int .u64 11, .slice (some ⟨w.heap.size + 1 + 1 + 1 + 1, 0, none⟩) 3 3, .int .u64 469762049, .int .u64 3, .slice (some ⟨w.heap.size + 1 + 1 + 1 + 1 + 1, 0, none⟩) 2 2, .int .u64 167772161, .int .u64 3, .slice (some ⟨w.heap.size + 1 + 1 + 1 + 1 + 1 + 1, 0, none⟩) 2 2] 79)).alloc (.cells #[.int .u64 2, .int .i64 57, .int .u64 29, .int .i64 1] 93)).alloc (.cells #[.int .u64 2, .int .i64 56, .int .u64 3, .int .i64 3] 93)).alloc (.cells #[.int .u64 2, .int .i64 55, .int .u64 5, .int .i64 1] 93)).alloc (.cells #[.int .u64 2, .int .i64 24, .int .u64 3, .int .i64 2, .int .u64 5, .int .i64 1] 93)).alloc (.cells #[.int .u64 2, .int .i64 26, .int .u64 7, .int .i64 1] 93)).alloc (.cells #[.int .u64 2, .int .i64 25, .int .u64 5, .int .i64 1] 93)).cell? ⟨w.heap.size, j, none⟩ = some u) := by
  obtain ⟨W0, h0⟩ : ∃ W0, w.alloc (.cells #[.int .u64 4179340454199820289, .int .u64 3, .slice (some ⟨w.heap.size + 1, 0, none⟩) 2 2, .int .u64 1945555039024054273, .int .u64 5, .slice (some ⟨w.heap.size + 1 + 1, 0, none⟩) 2 2, .int .u64 180143985094819841, .int .u64 6, .slice (some ⟨w.heap.size + 1 + 1 + 1, 0, none⟩) 2 2, .int .u64 754974721, .int .u64 11, .slice (some ⟨w.heap.size + 1 + 1 + 1 + 1, 0, none⟩) 3 3, .int .u64 469762049, .int .u64 3, .slice (some ⟨w.heap.size + 1 + 1 + 1 + 1 + 1, 0, none⟩) 2 2, .int .u64 167772161, .int .u64 3, .slice (some ⟨w.heap.size + 1 + 1 + 1 + 1 + 1 + 1, 0, none⟩) 2 2] 79) = W0 := ⟨_, rfl⟩
  have s0 : W0.heap.size = w.heap.size + 1 := by rw [← h0]; simp
  have b0 : Below w.heap.size w W0 := h0 ▸ below_alloc _ _
  have c0 : ∀ j u, #[.int .u64 4179340454199820289, .int .u64 3, .slice (some ⟨w.heap.size + 1, 0, none⟩) 2 2, .int .u64 1945555039024054273, .int .u64 5, .slice (some ⟨w.heap.size + 1 + 1, 0, none⟩) 2 2, .int .u64 180143985094819841, .int .u64 6, .slice (some ⟨w.heap.size + 1 + 1 + 1, 0, none⟩) 2 2, .int .u64 754974721, .int .u64 11, .slice (some ⟨w.heap.size + 1 + 1 + 1 + 1, 0, none⟩) 3 3, .int .u64 469762049, .int .u64 3, .slice (some ⟨w.heap.size + 1 + 1 + 1 + 1 + 1, 0, none⟩) 2 2, .int .u64 167772161, .int .u64 3, .slice (some ⟨w.heap.size + 1 + 1 + 1 + 1 + 1 + 1, 0, none⟩) 2 2][j]? = some u → W0.cell? ⟨w.heap.size, j, none⟩ = some u := fun j u hu => by
    rw [← h0, World.cell?_alloc_at _ _ _ _ rfl]; exact hu
  rw [h0]
  have p1 : PowsAt (W0.alloc (.cells #[.int .u64 2, .int .i64 57, .int .u64 29, .int .i64 1] 93)) (some ⟨W0.heap.size, 0, none⟩) 2 (knFs 0) := pows_new W0 (knFs 0) (knFs_ok 0) (knFs_len 0)
  obtain ⟨W1, h1⟩ : ∃ W, W0.alloc (.cells #[.int .u64 2, .int .i64 57, .int .u64 29, .int .i64 1] 93) = W := ⟨_, rfl⟩
  have s1 : W1.heap.size = W0.heap.size + 1 := by rw [← h1]; simp
  have b1 : Below W0.heap.size W0 W1 := h1 ▸ below_alloc _ _
  rw [h1] at p1 ⊢
  have p2 : PowsAt (W1.alloc (.cells #[.int .u64 2, .int .i64 56, .int .u64 3, .int .i64 3] 93)) (some ⟨W1.heap.size, 0, none⟩) 2 (knFs 1) := pows_new W1 (knFs 1) (knFs_ok 1) (knFs_len 1)
  obtain ⟨W2, h2⟩ : ∃ W, W1.alloc (.cells #[.int .u64 2, .int .i64 56, .int .u64 3, .int .i64 3] 93) = W := ⟨_, rfl⟩
  have s2 : W2.heap.size = W1.heap.size + 1 := by rw [← h2]; simp
  have b2 : Below W1.heap.size W1 W2 := h2 ▸ below_alloc _ _
  rw [h2] at p2 ⊢
  have p3 : PowsAt (W2.alloc (.cells #[.int .u64 2, .int .i64 55, .int .u64 5, .int .i64 1] 93)) (some ⟨W2.heap.size, 0, none⟩) 2 (knFs 2) := pows_new W2 (knFs 2) (knFs_ok 2) (knFs_len 2)
  obtain ⟨W3, h3⟩ : ∃ W, W2.alloc (.cells #[.int .u64 2, .int .i64 55, .int .u64 5, .int .i64 1] 93) = W := ⟨_, rfl⟩
  have s3 : W3.heap.size = W2.heap.size + 1 := by rw [← h3]; simp
  have b3 : Below W2.heap.size W2 W3 := h3 ▸ below_alloc _ _
  rw [h3] at p3 ⊢
  have p4 : PowsAt (W3.alloc (.cells #[.int .u64 2, .int .i64 24, .int .u64 3, .int .i64 2, .int .u64 5, .int .i64 1] 93)) (some ⟨W3.heap.size, 0, none⟩) 3 (knFs 3) := pows_new W3 (knFs 3) (knFs_ok 3) (knFs_len 3)
  obtain ⟨W4, h4⟩ : ∃ W, W3.alloc (.cells #[.int .u64 2, .int .i64 24, .int .u64 3, .int .i64 2, .int .u64 5, .int .i64 1] 93) = W := ⟨_, rfl⟩
  have s4 : W4.heap.size = W3.heap.size + 1 := by rw [← h4]; simp
  have b4 : Below W3.heap.size W3 W4 := h4 ▸ below_alloc _ _
  rw [h4] at p4 ⊢
  have p5 : PowsAt (W4.alloc (.cells #[.int .u64 2, .int .i64 26, .int .u64 7, .int .i64 1] 93)) (some ⟨W4.heap.size, 0, none⟩) 2 (knFs 4) := pows_new W4 (knFs 4) (knFs_ok 4) (knFs_len 4)
  obtain ⟨W5, h5⟩ : ∃ W, W4.alloc (.cells #[.int .u64 2, .int .i64 26, .int .u64 7, .int .i64 1] 93) = W := ⟨_, rfl⟩
  have s5 : W5.heap.size = W4.heap.size + 1 := by rw [← h5]; simp
  have b5 : Below W4.heap.size W4 W5 := h5 ▸ below_alloc _ _
  rw [h5] at p5 ⊢
  have p6 : PowsAt (W5.alloc (.cells #[.int .u64 2, .int .i64 25, .int .u64 5, .int .i64 1] 93)) (some ⟨W5.heap.size, 0, none⟩) 2 (knFs 5) := pows_new W5 (knFs 5) (knFs_ok 5) (knFs_len 5)
  obtain ⟨W6, h6⟩ : ∃ W, W5.alloc (.cells #[.int .u64 2, .int .i64 25, .int .u64 5, .int .i64 1] 93) = W := ⟨_, rfl⟩
  have s6 : W6.heap.size = W5.heap.size + 1 := by rw [← h6]; simp
  have b6 : Below W5.heap.size W5 W6 := h6 ▸ below_alloc _ _
  rw [h6] at p6 ⊢
  rw [s5, s4, s3, s2, s1, s0] at p6
  rw [s4, s3, s2, s1, s0] at p5
  rw [s3, s2, s1, s0] at p4
  rw [s2, s1, s0] at p3
  rw [s1, s0] at p2
  rw [s0] at p1
  refine ⟨bb b0 (bb b1 (bb b2 (bb b3 (bb b4 (bb b5 b6))))), p1.below (bb b2 (bb b3 (bb b4 (bb b5 b6)))), p2.below (bb b3 (bb b4 (bb b5 b6))), p3.below (bb b4 (bb b5 b6)), p4.below (bb b5 b6), p5.below b6, p6, fun j u hu => ?_⟩
  exact keep_cell (bb b1 (bb b2 (bb b3 (bb b4 (bb b5 b6))))) (by omega) (c0 j u hu)
theorem entries_res (w W : World) (a : Act) (ha : a.tmps[0]? = some (.pointer (some ⟨w.heap.size, 0, none⟩))) (hc : ∀ j u, #[.int .u64 4179340454199820289, .int .u64 3, .slice (some ⟨w.heap.size + 1, 0, none⟩) 2 2, .int .u64 1945555039024054273, .int .u64 5, .slice (some ⟨w.heap.size + 1 + 1, 0, none⟩) 2 2, .int .u64 180143985094819841, .int .u64 6, .slice (some ⟨w.heap.size + 1 + 1 + 1, 0, none⟩) 2 2, .int .u64 754974721, .int .u64 11, .slice (some ⟨w.heap.size + 1 + 1 + 1 + 1, 0, none⟩) 3 3, .int .u64 469762049, .int .u64 3, .slice (some ⟨w.heap.size + 1 + 1 + 1 + 1 + 1, 0, none⟩) 2 2, .int .u64 167772161, .int .u64 3, .slice (some ⟨w.heap.size + 1 + 1 + 1 + 1 + 1 + 1, 0, none⟩) 2 2][j]? = some u → W.cell? ⟨w.heap.size, j, none⟩ = some u) : (results Tryz.f38 a.tmps).run Tryz.prog W = .ok (knAgg w.heap.size) W := by
  have c0 := hc 0 _ rfl
  have c1 := hc 1 _ rfl
  have c2 := hc 2 _ rfl
  have c3 := hc 3 _ rfl
  have c4 := hc 4 _ rfl
  have c5 := hc 5 _ rfl
  have c6 := hc 6 _ rfl
  have c7 := hc 7 _ rfl
  have c8 := hc 8 _ rfl
  have c9 := hc 9 _ rfl
  have c10 := hc 10 _ rfl
  have c11 := hc 11 _ rfl
  have c12 := hc 12 _ rfl
  have c13 := hc 13 _ rfl
  have c14 := hc 14 _ rfl
  have c15 := hc 15 _ rfl
  have c16 := hc 16 _ rfl
  have c17 := hc 17 _ rfl
  clear hc
  simp [results, Tryz.results38, go_sem, knAgg, ha, c0, c1, c2, c3, c4, c5, c6, c7, c8, c9, c10, c11, c12, c13, c14, c15, c16, c17]
end Go.Proofs.YtpjfapibjihbbaaGreatDoor

/-
  knownEntries answers them.
-/
import Derived.Test.YtpjfapibjihbbaaGreatDoorF17
namespace Go.Proofs.YtpjfapibjihbbaaGreatDoor
set_option linter.unusedVariables false
open Go.RowKit

set_option maxHeartbeats 2000000 in
theorem entries_any : KnAns := by
  intro w
  have h := kn_end w
  obtain ⟨Wf, hW⟩ : ∃ Wf, ((((((w.alloc (.cells #[.int .u64 4179340454199820289, .int .u64 3, .slice (some ⟨w.heap.size + 1, 0, none⟩) 2 2, .int .u64 1945555039024054273, .int .u64 5, .slice (some ⟨w.heap.size + 1 + 1, 0, none⟩) 2 2, .int .u64 180143985094819841, .int .u64 6, .slice (some ⟨w.heap.size + 1 + 1 + 1, 0, none⟩) 2 2, .int .u64 754974721, .int .u64 11, .slice (some ⟨w.heap.size + 1 + 1 + 1 + 1, 0, none⟩) 3 3, .int .u64 469762049, .int .u64 3, .slice (some ⟨w.heap.size + 1 + 1 + 1 + 1 + 1, 0, none⟩) 2 2, .int .u64 167772161, .int .u64 3, .slice (some ⟨w.heap.size + 1 + 1 + 1 + 1 + 1 + 1, 0, none⟩) 2 2] 79)).alloc (.cells #[.int .u64 2, .int .i64 57, .int .u64 29, .int .i64 1] 93)).alloc (.cells #[.int .u64 2, .int .i64 56, .int .u64 3, .int .i64 3] 93)).alloc (.cells #[.int .u64 2, .int .i64 55, .int .u64 5, .int .i64 1] 93)).alloc (.cells #[.int .u64 2, .int .i64 24, .int .u64 3, .int .i64 2, .int .u64 5, .int .i64 1] 93)).alloc (.cells #[.int .u64 2, .int .i64 26, .int .u64 7, .int .i64 1] 93)).alloc (.cells #[.int .u64 2, .int .i64 25, .int .u64 5, .int .i64 1] 93) = Wf := ⟨_, rfl⟩
  rw [hW] at h
  obtain ⟨e0, e1, e2, e3, e4, e5, e6, e7⟩ := h
  have HE : Hid (∀ j u, #[.int .u64 4179340454199820289, .int .u64 3, .slice (some ⟨w.heap.size + 1, 0, none⟩) 2 2, .int .u64 1945555039024054273, .int .u64 5, .slice (some ⟨w.heap.size + 1 + 1, 0, none⟩) 2 2, .int .u64 180143985094819841, .int .u64 6, .slice (some ⟨w.heap.size + 1 + 1 + 1, 0, none⟩) 2 2, .int .u64 754974721, .int .u64 11, .slice (some ⟨w.heap.size + 1 + 1 + 1 + 1, 0, none⟩) 3 3, .int .u64 469762049, .int .u64 3, .slice (some ⟨w.heap.size + 1 + 1 + 1 + 1 + 1, 0, none⟩) 2 2, .int .u64 167772161, .int .u64 3, .slice (some ⟨w.heap.size + 1 + 1 + 1 + 1 + 1 + 1, 0, none⟩) 2 2][j]? = some u → Wf.cell? ⟨w.heap.size, j, none⟩ = some u) := e7
  have HW : Hid (((((((w.alloc (.cells #[.int .u64 4179340454199820289, .int .u64 3, .slice (some ⟨w.heap.size + 1, 0, none⟩) 2 2, .int .u64 1945555039024054273, .int .u64 5, .slice (some ⟨w.heap.size + 1 + 1, 0, none⟩) 2 2, .int .u64 180143985094819841, .int .u64 6, .slice (some ⟨w.heap.size + 1 + 1 + 1, 0, none⟩) 2 2, .int .u64 754974721, .int .u64 11, .slice (some ⟨w.heap.size + 1 + 1 + 1 + 1, 0, none⟩) 3 3, .int .u64 469762049, .int .u64 3, .slice (some ⟨w.heap.size + 1 + 1 + 1 + 1 + 1, 0, none⟩) 2 2, .int .u64 167772161, .int .u64 3, .slice (some ⟨w.heap.size + 1 + 1 + 1 + 1 + 1 + 1, 0, none⟩) 2 2] 79)).alloc (.cells #[.int .u64 2, .int .i64 57, .int .u64 29, .int .i64 1] 93)).alloc (.cells #[.int .u64 2, .int .i64 56, .int .u64 3, .int .i64 3] 93)).alloc (.cells #[.int .u64 2, .int .i64 55, .int .u64 5, .int .i64 1] 93)).alloc (.cells #[.int .u64 2, .int .i64 24, .int .u64 3, .int .i64 2, .int .u64 5, .int .i64 1] 93)).alloc (.cells #[.int .u64 2, .int .i64 26, .int .u64 7, .int .i64 1] 93)).alloc (.cells #[.int .u64 2, .int .i64 25, .int .u64 5, .int .i64 1] 93) = Wf) := hW
  clear e7 hW
  go_enter Tryz.func38, Tryz.ntmps38
  go_wp2
  rw [HW.out]
  exact bodyPost_ret (v := knAgg w.heap.size) (entries_res w Wf _ rfl HE.out) rfl ⟨rfl, e0, e1, e2, e3, e4, e5, e6⟩
end Go.Proofs.YtpjfapibjihbbaaGreatDoor

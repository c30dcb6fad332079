/-
  Rows of ints of one's own, where there is no Order. No condition.
-/
import Derived.Test.YtpjfapibjihbbaaF1
namespace Go.Proofs.Ytpjfapibjihbbaa
set_option linter.unusedVariables false
open Go.RowKit

theorem infoZ : (Try.prog.info? 3).map (fun i => (i.zero, i.size, i.bytes)) = some (some (.int .i64 0), 1, 8) := by kernel_rfl
def zcells (zs : List Int) : List Value := zs.map fun z => .int .i64 z
theorem zcells_at {zs : List Int} {j : Nat} {u : Value} (h : (zcells zs)[j]? = some u) : ∃ z, zs[j]? = some z ∧ u = .int .i64 z := by
  unfold zcells at h
  rw [List.getElem?_map] at h
  cases hz : zs[j]? with
  | none => rw [hz] at h; cases h
  | some z => rw [hz] at h; cases h; exact ⟨z, rfl, rfl⟩
theorem zcells_snoc (zs : List Int) (z : Int) : zcells (zs ++ [z]) = zcells zs ++ [.int .i64 z] := by simp [zcells]
/-- A row of the call's own read as a row of ints. -/
theorem own_ints {w : World} {base : Nat} {v : Value} {zs : List Int} (h : w.ownsRow base 3 1 v zs.length (zcells zs)) (hok : ∀ z ∈ zs, I64 z) : ∃ A C, v = .slice A zs.length C ∧ ZAt w A C zs := by
  have h' := h
  rcases h.2 with ⟨rfl, hn⟩ | ⟨g, cap, cur, rfl, hb, hg, hc, hm, _⟩
  · refine ⟨none, 0, by rw [hn], by omega, by unfold maxLen; omega, fun i f hf => ?_⟩
    have := (List.getElem?_eq_some_iff.1 hf).1; omega
  · refine ⟨_, _, rfl, hc, hm, fun i z hz => ?_⟩
    have ca := h'.cells (g := g) rfl i (.int .i64 z) (by unfold zcells; rw [List.getElem?_map, hz]; rfl)
    refine ⟨g, 0, rfl, (Array.getElem?_eq_some_iff.1 hg).1, ?_, hok z (List.mem_of_getElem? hz)⟩
    rw [Nat.zero_add]; rw [Addr.add_lit] at ca; simpa using ca
/-- A call that answers a new row of ints. -/
def NewRow (W : World) (f : FuncId) (args : Array Value) (l : List Int) : Prop := ∀ w, Below W.heap.size W w → Calls Try.prog f args w fun e w' => ∃ A1 C1, e = .returned (.slice A1 l.length C1) ∧ ZAt w' A1 C1 l ∧ Below w.heap.size w w'
theorem NewRow.use {W : World} {f : FuncId} {args : Array Value} {l : List Int} (h : NewRow W f args l) {w : World} (hw : Below W.heap.size W w) {R : Ending → World → Prop} (k : ∀ A1 C1 w', ZAt w' A1 C1 l → Below w.heap.size w w' → R (.returned (.slice A1 l.length C1)) w') : Calls Try.prog f args w R :=
  (h w hw).mono fun _ _ ⟨A', C', he, h1, h2⟩ => by subst he; exact k _ _ _ h1 h2
theorem i64_small {x : Nat} (h : x ≤ 16777216) : I64 (x : Int) := by unfold I64; omega
end Go.Proofs.Ytpjfapibjihbbaa

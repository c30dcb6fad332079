/-
  A row of bits loaded inside a region that leaves its order open.
-/
import Derived.Test.YtlgadaojekcjeaaDoorReg
import Derived.Test.YtlgadaojekcjeaaDoorBv
namespace Go.Proofs.YtlgadaojekcjeaaDoor
open Go.RowKit Go.Sort

theorem blk_regrown {w : World} {b : Nat} {f : Nat → Bool} (h : Blk w b f) : ∀ w', (∃ p : Regrown, w' = grow (redrawn w p.d) p.os) → Blk w' b f := by
  rintro _ ⟨p, rfl⟩
  exact h.below (below_regrown w p.d p.os) h.lt

theorem wpQuiet_bits {ops : Array Oper} {C : World → Prop} {Q : Act → Prop} {a : Act} {o : Oper} {rest : List Oper} {g : Nat} {f : Nat → Bool} (x : Operand) (hg : o.guard = none) (ho : o.op = .load 27 x) (hx : a.eval x = .pointer (some ⟨g, 0, none⟩))
    (hC : ∀ w', C w' → Blk w' g f) (h : wpQuiet Tryd.prog ops C Q rest (a.put o.dst (.agg (bv f)))) : wpQuiet Tryd.prog ops C Q (o :: rest) a := by
  refine BigFrame.wpQuiet_want (by simp [Region.wanted, hg]) fun K hK => ⟨.agg (bv f), fun w' hw' => ?_, hK _ h⟩
  unfold Oper.quietAt execOp
  simp only [ho, hx, Instr.loadAt, Instr.sureAddr, Sem.run_bind, Sem.run_pure, Result.andThen_ok, run_loadVar_row w' g 27 27 (bv f) (0, 0) _ (hC w' hw') Tryd.underlying27 rfl (info27 f)]
  exact ⟨rfl, rfl⟩

/-- The same where a guard says yes. -/
theorem wpQuiet_bitsG {ops : Array Oper} {C : World → Prop} {Q : Act → Prop} {a : Act} {o : Oper} {rest : List Oper} {g : Nat} {f : Nat → Bool} (x : Operand) (hg : Region.wanted o (yielded ops a.tmps) = true) (ho : o.op = .load 27 x) (hx : a.eval x = .pointer (some ⟨g, 0, none⟩))
    (hC : ∀ w', C w' → Blk w' g f) (h : wpQuiet Tryd.prog ops C Q rest (a.put o.dst (.agg (bv f)))) : wpQuiet Tryd.prog ops C Q (o :: rest) a := by
  refine BigFrame.wpQuiet_want hg fun K hK => ⟨.agg (bv f), fun w' hw' => ?_, hK _ h⟩
  unfold Oper.quietAt execOp
  simp only [ho, hx, Instr.loadAt, Instr.sureAddr, Sem.run_bind, Sem.run_pure, Result.andThen_ok, run_loadVar_row w' g 27 27 (bv f) (0, 0) _ (hC w' hw') Tryd.underlying27 rfl (info27 f)]
  exact ⟨rfl, rfl⟩
end Go.Proofs.YtlgadaojekcjeaaDoor

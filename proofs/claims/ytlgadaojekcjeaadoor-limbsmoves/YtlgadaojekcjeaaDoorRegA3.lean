/-
  What else a region that makes variables meets: three words laid, a move.
-/
import Derived.Test.YtlgadaojekcjeaaDoorRegA2
namespace Go.Proofs.YtlgadaojekcjeaaDoor
open Go.RowKit Go.Sort

theorem lay24 (ev : Operand → Value) (o : Oper) (ho : o.op = .alloc 24) (w : World) : (execOp ev o).run Tryd.prog w = .ok (.value (ptr w.heap.size)) (w.alloc (.cells #[.int .u64 0, .int .u64 0, .int .u64 0] 24)) := by
  unfold execOp
  simp only [ho]
  simp [go_sem]
  rfl
theorem firm_move {a : Act} {o : Oper} {w0 : World} {v : Value} (x : Operand) (ho : o.op = .move x) (hx : a.eval x = v) : ∀ p, o.quietAt Tryd.prog a (Cl (at_ w0 p)) (at_ w0 p) v := by
  intro p
  unfold Oper.quietAt
  rw [BigFrame.run_move x ho, hx]
  exact ⟨rfl, rfl⟩

theorem call26 (args : Array Value) (w : World) : (callFunc 26 args).run Tryd.prog w = .ok (.enter 26 args) w := by simp [go_sem]
theorem call27 (args : Array Value) (w : World) : (callFunc 27 args).run Tryd.prog w = .ok (.enter 27 args) w := by simp [go_sem]
theorem index27 (f : Nat → Bool) (j : Nat) (h : j < 256) (w : World) : (Instr.index 27 (.agg (bv f)) (.int .i64 j)).run Tryd.prog w = .ok (.bool (f j)) w := by
  have h1 : (j : Int) < 256 := by omega
  have e := bv_get f j h
  have es := bv_size f
  simp [Instr.index, run_underlying Tryd.underlying27, asIntOf, go_sem, e]
  intro h2
  omega
end Go.Proofs.YtlgadaojekcjeaaDoor

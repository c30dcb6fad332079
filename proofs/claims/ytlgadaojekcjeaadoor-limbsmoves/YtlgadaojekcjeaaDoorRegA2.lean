/-
  What a region that makes variables meets: three words loaded, a call, 256 bits laid.
-/
import Derived.Test.YtlgadaojekcjeaaDoorRegA
namespace Go.Proofs.YtlgadaojekcjeaaDoor
open Go.RowKit Go.Sort

theorem lay27 (ev : Operand → Value) (o : Oper) (ho : o.op = .alloc 27) (w : World) : (execOp ev o).run Tryd.prog w = .ok (.value (ptr w.heap.size)) (w.alloc (.cells (bv fun _ => false) 27)) := by
  rw [← zero_bv]
  unfold execOp
  simp only [ho]
  simp [go_sem]
  rfl

theorem firm_load {a : Act} {o : Oper} {w0 : World} {g t : Nat} {cs : Array Value} (x : Operand) (ho : o.op = .load t x) (hx : a.eval x = ptr g) (h : w0.heap[g]? = some (.cells cs t (0, 0)))
    (hl : ∀ w : World, w.heap[g]? = some (.cells cs t (0, 0)) → (loadVar t ⟨g, 0, none⟩).run Tryd.prog w = .ok (.agg cs) w) :
    ∀ p, o.quietAt Tryd.prog a (Cl (at_ w0 p)) (at_ w0 p) (.agg cs) := by
  intro p
  have hlt : g < w0.heap.size := (Array.getElem?_eq_some_iff.1 h).1
  have hh : (at_ w0 p).heap[g]? = some (.cells cs t (0, 0)) := ((cl_at w0 p).block g hlt).trans h
  unfold Oper.quietAt execOp
  simp only [ho, hx, ptr, Instr.loadAt, Instr.sureAddr, Sem.run_bind, Sem.run_pure, Result.andThen_ok, hl _ hh]
  exact ⟨rfl, rfl⟩

theorem firm_call {a : Act} {o : Oper} {w0 : World} {f : Nat} {args : Array Value} {v : Value} (hrun : ∀ w, (execOp a.eval o).run Tryd.prog w = .ok (.enter f args) w)
    (hv : ∀ w, Calls Tryd.prog f args w fun e w' => e = .returned v ∧ Below w.heap.size w w') : ∀ p, o.quietAt Tryd.prog a (Cl (at_ w0 p)) (at_ w0 p) v := by
  intro p
  unfold Oper.quietAt
  rw [hrun]
  exact ⟨rfl, hv _⟩
theorem run_call1 {a : Act} {o : Oper} {f : Nat} {x : Operand} {u : Value} {ts : Array TypeId} (hf : ∀ args w, (callFunc f args).run Tryd.prog w = .ok (.enter f args) w)
    (ho : o.op = .call { callee := .value (.func f), args := #[x], argTypes := ts }) (hx : a.eval x = u) (w : World) : (execOp a.eval o).run Tryd.prog w = .ok (.enter f #[u]) w := by
  unfold execOp
  simp only [ho]
  simp [go_sem, resolve, hf]
  rw [← hx]
  cases x <;> simp [Act.eval]
theorem run_call2 {a : Act} {o : Oper} {f : Nat} {x y : Operand} {u v : Value} {ts : Array TypeId} (hf : ∀ args w, (callFunc f args).run Tryd.prog w = .ok (.enter f args) w)
    (ho : o.op = .call { callee := .value (.func f), args := #[x, y], argTypes := ts }) (hx : a.eval x = u) (hy : a.eval y = v) (w : World) :
    (execOp a.eval o).run Tryd.prog w = .ok (.enter f #[u, v]) w := by
  unfold execOp
  simp only [ho]
  simp [go_sem, resolve, hf]
  rw [← hx, ← hy]
  constructor
  · cases x <;> simp [Act.eval]
  · cases y <;> simp [Act.eval]
theorem call11 (args : Array Value) (w : World) : (callFunc 11 args).run Tryd.prog w = .ok (.enter 11 args) w := by simp [go_sem]
theorem info24 (x y z : Value) : (Tryd.prog.info? 24).map (·.size) = some (#[x, y, z] : Array Value).size := by kernel_rfl
end Go.Proofs.YtlgadaojekcjeaaDoor

/-
  append of words to a new row, not opened, the length a letter. No condition but that the row lies there.
-/
import Derived.Test.YtpjfapibjihbbaaGreatDoorF28
namespace Go.Proofs.YtpjfapibjihbbaaGreatDoor
set_option linter.unusedVariables false
open Go.RowKit

theorem wp_copy' {W w : World} {ops : Array Oper} {rest : List Oper} {o : Oper} {a : Act} {Q : Exit → Act → World → Prop} {A : Option Addr} {C n : Nat} {xs : List Nat}
    (hU : UAt W A C xs) (hl : xs.length = n) (hw : Below W.heap.size W w) (hfs : n * 8 ≤ 140737488355328) (hgd : o.guard = none) (s x : Operand)
    (ho : o.op = .call { callee := .builtin .append, args := #[s, x], argTypes := #[26, 26] })
    (hs : a.eval s = .slice (some ⟨w.heap.size, 0, none⟩) 0 0) (hx : a.eval x = .slice A n C)
    (k : ∀ A' C' w2, UAt w2 A' C' xs → Below w.heap.size w w2 → wpList Tryz.prog ops Q rest (a.put o.dst (.slice A' n C')) w2) :
    wpList Tryz.prog ops Q (o :: rest) a (w.alloc (.cells #[] 22)) := by
  subst hl
  exact wp_copy hU hw hfs hgd s x ho hs hx fun A' C' w2 h1 h2 => k A' C' w2 (h1.words hU.small) h2
end Go.Proofs.YtpjfapibjihbbaaGreatDoor

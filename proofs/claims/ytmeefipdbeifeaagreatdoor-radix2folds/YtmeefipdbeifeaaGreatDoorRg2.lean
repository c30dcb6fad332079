/-
  A region that leaves its order open, whose first operations read and call what only draws, and whose last ones follow one upon another (stores): one walk serves every order.
-/
import Derived.Test.YtmeefipdbeifeaaGreatDoorRg
namespace Go.Proofs.YtmeefipdbeifeaaGreatDoor
open Go.RowKit Go.Sort

/-- THE LAW: the first n operations read and call (the callees only draw); the others follow one upon another, in whatever world those leave. -/
theorem wp_region_tail_lit {P : Program} {id : Nat} {Q : Exit → Act → World → Prop} {a : Act} {w : World} {l : List Oper} (n : Nat) (hm : P.follows .mixedOrders = true) (hB : Region.lexTailB .any l.toArray n = true)
    (h : wpQuiet P l.toArray (fun w' => ∃ x : Nat, w' = w.drewN x) (fun a' => ∀ w', (∃ x : Nat, w' = w.drewN x) → wpList P l.toArray Q (l.drop n) a' w') (l.take n) a) : (Code.region id l.toArray true).wp P Q a w := by
  simp only [Region.lexTailB, Bool.and_eq_true, decide_eq_true_eq] at hB
  obtain ⟨⟨⟨⟨hsel, hn⟩, hs⟩, hc⟩, hlex⟩ := hB
  have hn' : n < l.length := by simpa using hn
  have tl : (l.take n).length = n := by simp; omega
  have dl : (l.drop n).length = l.toArray.size - n := by simp
  have inv0 : HeadInv .any l.toArray n (Array.replicate l.toArray.size false) :=
    ⟨by simp, fun j oj _ hl => (by rw [getD_replicate_false] at hl; cases hl), fun t _ ht => getD_in (by simpa using ht) (getD_replicate_false _ _)⟩
  have H := headQ_lex (C := fun w' => ∃ x : Nat, w' = w.drewN x) (md := .any) (g := l.toArray.size - n) hsel hs hc hn (l.take n) 0 _ a (fun j hj => by
    have hj' : j < n := by rw [tl] at hj; exact hj
    simp [hj']) (by simpa using tl) inv0 (by rw [tl]; exact hlex) h
  have K := any_of_headQ (Q := Q) (g := l.toArray.size - n) (fun s a' w' hw' hL => by
    have := wpAny_of_seq (md := .any) (Q' := Q) (l.drop n) n s a' w' (fun j => by simp [List.getElem?_drop]) (by rw [dl]; exact hL.1) (hL.2 w' hw')
    rwa [dl] at this) _ _ _ { w with drawn := w.drawn + 1 } ⟨1, rfl⟩ H
  rw [tl, show n + (l.toArray.size - n) = l.toArray.size by omega] at K
  exact wp_region_any hm K

end Go.Proofs.YtmeefipdbeifeaaGreatDoor

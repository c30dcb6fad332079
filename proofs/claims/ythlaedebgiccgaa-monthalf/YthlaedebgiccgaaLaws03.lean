/-
  The walks of layer 3's statements: each returns true, of all words.
-/
import Derived.Test.YthlaedebgiccgaaMont4
namespace Go.Proofs.Ythlaedebgiccgaa
set_option linter.unusedVariables false
open Go.RowKit

/-- What is asked first: it answers true; nothing old has turned. -/
def AliveAns : Prop := ∀ w, Calls Try.prog 8 #[] w fun e w' => e = .returned (.bool true) ∧ Grown w w'
theorem AliveAns.use (h : AliveAns) (w : World) {R : Ending → World → Prop} (k : ∀ W, Grown w W → R (.returned (.bool true)) W) : Calls Try.prog 8 #[] w R :=
  (h w).mono fun _ _ ⟨he, hg⟩ => by subst he; exact k _ hg
set_option maxHeartbeats 2000000 in
theorem alive_walk (m : Nat) (HN : NewAns 7 m)
    (H0 : ∀ (W : World) (bk gk : Nat), Ctx W bk m gk → AnsW W 12 #[.pointer (some ⟨bk, 0, none⟩)] (.int .u64 2))
    (H1 : ∀ (W : World) (bk gk : Nat), Ctx W bk m gk → AnsW W 14 #[.pointer (some ⟨bk, 0, none⟩), .int .u64 3] (.int .u64 6))
    (H2 : ∀ (W : World) (bk gk : Nat), Ctx W bk m gk → AnsW W 13 #[.pointer (some ⟨bk, 0, none⟩), .int .u64 6, .int .u64 6] (.int .u64 4))
    (H3 : ∀ (W : World) (bk gk : Nat), Ctx W bk m gk → AnsW W 15 #[.pointer (some ⟨bk, 0, none⟩), .int .u64 4] (.int .u64 2))
    : AliveAns := by
  intro w
  go_enter Try.func8, Try.ntmps8
  go_wp2_with (first | (go_at_call 9; with_reducible refine NewAns.use HN _ fun bk gk W C GR => ?_) | (go_at_call 12; first | (with_reducible refine AnsW.use (H0 _ _ _ C) _ fun n0 => ?_) | (with_reducible refine AnsW.use0 (H0 _ _ _ C) fun n0 => ?_)) | (go_at_call 14; first | (with_reducible refine AnsW.use (H1 _ _ _ C) _ fun n1 => ?_) | (with_reducible refine AnsW.use0 (H1 _ _ _ C) fun n1 => ?_)) | (go_at_call 13; first | (with_reducible refine AnsW.use (H2 _ _ _ C) _ fun n2 => ?_) | (with_reducible refine AnsW.use0 (H2 _ _ _ C) fun n2 => ?_)) | (go_at_call 15; first | (with_reducible refine AnsW.use (H3 _ _ _ C) _ fun n3 => ?_) | (with_reducible refine AnsW.use0 (H3 _ _ _ C) fun n3 => ?_)))
  go_ret
  exact ⟨rfl, GR _ (Grown.refl w)⟩
theorem up_one (m : Nat) : up 1 m = 18446744073709551616 % m := by unfold up; rw [Nat.one_mul]
theorem alive_any : AliveAns :=
  alive_walk 7 (new_any 7 ⟨by decide, by decide, by decide⟩)
    (fun W b g C => ansW_int (one_walk W b _ C.c2) (by decide))
    (fun W b g C => ansW_int (in_any C 3 (by decide)) (by decide))
    (fun W b g C => ansW_int (mmul_any C 6 6 (by decide) (by decide)) (by decide))
    (fun W b g C => ansW_int (out_any C 4 (by decide)) (by decide))

set_option maxRecDepth 100000 in
set_option maxHeartbeats 2000000 in
theorem returns1 (m : Nat) (a r o v one : Int) (m0 : 0 < (m : Int)) (m1 : (m : Int) < 18446744073709551616) (a0 : 0 ≤ a) (a1 : a < 18446744073709551616) (hr : a % (m : Int) = r) (hm : ((m : Int) == 0) = false)
    (HA : AliveAns) (HN : NewAns m m)
    (H0 : Ans 10 #[.int .u64 m] (.bool true))
    (H1 : ∀ (W : World) (bk gk : Nat), Ctx W bk m gk → AnsW W 14 #[.pointer (some ⟨bk, 0, none⟩), .int .u64 a] (.int .u64 v))
    (H2 : ∀ (W : World) (bk gk : Nat), Ctx W bk m gk → AnsW W 15 #[.pointer (some ⟨bk, 0, none⟩), .int .u64 v] (.int .u64 r))
    (H3 : ∀ (W : World) (bk gk : Nat), Ctx W bk m gk → AnsW W 15 #[.pointer (some ⟨bk, 0, none⟩), .int .u64 a] (.int .u64 o))
    (H4 : ∀ (W : World) (bk gk : Nat), Ctx W bk m gk → AnsW W 14 #[.pointer (some ⟨bk, 0, none⟩), .int .u64 o] (.int .u64 r))
    (H5 : ∀ (W : World) (bk gk : Nat), Ctx W bk m gk → AnsW W 12 #[.pointer (some ⟨bk, 0, none⟩)] (.int .u64 one))
    (H6 : ∀ (W : World) (bk gk : Nat), Ctx W bk m gk → AnsW W 15 #[.pointer (some ⟨bk, 0, none⟩), .int .u64 one] (.int .u64 1))
    (w : World) : Calls Try.prog 4 #[.int .u64 m, .int .u64 a] w fun e w' => e = .returned (.bool true) ∧ Grown w w' := by
  go_enter Try.func4, Try.ntmps4
  go_wp2_with (first | (go_at_call 8; with_reducible refine AliveAns.use HA _ fun w1 GA => ?_) | (go_at_call 9; with_reducible refine NewAns.use HN _ fun bk gk W C GR => ?_) | (go_at_call 10; with_reducible refine Ans.use H0 _ fun n0 => ?_) | (go_at_call 14; first | (with_reducible refine AnsW.use (H1 _ _ _ C) _ fun n1 => ?_) | (with_reducible refine AnsW.use0 (H1 _ _ _ C) fun n1 => ?_)) | (go_at_call 15; first | (with_reducible refine AnsW.use (H2 _ _ _ C) _ fun n2 => ?_) | (with_reducible refine AnsW.use0 (H2 _ _ _ C) fun n2 => ?_)) | (go_at_call 15; first | (with_reducible refine AnsW.use (H3 _ _ _ C) _ fun n3 => ?_) | (with_reducible refine AnsW.use0 (H3 _ _ _ C) fun n3 => ?_)) | (go_at_call 14; first | (with_reducible refine AnsW.use (H4 _ _ _ C) _ fun n4 => ?_) | (with_reducible refine AnsW.use0 (H4 _ _ _ C) fun n4 => ?_)) | (go_at_call 12; first | (with_reducible refine AnsW.use (H5 _ _ _ C) _ fun n5 => ?_) | (with_reducible refine AnsW.use0 (H5 _ _ _ C) fun n5 => ?_)) | (go_at_call 15; first | (with_reducible refine AnsW.use (H6 _ _ _ C) _ fun n6 => ?_) | (with_reducible refine AnsW.use0 (H6 _ _ _ C) fun n6 => ?_)))
  try dsimp only [List.append]
  go_quiet ((first | (go_at_call 10; with_reducible exact Ans.quiet H0) | (go_at_call 14; with_reducible exact AnsW.quiet (H1 _ _ _ C)) | (go_at_call 15; with_reducible exact AnsW.quiet (H2 _ _ _ C)) | (go_at_call 15; with_reducible exact AnsW.quiet (H3 _ _ _ C)) | (go_at_call 14; with_reducible exact AnsW.quiet (H4 _ _ _ C)) | (go_at_call 12; with_reducible exact AnsW.quiet (H5 _ _ _ C)) | (go_at_call 15; with_reducible exact AnsW.quiet (H6 _ _ _ C))))
  go_wp2_with (first | (go_at_call 8; with_reducible refine AliveAns.use HA _ fun w1 GA => ?_) | (go_at_call 9; with_reducible refine NewAns.use HN _ fun bk gk W C GR => ?_) | (go_at_call 10; with_reducible refine Ans.use H0 _ fun n0 => ?_) | (go_at_call 14; first | (with_reducible refine AnsW.use (H1 _ _ _ C) _ fun n1 => ?_) | (with_reducible refine AnsW.use0 (H1 _ _ _ C) fun n1 => ?_)) | (go_at_call 15; first | (with_reducible refine AnsW.use (H2 _ _ _ C) _ fun n2 => ?_) | (with_reducible refine AnsW.use0 (H2 _ _ _ C) fun n2 => ?_)) | (go_at_call 15; first | (with_reducible refine AnsW.use (H3 _ _ _ C) _ fun n3 => ?_) | (with_reducible refine AnsW.use0 (H3 _ _ _ C) fun n3 => ?_)) | (go_at_call 14; first | (with_reducible refine AnsW.use (H4 _ _ _ C) _ fun n4 => ?_) | (with_reducible refine AnsW.use0 (H4 _ _ _ C) fun n4 => ?_)) | (go_at_call 12; first | (with_reducible refine AnsW.use (H5 _ _ _ C) _ fun n5 => ?_) | (with_reducible refine AnsW.use0 (H5 _ _ _ C) fun n5 => ?_)) | (go_at_call 15; first | (with_reducible refine AnsW.use (H6 _ _ _ C) _ fun n6 => ?_) | (with_reducible refine AnsW.use0 (H6 _ _ _ C) fun n6 => ?_)))
  go_ret
  exact ⟨rfl, GR _ GA⟩
set_option maxRecDepth 100000 in
set_option maxHeartbeats 2000000 in
theorem returns0 (m a : Int) 
    (HA : AliveAns)
    (H0 : Ans 10 #[.int .u64 m] (.bool false))
    (H1 : Ans 9 #[.int .u64 m] (.tuple #[.pointer none, .int .i64 1]))
    (w : World) : Calls Try.prog 4 #[.int .u64 m, .int .u64 a] w fun e w' => e = .returned (.bool true) ∧ Grown w w' := by
  go_enter Try.func4, Try.ntmps4
  go_wp2_with (first | (go_at_call 8; with_reducible refine AliveAns.use HA _ fun w1 GA => ?_) | (go_at_call 10; with_reducible refine Ans.use H0 _ fun n0 => ?_) | (go_at_call 9; with_reducible refine Ans.use H1 _ fun n1 => ?_))
  go_ret
  exact ⟨rfl, GA⟩
set_option maxRecDepth 100000 in
set_option maxHeartbeats 2000000 in
theorem stands0 (m x y : Int) 
    (HA : AliveAns)
    (H0 : Ans 10 #[.int .u64 m] (.bool false))
    (H1 : Ans 9 #[.int .u64 m] (.tuple #[.pointer none, .int .i64 1]))
    (H2 : Ans 11 #[.pointer none] (.int .u64 0))
    (H3 : Ans 12 #[.pointer none] (.int .u64 0))
    (H4 : Ans 13 #[.pointer none, .int .u64 x, .int .u64 y] (.int .u64 0))
    (H5 : Ans 14 #[.pointer none, .int .u64 x] (.int .u64 0))
    (H6 : Ans 15 #[.pointer none, .int .u64 x] (.int .u64 0))
    (H7 : Ans 16 #[.pointer none, .int .u64 x, .int .u64 y] (.int .u64 0))
    (H8 : Ans 17 #[.pointer none, .int .u64 x, .int .u64 y] (.int .u64 0))
    (H9 : Ans 18 #[.pointer none, .int .u64 x] (.int .u64 0))
    (H10 : Ans 19 #[.pointer none, .int .u64 x, .int .u64 y] (.int .u64 0))
    (w : World) : Calls Try.prog 3 #[.int .u64 m, .int .u64 x, .int .u64 y] w fun e w' => e = .returned (.bool true) ∧ Grown w w' := by
  go_enter Try.func3, Try.ntmps3
  go_wp2_with (first | (go_at_call 8; with_reducible refine AliveAns.use HA _ fun w1 GA => ?_) | (go_at_call 10; with_reducible refine Ans.use H0 _ fun n0 => ?_) | (go_at_call 9; with_reducible refine Ans.use H1 _ fun n1 => ?_) | (go_at_call 11; with_reducible refine Ans.use H2 _ fun n2 => ?_) | (go_at_call 12; with_reducible refine Ans.use H3 _ fun n3 => ?_) | (go_at_call 13; with_reducible refine Ans.use H4 _ fun n4 => ?_) | (go_at_call 14; with_reducible refine Ans.use H5 _ fun n5 => ?_) | (go_at_call 15; with_reducible refine Ans.use H6 _ fun n6 => ?_) | (go_at_call 16; with_reducible refine Ans.use H7 _ fun n7 => ?_) | (go_at_call 17; with_reducible refine Ans.use H8 _ fun n8 => ?_) | (go_at_call 18; with_reducible refine Ans.use H9 _ fun n9 => ?_) | (go_at_call 19; with_reducible refine Ans.use H10 _ fun n10 => ?_))
  go_ret
  exact ⟨rfl, GA⟩
set_option maxRecDepth 100000 in
set_option maxHeartbeats 2000000 in
theorem stands1 (m : Nat) (x y o v d k p q : Int) (m0 : 0 < (m : Int)) (m1 : (m : Int) < 18446744073709551616) (hm : ((m : Int) == 0) = false) (x0 : 0 ≤ x) (x1 : x < 18446744073709551616) (hk : x % (m : Int) = k)
    (HA : AliveAns) (HN : NewAns m m)
    (H0 : Ans 10 #[.int .u64 m] (.bool true))
    (H1 : ∀ (W : World) (bk gk : Nat), Ctx W bk m gk → AnsW W 11 #[.pointer (some ⟨bk, 0, none⟩)] (.int .u64 m))
    (H2 : ∀ (W : World) (bk gk : Nat), Ctx W bk m gk → AnsW W 12 #[.pointer (some ⟨bk, 0, none⟩)] (.int .u64 o))
    (H3 : Ans 20 #[.int .u64 1, .int .u64 m] (.int .u64 o))
    (H4 : ∀ (W : World) (bk gk : Nat), Ctx W bk m gk → AnsW W 14 #[.pointer (some ⟨bk, 0, none⟩), .int .u64 x] (.int .u64 v))
    (H5 : Ans 20 #[.int .u64 x, .int .u64 m] (.int .u64 v))
    (H6 : ∀ (W : World) (bk gk : Nat), Ctx W bk m gk → AnsW W 15 #[.pointer (some ⟨bk, 0, none⟩), .int .u64 x] (.int .u64 d))
    (H7 : Ans 21 #[.int .u64 k, .int .u64 m] (.int .u64 d))
    (H8 : ∀ (W : World) (bk gk : Nat), Ctx W bk m gk → AnsW W 13 #[.pointer (some ⟨bk, 0, none⟩), .int .u64 x, .int .u64 y] (.int .u64 p))
    (H9 : Ans 22 #[.int .u64 x, .int .u64 y, .int .u64 m] (.int .u64 q))
    (H10 : Ans 21 #[.int .u64 q, .int .u64 m] (.int .u64 p))
    (w : World) : Calls Try.prog 3 #[.int .u64 m, .int .u64 x, .int .u64 y] w fun e w' => e = .returned (.bool true) ∧ Grown w w' := by
  go_enter Try.func3, Try.ntmps3
  go_wp2_with (first | (go_at_call 8; with_reducible refine AliveAns.use HA _ fun w1 GA => ?_) | (go_at_call 9; with_reducible refine NewAns.use HN _ fun bk gk W C GR => ?_) | (go_at_call 10; with_reducible refine Ans.use H0 _ fun n0 => ?_) | (go_at_call 11; first | (with_reducible refine AnsW.use (H1 _ _ _ C) _ fun n1 => ?_) | (with_reducible refine AnsW.use0 (H1 _ _ _ C) fun n1 => ?_)) | (go_at_call 12; first | (with_reducible refine AnsW.use (H2 _ _ _ C) _ fun n2 => ?_) | (with_reducible refine AnsW.use0 (H2 _ _ _ C) fun n2 => ?_)) | (go_at_call 20; with_reducible refine Ans.use H3 _ fun n3 => ?_) | (go_at_call 14; first | (with_reducible refine AnsW.use (H4 _ _ _ C) _ fun n4 => ?_) | (with_reducible refine AnsW.use0 (H4 _ _ _ C) fun n4 => ?_)) | (go_at_call 20; with_reducible refine Ans.use H5 _ fun n5 => ?_) | (go_at_call 15; first | (with_reducible refine AnsW.use (H6 _ _ _ C) _ fun n6 => ?_) | (with_reducible refine AnsW.use0 (H6 _ _ _ C) fun n6 => ?_)) | (go_at_call 21; with_reducible refine Ans.use H7 _ fun n7 => ?_) | (go_at_call 13; first | (with_reducible refine AnsW.use (H8 _ _ _ C) _ fun n8 => ?_) | (with_reducible refine AnsW.use0 (H8 _ _ _ C) fun n8 => ?_)) | (go_at_call 22; with_reducible refine Ans.use H9 _ fun n9 => ?_) | (go_at_call 21; with_reducible refine Ans.use H10 _ fun n10 => ?_))
  try dsimp only [List.append]
  go_quiet ((first | (go_at_call 10; with_reducible exact Ans.quiet H0) | (go_at_call 11; with_reducible exact AnsW.quiet (H1 _ _ _ C)) | (go_at_call 12; with_reducible exact AnsW.quiet (H2 _ _ _ C)) | (go_at_call 20; with_reducible exact Ans.quiet H3) | (go_at_call 14; with_reducible exact AnsW.quiet (H4 _ _ _ C)) | (go_at_call 20; with_reducible exact Ans.quiet H5) | (go_at_call 15; with_reducible exact AnsW.quiet (H6 _ _ _ C)) | (go_at_call 21; with_reducible exact Ans.quiet H7) | (go_at_call 13; with_reducible exact AnsW.quiet (H8 _ _ _ C)) | (go_at_call 22; with_reducible exact Ans.quiet H9) | (go_at_call 21; with_reducible exact Ans.quiet H10)))
  go_wp2_with (first | (go_at_call 8; with_reducible refine AliveAns.use HA _ fun w1 GA => ?_) | (go_at_call 9; with_reducible refine NewAns.use HN _ fun bk gk W C GR => ?_) | (go_at_call 10; with_reducible refine Ans.use H0 _ fun n0 => ?_) | (go_at_call 11; first | (with_reducible refine AnsW.use (H1 _ _ _ C) _ fun n1 => ?_) | (with_reducible refine AnsW.use0 (H1 _ _ _ C) fun n1 => ?_)) | (go_at_call 12; first | (with_reducible refine AnsW.use (H2 _ _ _ C) _ fun n2 => ?_) | (with_reducible refine AnsW.use0 (H2 _ _ _ C) fun n2 => ?_)) | (go_at_call 20; with_reducible refine Ans.use H3 _ fun n3 => ?_) | (go_at_call 14; first | (with_reducible refine AnsW.use (H4 _ _ _ C) _ fun n4 => ?_) | (with_reducible refine AnsW.use0 (H4 _ _ _ C) fun n4 => ?_)) | (go_at_call 20; with_reducible refine Ans.use H5 _ fun n5 => ?_) | (go_at_call 15; first | (with_reducible refine AnsW.use (H6 _ _ _ C) _ fun n6 => ?_) | (with_reducible refine AnsW.use0 (H6 _ _ _ C) fun n6 => ?_)) | (go_at_call 21; with_reducible refine Ans.use H7 _ fun n7 => ?_) | (go_at_call 13; first | (with_reducible refine AnsW.use (H8 _ _ _ C) _ fun n8 => ?_) | (with_reducible refine AnsW.use0 (H8 _ _ _ C) fun n8 => ?_)) | (go_at_call 22; with_reducible refine Ans.use H9 _ fun n9 => ?_) | (go_at_call 21; with_reducible refine Ans.use H10 _ fun n10 => ?_))
  go_ret
  exact ⟨rfl, GR _ GA⟩
set_option maxRecDepth 100000 in
set_option maxHeartbeats 2000000 in
theorem does0 (m a b e : Int) 
    (HA : AliveAns)
    (H0 : Ans 10 #[.int .u64 m] (.bool false))
    (H1 : Ans 9 #[.int .u64 m] (.tuple #[.pointer none, .int .i64 1]))
    (w : World) : Calls Try.prog 5 #[.int .u64 m, .int .u64 a, .int .u64 b, .int .u64 e] w fun e w' => e = .returned (.bool true) ∧ Grown w w' := by
  go_enter Try.func5, Try.ntmps5
  go_wp2_with (first | (go_at_call 8; with_reducible refine AliveAns.use HA _ fun w1 GA => ?_) | (go_at_call 10; with_reducible refine Ans.use H0 _ fun n0 => ?_) | (go_at_call 9; with_reducible refine Ans.use H1 _ fun n1 => ?_))
  go_ret
  exact ⟨rfl, GA⟩
set_option maxRecDepth 100000 in
set_option maxHeartbeats 2000000 in
theorem does1 (m : Nat) (a b e x y p rp s rs d rd nb n rn t rt : Int) (m0 : 0 < (m : Int)) (m1 : (m : Int) < 18446744073709551616) (hm : ((m : Int) == 0) = false) 
    (HA : AliveAns) (HN : NewAns m m)
    (H0 : Ans 10 #[.int .u64 m] (.bool true))
    (H1 : ∀ (W : World) (bk gk : Nat), Ctx W bk m gk → AnsW W 14 #[.pointer (some ⟨bk, 0, none⟩), .int .u64 a] (.int .u64 x))
    (H2 : ∀ (W : World) (bk gk : Nat), Ctx W bk m gk → AnsW W 14 #[.pointer (some ⟨bk, 0, none⟩), .int .u64 b] (.int .u64 y))
    (H3 : ∀ (W : World) (bk gk : Nat), Ctx W bk m gk → AnsW W 13 #[.pointer (some ⟨bk, 0, none⟩), .int .u64 x, .int .u64 y] (.int .u64 p))
    (H4 : ∀ (W : World) (bk gk : Nat), Ctx W bk m gk → AnsW W 15 #[.pointer (some ⟨bk, 0, none⟩), .int .u64 p] (.int .u64 rp))
    (H5 : Ans 22 #[.int .u64 a, .int .u64 b, .int .u64 m] (.int .u64 rp))
    (H6 : ∀ (W : World) (bk gk : Nat), Ctx W bk m gk → AnsW W 16 #[.pointer (some ⟨bk, 0, none⟩), .int .u64 x, .int .u64 y] (.int .u64 s))
    (H7 : ∀ (W : World) (bk gk : Nat), Ctx W bk m gk → AnsW W 15 #[.pointer (some ⟨bk, 0, none⟩), .int .u64 s] (.int .u64 rs))
    (H8 : Ans 23 #[.int .u64 a, .int .u64 b, .int .u64 m] (.int .u64 rs))
    (H9 : ∀ (W : World) (bk gk : Nat), Ctx W bk m gk → AnsW W 17 #[.pointer (some ⟨bk, 0, none⟩), .int .u64 x, .int .u64 y] (.int .u64 d))
    (H10 : ∀ (W : World) (bk gk : Nat), Ctx W bk m gk → AnsW W 15 #[.pointer (some ⟨bk, 0, none⟩), .int .u64 d] (.int .u64 rd))
    (H11 : Ans 24 #[.int .u64 b, .int .u64 m] (.int .u64 nb))
    (H12 : Ans 23 #[.int .u64 a, .int .u64 nb, .int .u64 m] (.int .u64 rd))
    (H13 : ∀ (W : World) (bk gk : Nat), Ctx W bk m gk → AnsW W 18 #[.pointer (some ⟨bk, 0, none⟩), .int .u64 x] (.int .u64 n))
    (H14 : ∀ (W : World) (bk gk : Nat), Ctx W bk m gk → AnsW W 15 #[.pointer (some ⟨bk, 0, none⟩), .int .u64 n] (.int .u64 rn))
    (H15 : Ans 24 #[.int .u64 a, .int .u64 m] (.int .u64 rn))
    (H16 : ∀ (W : World) (bk gk : Nat), Ctx W bk m gk → AnsW W 19 #[.pointer (some ⟨bk, 0, none⟩), .int .u64 x, .int .u64 e] (.int .u64 t))
    (H17 : ∀ (W : World) (bk gk : Nat), Ctx W bk m gk → AnsW W 15 #[.pointer (some ⟨bk, 0, none⟩), .int .u64 t] (.int .u64 rt))
    (H18 : Ans 25 #[.int .u64 a, .int .u64 e, .int .u64 m] (.int .u64 rt))
    (w : World) : Calls Try.prog 5 #[.int .u64 m, .int .u64 a, .int .u64 b, .int .u64 e] w fun e w' => e = .returned (.bool true) ∧ Grown w w' := by
  go_enter Try.func5, Try.ntmps5
  go_wp2_with (first | (go_at_call 8; with_reducible refine AliveAns.use HA _ fun w1 GA => ?_) | (go_at_call 9; with_reducible refine NewAns.use HN _ fun bk gk W C GR => ?_) | (go_at_call 10; with_reducible refine Ans.use H0 _ fun n0 => ?_) | (go_at_call 14; first | (with_reducible refine AnsW.use (H1 _ _ _ C) _ fun n1 => ?_) | (with_reducible refine AnsW.use0 (H1 _ _ _ C) fun n1 => ?_)) | (go_at_call 14; first | (with_reducible refine AnsW.use (H2 _ _ _ C) _ fun n2 => ?_) | (with_reducible refine AnsW.use0 (H2 _ _ _ C) fun n2 => ?_)) | (go_at_call 13; first | (with_reducible refine AnsW.use (H3 _ _ _ C) _ fun n3 => ?_) | (with_reducible refine AnsW.use0 (H3 _ _ _ C) fun n3 => ?_)) | (go_at_call 15; first | (with_reducible refine AnsW.use (H4 _ _ _ C) _ fun n4 => ?_) | (with_reducible refine AnsW.use0 (H4 _ _ _ C) fun n4 => ?_)) | (go_at_call 22; with_reducible refine Ans.use H5 _ fun n5 => ?_) | (go_at_call 16; first | (with_reducible refine AnsW.use (H6 _ _ _ C) _ fun n6 => ?_) | (with_reducible refine AnsW.use0 (H6 _ _ _ C) fun n6 => ?_)) | (go_at_call 15; first | (with_reducible refine AnsW.use (H7 _ _ _ C) _ fun n7 => ?_) | (with_reducible refine AnsW.use0 (H7 _ _ _ C) fun n7 => ?_)) | (go_at_call 23; with_reducible refine Ans.use H8 _ fun n8 => ?_) | (go_at_call 17; first | (with_reducible refine AnsW.use (H9 _ _ _ C) _ fun n9 => ?_) | (with_reducible refine AnsW.use0 (H9 _ _ _ C) fun n9 => ?_)) | (go_at_call 15; first | (with_reducible refine AnsW.use (H10 _ _ _ C) _ fun n10 => ?_) | (with_reducible refine AnsW.use0 (H10 _ _ _ C) fun n10 => ?_)) | (go_at_call 24; with_reducible refine Ans.use H11 _ fun n11 => ?_) | (go_at_call 23; with_reducible refine Ans.use H12 _ fun n12 => ?_) | (go_at_call 18; first | (with_reducible refine AnsW.use (H13 _ _ _ C) _ fun n13 => ?_) | (with_reducible refine AnsW.use0 (H13 _ _ _ C) fun n13 => ?_)) | (go_at_call 15; first | (with_reducible refine AnsW.use (H14 _ _ _ C) _ fun n14 => ?_) | (with_reducible refine AnsW.use0 (H14 _ _ _ C) fun n14 => ?_)) | (go_at_call 24; with_reducible refine Ans.use H15 _ fun n15 => ?_) | (go_at_call 19; first | (with_reducible refine AnsW.use (H16 _ _ _ C) _ fun n16 => ?_) | (with_reducible refine AnsW.use0 (H16 _ _ _ C) fun n16 => ?_)) | (go_at_call 15; first | (with_reducible refine AnsW.use (H17 _ _ _ C) _ fun n17 => ?_) | (with_reducible refine AnsW.use0 (H17 _ _ _ C) fun n17 => ?_)) | (go_at_call 25; with_reducible refine Ans.use H18 _ fun n18 => ?_))
  go_ret
  exact ⟨rfl, GR _ GA⟩
set_option maxRecDepth 100000 in
set_option maxHeartbeats 2000000 in
theorem half0 (m a b : Int) 
    (HA : AliveAns)
    (H0 : Ans 10 #[.int .u64 m] (.bool false))
    (H1 : Ans 9 #[.int .u64 m] (.tuple #[.pointer none, .int .i64 1]))
    (w : World) : Calls Try.prog 6 #[.int .u64 m, .int .u64 a, .int .u64 b] w fun e w' => e = .returned (.bool true) ∧ Grown w w' := by
  go_enter Try.func6, Try.ntmps6
  go_wp2_with (first | (go_at_call 8; with_reducible refine AliveAns.use HA _ fun w1 GA => ?_) | (go_at_call 10; with_reducible refine Ans.use H0 _ fun n0 => ?_) | (go_at_call 9; with_reducible refine Ans.use H1 _ fun n1 => ?_))
  go_ret
  exact ⟨rfl, GA⟩
set_option maxRecDepth 100000 in
set_option maxHeartbeats 2000000 in
theorem half1 (m : Nat) (a b x p o r q : Int) (m0 : 0 < (m : Int)) (m1 : (m : Int) < 18446744073709551616) (hm : ((m : Int) == 0) = false) (a0 : 0 ≤ a) (a1 : a < 18446744073709551616) (hr : a % (m : Int) = r)
    (HA : AliveAns) (HN : NewAns m m)
    (H0 : Ans 10 #[.int .u64 m] (.bool true))
    (H1 : ∀ (W : World) (bk gk : Nat), Ctx W bk m gk → AnsW W 14 #[.pointer (some ⟨bk, 0, none⟩), .int .u64 a] (.int .u64 x))
    (H2 : ∀ (W : World) (bk gk : Nat), Ctx W bk m gk → AnsW W 13 #[.pointer (some ⟨bk, 0, none⟩), .int .u64 x, .int .u64 b] (.int .u64 p))
    (H3 : Ans 22 #[.int .u64 a, .int .u64 b, .int .u64 m] (.int .u64 p))
    (H4 : ∀ (W : World) (bk gk : Nat), Ctx W bk m gk → AnsW W 12 #[.pointer (some ⟨bk, 0, none⟩)] (.int .u64 o))
    (H5 : ∀ (W : World) (bk gk : Nat), Ctx W bk m gk → AnsW W 13 #[.pointer (some ⟨bk, 0, none⟩), .int .u64 a, .int .u64 o] (.int .u64 r))
    (H6 : ∀ (W : World) (bk gk : Nat), Ctx W bk m gk → AnsW W 13 #[.pointer (some ⟨bk, 0, none⟩), .int .u64 a, .int .u64 b] (.int .u64 q))
    (H7 : ∀ (W : World) (bk gk : Nat), Ctx W bk m gk → AnsW W 13 #[.pointer (some ⟨bk, 0, none⟩), .int .u64 b, .int .u64 a] (.int .u64 q))
    (w : World) : Calls Try.prog 6 #[.int .u64 m, .int .u64 a, .int .u64 b] w fun e w' => e = .returned (.bool true) ∧ Grown w w' := by
  go_enter Try.func6, Try.ntmps6
  go_wp2_with (first | (go_at_call 8; with_reducible refine AliveAns.use HA _ fun w1 GA => ?_) | (go_at_call 9; with_reducible refine NewAns.use HN _ fun bk gk W C GR => ?_) | (go_at_call 10; with_reducible refine Ans.use H0 _ fun n0 => ?_) | (go_at_call 14; first | (with_reducible refine AnsW.use (H1 _ _ _ C) _ fun n1 => ?_) | (with_reducible refine AnsW.use0 (H1 _ _ _ C) fun n1 => ?_)) | (go_at_call 13; first | (with_reducible refine AnsW.use (H2 _ _ _ C) _ fun n2 => ?_) | (with_reducible refine AnsW.use0 (H2 _ _ _ C) fun n2 => ?_)) | (go_at_call 22; with_reducible refine Ans.use H3 _ fun n3 => ?_) | (go_at_call 12; first | (with_reducible refine AnsW.use (H4 _ _ _ C) _ fun n4 => ?_) | (with_reducible refine AnsW.use0 (H4 _ _ _ C) fun n4 => ?_)) | (go_at_call 13; first | (with_reducible refine AnsW.use (H5 _ _ _ C) _ fun n5 => ?_) | (with_reducible refine AnsW.use0 (H5 _ _ _ C) fun n5 => ?_)) | (go_at_call 13; first | (with_reducible refine AnsW.use (H6 _ _ _ C) _ fun n6 => ?_) | (with_reducible refine AnsW.use0 (H6 _ _ _ C) fun n6 => ?_)) | (go_at_call 13; first | (with_reducible refine AnsW.use (H7 _ _ _ C) _ fun n7 => ?_) | (with_reducible refine AnsW.use0 (H7 _ _ _ C) fun n7 => ?_)))
  try dsimp only [List.append]
  go_quiet ((first | (go_at_call 10; with_reducible exact Ans.quiet H0) | (go_at_call 14; with_reducible exact AnsW.quiet (H1 _ _ _ C)) | (go_at_call 13; with_reducible exact AnsW.quiet (H2 _ _ _ C)) | (go_at_call 22; with_reducible exact Ans.quiet H3) | (go_at_call 12; with_reducible exact AnsW.quiet (H4 _ _ _ C)) | (go_at_call 13; with_reducible exact AnsW.quiet (H5 _ _ _ C)) | (go_at_call 13; with_reducible exact AnsW.quiet (H6 _ _ _ C)) | (go_at_call 13; with_reducible exact AnsW.quiet (H7 _ _ _ C))))
  go_wp2_with (first | (go_at_call 8; with_reducible refine AliveAns.use HA _ fun w1 GA => ?_) | (go_at_call 9; with_reducible refine NewAns.use HN _ fun bk gk W C GR => ?_) | (go_at_call 10; with_reducible refine Ans.use H0 _ fun n0 => ?_) | (go_at_call 14; first | (with_reducible refine AnsW.use (H1 _ _ _ C) _ fun n1 => ?_) | (with_reducible refine AnsW.use0 (H1 _ _ _ C) fun n1 => ?_)) | (go_at_call 13; first | (with_reducible refine AnsW.use (H2 _ _ _ C) _ fun n2 => ?_) | (with_reducible refine AnsW.use0 (H2 _ _ _ C) fun n2 => ?_)) | (go_at_call 22; with_reducible refine Ans.use H3 _ fun n3 => ?_) | (go_at_call 12; first | (with_reducible refine AnsW.use (H4 _ _ _ C) _ fun n4 => ?_) | (with_reducible refine AnsW.use0 (H4 _ _ _ C) fun n4 => ?_)) | (go_at_call 13; first | (with_reducible refine AnsW.use (H5 _ _ _ C) _ fun n5 => ?_) | (with_reducible refine AnsW.use0 (H5 _ _ _ C) fun n5 => ?_)) | (go_at_call 13; first | (with_reducible refine AnsW.use (H6 _ _ _ C) _ fun n6 => ?_) | (with_reducible refine AnsW.use0 (H6 _ _ _ C) fun n6 => ?_)) | (go_at_call 13; first | (with_reducible refine AnsW.use (H7 _ _ _ C) _ fun n7 => ?_) | (with_reducible refine AnsW.use0 (H7 _ _ _ C) fun n7 => ?_)))
  go_ret
  exact ⟨rfl, GR _ GA⟩
set_option maxRecDepth 100000 in
set_option maxHeartbeats 2000000 in
theorem rests0 (m x y : Int) 
    (HA : AliveAns)
    (H0 : Ans 10 #[.int .u64 m] (.bool false))
    (H1 : Ans 9 #[.int .u64 m] (.tuple #[.pointer none, .int .i64 1]))
    (w : World) : Calls Try.prog 7 #[.int .u64 m, .int .u64 x, .int .u64 y] w fun e w' => e = .returned (.bool true) ∧ Grown w w' := by
  go_enter Try.func7, Try.ntmps7
  go_wp2_with (first | (go_at_call 8; with_reducible refine AliveAns.use HA _ fun w1 GA => ?_) | (go_at_call 10; with_reducible refine Ans.use H0 _ fun n0 => ?_) | (go_at_call 9; with_reducible refine Ans.use H1 _ fun n1 => ?_))
  go_ret
  exact ⟨rfl, GA⟩
set_option maxRecDepth 100000 in
set_option maxHeartbeats 2000000 in
theorem rests1 (m : Nat) (x y u v p i o s d n t : Int) (m0 : 0 < (m : Int)) (m1 : (m : Int) < 18446744073709551616) (hm : ((m : Int) == 0) = false) (x0 : 0 ≤ x) (x1 : x < 18446744073709551616) (y0 : 0 ≤ y) (y1 : y < 18446744073709551616) (hu : x % (m : Int) = u) (hv : y % (m : Int) = v) (lp : p < (m : Int)) (Lp : decide (p < (m : Int)) = true) (li : i < (m : Int)) (Li : decide (i < (m : Int)) = true) (lo : o < (m : Int)) (Lo : decide (o < (m : Int)) = true) (ls : s < (m : Int)) (Ls : decide (s < (m : Int)) = true) (ld : d < (m : Int)) (Ld : decide (d < (m : Int)) = true) (ln : n < (m : Int)) (Ln : decide (n < (m : Int)) = true) (lt : t < (m : Int)) (Lt : decide (t < (m : Int)) = true)
    (HA : AliveAns) (HN : NewAns m m)
    (H0 : Ans 10 #[.int .u64 m] (.bool true))
    (H1 : ∀ (W : World) (bk gk : Nat), Ctx W bk m gk → AnsW W 13 #[.pointer (some ⟨bk, 0, none⟩), .int .u64 x, .int .u64 y] (.int .u64 p))
    (H2 : ∀ (W : World) (bk gk : Nat), Ctx W bk m gk → AnsW W 13 #[.pointer (some ⟨bk, 0, none⟩), .int .u64 u, .int .u64 v] (.int .u64 p))
    (H3 : ∀ (W : World) (bk gk : Nat), Ctx W bk m gk → AnsW W 14 #[.pointer (some ⟨bk, 0, none⟩), .int .u64 x] (.int .u64 i))
    (H4 : ∀ (W : World) (bk gk : Nat), Ctx W bk m gk → AnsW W 14 #[.pointer (some ⟨bk, 0, none⟩), .int .u64 u] (.int .u64 i))
    (H5 : ∀ (W : World) (bk gk : Nat), Ctx W bk m gk → AnsW W 15 #[.pointer (some ⟨bk, 0, none⟩), .int .u64 x] (.int .u64 o))
    (H6 : ∀ (W : World) (bk gk : Nat), Ctx W bk m gk → AnsW W 15 #[.pointer (some ⟨bk, 0, none⟩), .int .u64 u] (.int .u64 o))
    (H7 : ∀ (W : World) (bk gk : Nat), Ctx W bk m gk → AnsW W 16 #[.pointer (some ⟨bk, 0, none⟩), .int .u64 x, .int .u64 y] (.int .u64 s))
    (H8 : ∀ (W : World) (bk gk : Nat), Ctx W bk m gk → AnsW W 16 #[.pointer (some ⟨bk, 0, none⟩), .int .u64 u, .int .u64 v] (.int .u64 s))
    (H9 : ∀ (W : World) (bk gk : Nat), Ctx W bk m gk → AnsW W 17 #[.pointer (some ⟨bk, 0, none⟩), .int .u64 x, .int .u64 y] (.int .u64 d))
    (H10 : ∀ (W : World) (bk gk : Nat), Ctx W bk m gk → AnsW W 17 #[.pointer (some ⟨bk, 0, none⟩), .int .u64 u, .int .u64 v] (.int .u64 d))
    (H11 : ∀ (W : World) (bk gk : Nat), Ctx W bk m gk → AnsW W 18 #[.pointer (some ⟨bk, 0, none⟩), .int .u64 x] (.int .u64 n))
    (H12 : ∀ (W : World) (bk gk : Nat), Ctx W bk m gk → AnsW W 18 #[.pointer (some ⟨bk, 0, none⟩), .int .u64 u] (.int .u64 n))
    (H13 : ∀ (W : World) (bk gk : Nat), Ctx W bk m gk → AnsW W 19 #[.pointer (some ⟨bk, 0, none⟩), .int .u64 x, .int .u64 y] (.int .u64 t))
    (H14 : ∀ (W : World) (bk gk : Nat), Ctx W bk m gk → AnsW W 19 #[.pointer (some ⟨bk, 0, none⟩), .int .u64 u, .int .u64 y] (.int .u64 t))
    (w : World) : Calls Try.prog 7 #[.int .u64 m, .int .u64 x, .int .u64 y] w fun e w' => e = .returned (.bool true) ∧ Grown w w' := by
  go_enter Try.func7, Try.ntmps7
  go_wp2_with (first | (go_at_call 8; with_reducible refine AliveAns.use HA _ fun w1 GA => ?_) | (go_at_call 9; with_reducible refine NewAns.use HN _ fun bk gk W C GR => ?_) | (go_at_call 10; with_reducible refine Ans.use H0 _ fun n0 => ?_) | (go_at_call 13; first | (with_reducible refine AnsW.use (H1 _ _ _ C) _ fun n1 => ?_) | (with_reducible refine AnsW.use0 (H1 _ _ _ C) fun n1 => ?_)) | (go_at_call 13; first | (with_reducible refine AnsW.use (H2 _ _ _ C) _ fun n2 => ?_) | (with_reducible refine AnsW.use0 (H2 _ _ _ C) fun n2 => ?_)) | (go_at_call 14; first | (with_reducible refine AnsW.use (H3 _ _ _ C) _ fun n3 => ?_) | (with_reducible refine AnsW.use0 (H3 _ _ _ C) fun n3 => ?_)) | (go_at_call 14; first | (with_reducible refine AnsW.use (H4 _ _ _ C) _ fun n4 => ?_) | (with_reducible refine AnsW.use0 (H4 _ _ _ C) fun n4 => ?_)) | (go_at_call 15; first | (with_reducible refine AnsW.use (H5 _ _ _ C) _ fun n5 => ?_) | (with_reducible refine AnsW.use0 (H5 _ _ _ C) fun n5 => ?_)) | (go_at_call 15; first | (with_reducible refine AnsW.use (H6 _ _ _ C) _ fun n6 => ?_) | (with_reducible refine AnsW.use0 (H6 _ _ _ C) fun n6 => ?_)) | (go_at_call 16; first | (with_reducible refine AnsW.use (H7 _ _ _ C) _ fun n7 => ?_) | (with_reducible refine AnsW.use0 (H7 _ _ _ C) fun n7 => ?_)) | (go_at_call 16; first | (with_reducible refine AnsW.use (H8 _ _ _ C) _ fun n8 => ?_) | (with_reducible refine AnsW.use0 (H8 _ _ _ C) fun n8 => ?_)) | (go_at_call 17; first | (with_reducible refine AnsW.use (H9 _ _ _ C) _ fun n9 => ?_) | (with_reducible refine AnsW.use0 (H9 _ _ _ C) fun n9 => ?_)) | (go_at_call 17; first | (with_reducible refine AnsW.use (H10 _ _ _ C) _ fun n10 => ?_) | (with_reducible refine AnsW.use0 (H10 _ _ _ C) fun n10 => ?_)) | (go_at_call 18; first | (with_reducible refine AnsW.use (H11 _ _ _ C) _ fun n11 => ?_) | (with_reducible refine AnsW.use0 (H11 _ _ _ C) fun n11 => ?_)) | (go_at_call 18; first | (with_reducible refine AnsW.use (H12 _ _ _ C) _ fun n12 => ?_) | (with_reducible refine AnsW.use0 (H12 _ _ _ C) fun n12 => ?_)) | (go_at_call 19; first | (with_reducible refine AnsW.use (H13 _ _ _ C) _ fun n13 => ?_) | (with_reducible refine AnsW.use0 (H13 _ _ _ C) fun n13 => ?_)) | (go_at_call 19; first | (with_reducible refine AnsW.use (H14 _ _ _ C) _ fun n14 => ?_) | (with_reducible refine AnsW.use0 (H14 _ _ _ C) fun n14 => ?_)))
  try dsimp only [List.append]
  go_quiet ((first | (go_at_call 10; with_reducible exact Ans.quiet H0) | (go_at_call 13; with_reducible exact AnsW.quiet (H1 _ _ _ C)) | (go_at_call 13; with_reducible exact AnsW.quiet (H2 _ _ _ C)) | (go_at_call 14; with_reducible exact AnsW.quiet (H3 _ _ _ C)) | (go_at_call 14; with_reducible exact AnsW.quiet (H4 _ _ _ C)) | (go_at_call 15; with_reducible exact AnsW.quiet (H5 _ _ _ C)) | (go_at_call 15; with_reducible exact AnsW.quiet (H6 _ _ _ C)) | (go_at_call 16; with_reducible exact AnsW.quiet (H7 _ _ _ C)) | (go_at_call 16; with_reducible exact AnsW.quiet (H8 _ _ _ C)) | (go_at_call 17; with_reducible exact AnsW.quiet (H9 _ _ _ C)) | (go_at_call 17; with_reducible exact AnsW.quiet (H10 _ _ _ C)) | (go_at_call 18; with_reducible exact AnsW.quiet (H11 _ _ _ C)) | (go_at_call 18; with_reducible exact AnsW.quiet (H12 _ _ _ C)) | (go_at_call 19; with_reducible exact AnsW.quiet (H13 _ _ _ C)) | (go_at_call 19; with_reducible exact AnsW.quiet (H14 _ _ _ C))))
  go_wp2_with (first | (go_at_call 8; with_reducible refine AliveAns.use HA _ fun w1 GA => ?_) | (go_at_call 9; with_reducible refine NewAns.use HN _ fun bk gk W C GR => ?_) | (go_at_call 10; with_reducible refine Ans.use H0 _ fun n0 => ?_) | (go_at_call 13; first | (with_reducible refine AnsW.use (H1 _ _ _ C) _ fun n1 => ?_) | (with_reducible refine AnsW.use0 (H1 _ _ _ C) fun n1 => ?_)) | (go_at_call 13; first | (with_reducible refine AnsW.use (H2 _ _ _ C) _ fun n2 => ?_) | (with_reducible refine AnsW.use0 (H2 _ _ _ C) fun n2 => ?_)) | (go_at_call 14; first | (with_reducible refine AnsW.use (H3 _ _ _ C) _ fun n3 => ?_) | (with_reducible refine AnsW.use0 (H3 _ _ _ C) fun n3 => ?_)) | (go_at_call 14; first | (with_reducible refine AnsW.use (H4 _ _ _ C) _ fun n4 => ?_) | (with_reducible refine AnsW.use0 (H4 _ _ _ C) fun n4 => ?_)) | (go_at_call 15; first | (with_reducible refine AnsW.use (H5 _ _ _ C) _ fun n5 => ?_) | (with_reducible refine AnsW.use0 (H5 _ _ _ C) fun n5 => ?_)) | (go_at_call 15; first | (with_reducible refine AnsW.use (H6 _ _ _ C) _ fun n6 => ?_) | (with_reducible refine AnsW.use0 (H6 _ _ _ C) fun n6 => ?_)) | (go_at_call 16; first | (with_reducible refine AnsW.use (H7 _ _ _ C) _ fun n7 => ?_) | (with_reducible refine AnsW.use0 (H7 _ _ _ C) fun n7 => ?_)) | (go_at_call 16; first | (with_reducible refine AnsW.use (H8 _ _ _ C) _ fun n8 => ?_) | (with_reducible refine AnsW.use0 (H8 _ _ _ C) fun n8 => ?_)) | (go_at_call 17; first | (with_reducible refine AnsW.use (H9 _ _ _ C) _ fun n9 => ?_) | (with_reducible refine AnsW.use0 (H9 _ _ _ C) fun n9 => ?_)) | (go_at_call 17; first | (with_reducible refine AnsW.use (H10 _ _ _ C) _ fun n10 => ?_) | (with_reducible refine AnsW.use0 (H10 _ _ _ C) fun n10 => ?_)) | (go_at_call 18; first | (with_reducible refine AnsW.use (H11 _ _ _ C) _ fun n11 => ?_) | (with_reducible refine AnsW.use0 (H11 _ _ _ C) fun n11 => ?_)) | (go_at_call 18; first | (with_reducible refine AnsW.use (H12 _ _ _ C) _ fun n12 => ?_) | (with_reducible refine AnsW.use0 (H12 _ _ _ C) fun n12 => ?_)) | (go_at_call 19; first | (with_reducible refine AnsW.use (H13 _ _ _ C) _ fun n13 => ?_) | (with_reducible refine AnsW.use0 (H13 _ _ _ C) fun n13 => ?_)) | (go_at_call 19; first | (with_reducible refine AnsW.use (H14 _ _ _ C) _ fun n14 => ?_) | (with_reducible refine AnsW.use0 (H14 _ _ _ C) fun n14 => ?_)))
  go_ret
  exact ⟨rfl, GR _ GA⟩
end Go.Proofs.Ythlaedebgiccgaa

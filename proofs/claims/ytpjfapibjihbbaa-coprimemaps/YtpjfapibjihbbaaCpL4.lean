/-
  The statement CoprimePicks: true, of all numbers. No condition.
-/
import Derived.Test.YtpjfapibjihbbaaCpI
namespace Go.Proofs.Ytpjfapibjihbbaa
set_option linter.unusedVariables false
open Go.RowKit

theorem pk_table (W : World) (a b t k : Int) (HT : Ans 10 #[.int .i64 a, .int .i64 b] (.bool false)) : AnsB W 4 #[.int .i64 a, .int .i64 b, .int .i64 t, .int .i64 k] (.bool true) := by
  intro w hw
  go_enter Try.func4, Try.ntmps4
  go_wp2_with (first
    | (go_at_call 5; with_reducible refine AnsB.use (alive15 _) hw fun w1 hb1 => ?_)
    | (go_at_call 10; with_reducible refine Ans.use HT _ fun n2 => ?_))
  go_ret
  exact ⟨rfl, bb hb1 (below_drewN _ _)⟩
theorem pk_out (W : World) (a b n : Nat) (t k : Int) (hm : wrap64 ((a : Int) * (b : Int)) = (n : Int)) (HT : Ans 10 #[.int .i64 (a : Int), .int .i64 (b : Int)] (.bool true))
    (h : t < 0 ∨ (0 ≤ t ∧ (n : Int) ≤ t) ∨ (0 ≤ t ∧ t < (n : Int) ∧ k < 0) ∨ (0 ≤ t ∧ t < (n : Int) ∧ 0 ≤ k ∧ (n : Int) ≤ k)) : AnsB W 4 #[.int .i64 (a : Int), .int .i64 (b : Int), .int .i64 t, .int .i64 k] (.bool true) := by
  intro w hw
  rcases h with h | h | h | h
  · go_enter Try.func4, Try.ntmps4
    go_wp2_with (first
      | (go_at_call 5; with_reducible refine AnsB.use (alive15 _) hw fun w1 hb1 => ?_)
      | (go_at_call 10; with_reducible refine Ans.use HT _ fun n2 => ?_))
    go_ret
    exact ⟨rfl, bb hb1 (below_drewN _ _)⟩
  · obtain ⟨h0, h1⟩ := h
    have h2 : ¬ t < 0 := by omega
    have h3 : wrap64 ((a : Int) * (b : Int)) ≤ t := by rw [hm]; exact h1
    go_enter Try.func4, Try.ntmps4
    go_wp2_with (first
      | (go_at_call 5; with_reducible refine AnsB.use (alive15 _) hw fun w1 hb1 => ?_)
      | (go_at_call 10; with_reducible refine Ans.use HT _ fun n2 => ?_))
    go_ret
    exact ⟨rfl, bb hb1 (below_drewN _ _)⟩
  · obtain ⟨h0, h1, hk⟩ := h
    have h2 : ¬ t < 0 := by omega
    have h3 : ¬ wrap64 ((a : Int) * (b : Int)) ≤ t := by rw [hm]; omega
    have h4 : ¬ (n : Int) ≤ t := by omega
    go_enter Try.func4, Try.ntmps4
    go_wp2_with (first
      | (go_at_call 5; with_reducible refine AnsB.use (alive15 _) hw fun w1 hb1 => ?_)
      | (go_at_call 10; with_reducible refine Ans.use HT _ fun n2 => ?_))
    go_ret
    exact ⟨rfl, bb hb1 (below_drewN _ _)⟩
  · obtain ⟨h0, h1, hk, hk2⟩ := h
    have h2 : ¬ t < 0 := by omega
    have h3 : ¬ wrap64 ((a : Int) * (b : Int)) ≤ t := by rw [hm]; omega
    have h4 : ¬ (n : Int) ≤ t := by omega
    have h5 : ¬ k < 0 := by omega
    have h6 : wrap64 ((a : Int) * (b : Int)) ≤ k := by rw [hm]; exact hk2
    go_enter Try.func4, Try.ntmps4
    go_wp2_with (first
      | (go_at_call 5; with_reducible refine AnsB.use (alive15 _) hw fun w1 hb1 => ?_)
      | (go_at_call 10; with_reducible refine Ans.use HT _ fun n2 => ?_))
    go_ret
    exact ⟨rfl, bb hb1 (below_drewN _ _)⟩
theorem wrSum2 {x y : Nat} (hx : x ≤ 16777216) (hy : y ≤ 16777216) : wrap64 ((x : Int) + (y : Int)) = (x : Int) + (y : Int) := by unfold wrap64; omega
theorem divB {x n q : Nat} (h : x / n = q) : Int.tdiv (x : Int) (n : Int) = (q : Int) := by rw [← h]; rfl
theorem modB {x n q : Nat} (h : x % n = q) : Int.tmod (x : Int) (n : Int) = (q : Int) := by rw [← h]; rfl
/-- The facts of the last three regions. -/
structure PkF (a b n t k r c u v x p m1 m2 m3 m4 m5 z : Nat) : Prop where
  b0 : ¬ (b : Int) = 0
  n0 : ¬ (n : Int) = 0
  mn : wrap64 ((a : Int) * (b : Int)) = (n : Int)
  g1 : Int.tdiv (t : Int) (b : Int) = (r : Int)
  g1w : wrap64 (r : Int) = (r : Int)
  g2 : Int.tmod (t : Int) (b : Int) = (c : Int)
  g3 : Int.tdiv (p : Int) (b : Int) = (u : Int)
  g3w : wrap64 (u : Int) = (u : Int)
  g4 : Int.tmod (p : Int) (b : Int) = (v : Int)
  w1 : wrap64 ((x : Int) * (k : Int)) = (m1 : Int)
  w2 : wrap64 ((r : Int) * (u : Int)) = (m2 : Int)
  w3 : wrap64 ((b : Int) * (m2 : Int)) = (m3 : Int)
  w4 : wrap64 ((c : Int) * (v : Int)) = (m4 : Int)
  w5 : wrap64 ((a : Int) * (m4 : Int)) = (m5 : Int)
  w6 : wrap64 ((m3 : Int) + (m5 : Int)) = (m3 : Int) + (m5 : Int)
  k1 : Int.tmod (m1 : Int) (n : Int) = (z : Int)
  k2 : Int.tmod ((m3 : Int) + (m5 : Int)) (n : Int) = (z : Int)
theorem PkF.raw {a b n t k r c u v x p m1 m2 m3 m4 m5 z : Nat} (h : PkF a b n t k r c u v x p m1 m2 m3 m4 m5 z) :
    Int.tmod (wrap64 ((x : Int) * (k : Int))) (wrap64 ((a : Int) * (b : Int))) = Int.tmod (wrap64 (wrap64 ((b : Int) * wrap64 (wrap64 (r : Int) * wrap64 (u : Int))) + wrap64 ((a : Int) * wrap64 ((c : Int) * (v : Int))))) (wrap64 ((a : Int) * (b : Int))) := by
  rw [h.g1w, h.g3w, h.w1, h.mn, h.w2, h.w3, h.w4, h.w5, h.w6, h.k1, h.k2]
set_option maxHeartbeats 2000000 in
set_option maxRecDepth 100000 in
theorem pk_in (W : World) (a b n t k r c u v x p m1 m2 m3 m4 m5 z : Nat) (hn : n ≤ 1024) (ht : t < n) (hk : k < n) (hm : wrap64 ((a : Int) * (b : Int)) = (n : Int)) (HF : Hid (PkF a b n t k r c u v x p m1 m2 m3 m4 m5 z))
    (HT : Ans 10 #[.int .i64 (a : Int), .int .i64 (b : Int)] (.bool true))
    (is os : List Nat) (his : is.length = n) (hos : os.length = n) (hx : is[t]? = some x) (hy : os[k]? = some p)
    (HI : NewRow W 8 #[.int .i64 (a : Int), .int .i64 (b : Int)] (ints is))
    (HO : NewRow W 9 #[.int .i64 (a : Int), .int .i64 (b : Int)] (ints os)) : AnsB W 4 #[.int .i64 (a : Int), .int .i64 (b : Int), .int .i64 (t : Int), .int .i64 (k : Int)] (.bool true) := by
  intro w hw
  have h2 : ¬ (t : Int) < 0 := by omega
  have h3 : ¬ wrap64 ((a : Int) * (b : Int)) ≤ (t : Int) := by rw [hm]; omega
  have h4 : ¬ (n : Int) ≤ (t : Int) := by omega
  have h5 : ¬ (k : Int) < 0 := by omega
  have h6 : ¬ wrap64 ((a : Int) * (b : Int)) ≤ (k : Int) := by rw [hm]; omega
  have h7 : ¬ (n : Int) ≤ (k : Int) := by omega
  have hl1 : (ints is).length = n := by rw [ints_len, his]
  have hl2 : (ints os).length = n := by rw [ints_len, hos]
  have hne : ((n : Int) != wrap64 ((a : Int) * (b : Int))) = false := by rw [hm]; simp
  have hne2 : ((n : Int) != (n : Int)) = false := by simp
  have HL : Hid (t < n ∧ k < n) := ⟨ht, hk⟩
  clear his hos
  go_enter Try.func4, Try.ntmps4
  go_wp2_with (first
    | (go_at_call 5; with_reducible refine AnsB.use (alive15 _) hw fun w1 hb1 => ?_; have hw1 := bb hw hb1)
    | (go_at_call 10; with_reducible refine Ans.use HT _ fun n2 => ?_; have hw2 := bb hw1 (below_drewN w1 n2))
    | (go_at_call 8; with_reducible refine NewRow.useL HI hl1 hw2 fun A3 C3 w3 hZ3 hb3 => ?_; have hw3 := bb hw2 hb3)
    | (go_at_call 9; with_reducible refine NewRow.useL HO hl2 hw3 fun A4 C4 w4 hZ4 hb4 => ?_; have hw4 := bb hw3 hb4; have hZ34 := hZ3.below hb4; obtain ⟨bi, oi, rfl, _, ci⟩ := hZ34.nat hx; obtain ⟨bo, oo, rfl, _, co⟩ := hZ4.nat hy))
  have HB : Hid (Below w.heap.size w w4) := bb hb1 (bb (below_drewN w1 n2) (bb hb3 hb4))
  clear hb1 hb3 hb4 hw1 hw2 hw3 hw4 hZ3 hZ4 hZ34 HI HO HT hx hy h2 h3 h4 h5 h6 h7 hm hne hne2 hl1 hl2 hw ht hk
  have hb0 := HF.out.b0
  have g1 := HF.out.g1
  have g1w := HF.out.g1w
  have g2 := HF.out.g2
  go_quiet (fail)
  clear g1 g1w g2
  have g3 := HF.out.g3
  have g3w := HF.out.g3w
  have g4 := HF.out.g4
  have hk := HL.out.2
  have hb0 := HF.out.b0
  go_wp2
  go_quiet (fail)
  clear g3 g3w g4 hk hb0 co
  have hn0 : ¬ wrap64 ((a : Int) * (b : Int)) = 0 := by rw [HF.out.mn]; exact HF.out.n0
  have hraw := HF.out.raw
  have ht := HL.out.1
  go_wp2
  go_quiet (fail)
  go_wp2
  go_ret
  exact ⟨rfl, bb HB.out (bb (below_drewN _ _) (bb (below_drewN _ _) (below_drewN _ _)))⟩
theorem mul_small {x y A B : Nat} (hx : x ≤ A) (hy : y ≤ B) (h : A * B ≤ 16777216) : x * y ≤ 16777216 := Nat.le_trans (Nat.mul_le_mul hx hy) h
/-- The statement's walk: of all numbers. -/
theorem picks_law (W : World) (a : Int) (ha : I64 a) (b : Int) (hb : I64 b) (t : Int) (ht : I64 t) (k : Int) (hk : I64 k) : AnsB W 4 #[.int .i64 a, .int .i64 b, .int .i64 t, .int .i64 k] (.bool true) := by
  have HT := dtab_any a b
  cases hq : tabQ a b with
  | false => rw [hq] at HT; exact pk_table W a b t k HT
  | true =>
    rw [hq] at HT
    obtain ⟨a, b, rfl, rfl, hT⟩ := tab_yes hq
    have hm := mulW (a := a) (b := b) rfl (by have := hT.max; omega)
    by_cases hin : 0 ≤ t ∧ t < ((a * b : Nat) : Int) ∧ 0 ≤ k ∧ k < ((a * b : Nat) : Int)
    · obtain ⟨h1, h2, h3, h4⟩ := hin
      obtain ⟨t, rfl⟩ := Int.eq_ofNat_of_zero_le h1
      obtain ⟨k, rfl⟩ := Int.eq_ofNat_of_zero_le h3
      have ht : t < a * b := Int.ofNat_lt.1 h2
      have hk : k < a * b := Int.ofNat_lt.1 h4
      have hmax := hT.max
      obtain ⟨hal, hbl⟩ := hT.le
      have ha2 := hT.a2
      have hb2 := hT.b2
      have hx := inS_lt (show 1 ≤ a by omega) (show 1 ≤ b by omega) t
      have q1 : t / b ≤ 512 := by have := Nat.div_lt_of_lt_mul (show t < b * a by rw [Nat.mul_comm]; exact ht); omega
      have q2 : t % b ≤ 512 := by have := Nat.mod_lt t (show 0 < b by omega); omega
      have q3 : k % a ≤ 512 := by have := Nat.mod_lt k (show 0 < a by omega); omega
      have q4 : k % b ≤ 512 := by have := Nat.mod_lt k (show 0 < b by omega); omega
      have l1 : inS a b t * k ≤ 16777216 := mul_small (A := 1024) (B := 1024) (by omega) (by omega) (by omega)
      have n2 : t / b * (k % a) ≤ 512 * 512 := Nat.mul_le_mul q1 q3
      have n4 : t % b * (k % b) ≤ 512 * 512 := Nat.mul_le_mul q2 q4
      have hbk : b * (t / b * (k % a)) ≤ 16777216 := by
        rw [← Nat.mul_assoc]
        exact mul_small (A := 1024) (B := 512) (by have := Nat.mul_div_le t b; omega) q3 (by omega)
      have hak : a * (t % b * (k % b)) ≤ 16777216 := by
        rw [← Nat.mul_assoc]
        refine mul_small (A := 1024) (B := 512) ?_ q4 (by omega)
        have h5 := Nat.mul_le_mul_left a (Nat.le_of_lt (Nat.mod_lt t (show 0 < b by omega)))
        omega
      have hp := picks a b t k
      have hF : PkF a b (a * b) t k (t / b) (t % b) (k % a) (k % b) (inS a b t) (ouS a b k) (inS a b t * k) (t / b * (k % a)) (b * (t / b * (k % a))) (t % b * (k % b)) (a * (t % b * (k % b))) (inS a b t * k % (a * b)) :=
        ⟨by omega, by omega, hm, rfl, wrN (by omega), rfl, divB (ouS_div (by omega) k), wrN (by omega), modB (ouS_mod a b k), mulW rfl l1, mulW rfl (by omega), mulW rfl hbk, mulW rfl (by omega), mulW rfl hak, wrSum2 hbk hak, rfl, by rw [hp]; rfl⟩
      exact pk_in W a b (a * b) t k _ _ _ _ _ _ _ _ _ _ _ _ hmax ht hk hm hF HT (inL a b) (ouL a b) (inL_len a b) (ouL_len a b) (inL_get ht) (ouL_get hk) (in_yes W hT) (out_yes W hT)
    · exact pk_out W a b (a * b) t k hm HT (by omega)
end Go.Proofs.Ytpjfapibjihbbaa

/-
  Indexes as values, sizes of shapes. No condition.
-/
import Derived.Test.YtccknfhhmdoffaaSh1
import Derived.Test.YtccknfhhmdoffaaSh3
namespace Go.Proofs.Ytccknfhhmdoffaa
set_option linter.unusedVariables false
open Go.RowKit

/-- An index: four ints. -/
def ixV (p : Nat → Int) : Value := .agg #[.int .i64 (p 0), .int .i64 (p 1), .int .i64 (p 2), .int .i64 (p 3)]
def In (ds : List Nat) (p : Nat → Int) (j : Nat) : Prop := 0 ≤ p j ∧ p j < (ln ds j : Int)
theorem ret_ib {a b : Int} {c d : Bool} (h : a = b) (k : c = d) : Ending.returned (.tuple #[.int .i64 a, .bool c]) = .returned (.tuple #[.int .i64 b, .bool d]) := by rw [h, k]
theorem hor_congr {ds : List Nat} {i j : Nat → Nat} : ∀ k, (∀ m, m < k → i m = j m) → hor ds i k = hor ds j k
  | 0, _ => rfl
  | k + 1, h => by simp only [hor]; rw [hor_congr k fun m hm => h m (by omega), h k (by omega)]

theorem index_four (a b c d : Int) : (∀ w, (Instr.index 62 (.agg #[.int .i64 a, .int .i64 b, .int .i64 c, .int .i64 d]) (.int .i64 0)).run Try.prog w = .ok (.int .i64 a) w) ∧ (∀ w, (Instr.index 62 (.agg #[.int .i64 a, .int .i64 b, .int .i64 c, .int .i64 d]) (.int .i64 1)).run Try.prog w = .ok (.int .i64 b) w) ∧ (∀ w, (Instr.index 62 (.agg #[.int .i64 a, .int .i64 b, .int .i64 c, .int .i64 d]) (.int .i64 2)).run Try.prog w = .ok (.int .i64 c) w) ∧ (∀ w, (Instr.index 62 (.agg #[.int .i64 a, .int .i64 b, .int .i64 c, .int .i64 d]) (.int .i64 3)).run Try.prog w = .ok (.int .i64 d) w) :=
  ⟨fun _ => by kernel_rfl, fun _ => by kernel_rfl, fun _ => by kernel_rfl, fun _ => by kernel_rfl⟩
theorem index_at (p : Nat → Int) {k : Nat} (hk : k < 4) (w : World) : (Instr.index 62 (.agg #[.int .i64 (p 0), .int .i64 (p 1), .int .i64 (p 2), .int .i64 (p 3)]) (.int .i64 (k : Int))).run Try.prog w = .ok (.int .i64 (p k)) w := by
  obtain ⟨i0, i1, i2, i3⟩ := index_four (p 0) (p 1) (p 2) (p 3)
  match k, hk with
  | 0, _ => exact i0 w
  | 1, _ => exact i1 w
  | 2, _ => exact i2 w
  | 3, _ => exact i3 w
theorem szGo_ints : ∀ (ds : List Nat) (s : Nat), (∀ d ∈ ds, 1 ≤ d) → s * pr ds ≤ 4096 → szGo s (ints ds) = some (s * pr ds)
  | [], s, _, _ => by simp [ints, szGo, pr]
  | d :: ds, s, h, hm => by
    have h1 := h d (List.mem_cons_self ..)
    have hp := pr_pos (ds := ds) fun x hx => h x (List.mem_cons_of_mem _ hx)
    rw [pr, ← Nat.mul_assoc] at hm
    have h2 : s * d ≤ 4096 := Nat.le_trans (Nat.le_mul_of_pos_right _ hp) hm
    have : ¬ ((d : Int) < 1 ∨ 4096 < (d : Int) * (s : Int)) := by
      rw [Int.mul_comm, ← Int.natCast_mul]
      omega
    show szGo s ((d : Int) :: ints ds) = _
    rw [szGo_ok this, Int.toNat_natCast, szGo_ints ds (s * d) (fun x hx => h x (List.mem_cons_of_mem _ hx)) hm, pr, Nat.mul_assoc]
theorem sz_shape {ds : List Nat} (h : Shp ds) : sz (ints ds) = some (pr ds) := by
  have h4 := h.few
  unfold sz
  rw [if_neg (by rw [ints_len]; omega), szGo_ints ds 1 h.pos (by rw [Nat.one_mul]; exact h.max), Nat.one_mul]
theorem errV_shape {ds : List Nat} (h : Shp ds) : errV (ints ds) = 0 := by
  have h4 := h.few
  unfold errV
  rw [if_neg (by rw [ints_len]; omega), sz_shape h]; rfl
theorem sizeV_shape {ds : List Nat} (h : Shp ds) : sizeV (ints ds) = (pr ds : Int) := by
  unfold sizeV
  rw [sz_shape h]; rfl

end Go.Proofs.Ytccknfhhmdoffaa

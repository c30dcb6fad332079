/-
  The walk of ViewDense: it answers true, of every row. No condition but that the row lies there.
-/
import Derived.Test.YtccknfhhmdoffaaVd1
namespace Go.Proofs.Ytccknfhhmdoffaa
set_option linter.unusedVariables false
open Go.RowKit

set_option maxHeartbeats 1000000 in
theorem dense_many (W : World) (A : Option Addr) (C L : Nat) (h : 20 < L) : AnsB W 4 #[.slice A L C] (.bool true) := by
  intro w hw
  have HA := alive_any W
  have h' : (20 : Int) < (L : Int) := by omega
  go_enter Try.func4, Try.ntmps4
  go_wp2_with (go_at_call 10; with_reducible refine AnsB.use HA hw fun w2 hb2 => ?_)
  go_ret
  exact ⟨rfl, hb2⟩
set_option maxHeartbeats 1000000 in
theorem dense_none (W : World) (A : Option Addr) (C : Nat) (zs : List Int) (hZ : ZAt W A C zs) (hl : ¬ 20 < zs.length) (he : errV zs ≠ 0) : AnsB W 4 #[.slice A zs.length C] (.bool true) := by
  intro w hw
  have HA := alive_any W
  have HD := dense_err W A C zs hZ he
  have HR := rsize_any W A C zs hZ
  have h' : ¬ (20 : Int) < (zs.length : Int) := by omega
  unfold vw0 at HD
  generalize sizeV zs = sv at *
  generalize errV zs = ev at *
  generalize zs.length = L at *
  have HE := empty_any W
  unfold vw0 at HE
  clear hZ
  go_enter Try.func4, Try.ntmps4
  go_wp2_with (first
    | (go_at_call 10; (with_reducible refine AnsB.use HA hw fun w2 hb2 => ?_); have hw2 := hw.trans (hb2.mono hw.size))
    | (go_at_call 18; (with_reducible refine AnsB.use HD hw2 fun w3 hb3 => ?_); have hw3 := hw2.trans (hb3.mono hw2.size); have b3 := Blk.new w3 28 #[.int .i64 0, .slice none 0 0, .slice none 0 0]; have hb4 := below_alloc w3 (.cells #[.int .i64 0, .slice none 0 0, .slice none 0 0] 28); have hw4 := hw3.trans (hb4.mono hw3.size))
    | (go_at_call 19; with_reducible refine AnsQ.use HR hw4 ?_)
    | (go_at_call 20; (with_reducible refine AnsB.use HE hw4 fun w5 hb5 => ?_)))
  go_ret
  exact ⟨rfl, bb (bb (bb hb2 hb3) hb4) hb5⟩
set_option maxRecDepth 20000 in
set_option maxHeartbeats 4000000 in
theorem dense_shape (W : World) (A : Option Addr) (C : Nat) (ds : List Nat) (hS : Shp ds) (hZ : ZAt W A C (ints ds)) : AnsB W 4 #[.slice A ds.length C] (.bool true) := by
  intro w hw
  have HA := alive_any W
  have HD := dense_ok W A C ds hS hZ
  have HDu : ∀ {w : World}, Below W.heap.size W w → ∀ {R : Ending → World → Prop}, (∀ A1 C1 A2 C2 w', ZAt w' A1 C1 (ints ds) → ZAt w' A2 C2 (strs ds) → Below w.heap.size w w' → R (.returned (.tuple #[.agg #[.int .i64 0, .slice A1 ds.length C1, .slice A2 ds.length C2], .int .i64 0])) w') → Calls Try.prog 18 #[.slice A ds.length C] w R := fun {w} hw {R} K => by
    refine HD.use hw fun A1 C1 A2 C2 w' h1 h2 h3 => ?_
    have := K A1 C1 A2 C2 w' h1 h2 h3
    rw [ints_len, strs_len]
    exact this
  have HR := rsize_any W A C (ints ds) hZ
  rw [ints_len, errV_shape hS, sizeV_shape hS] at HR
  have h4 := hS.few
  have h' : ¬ (20 : Int) < (ds.length : Int) := by omega
  have HAll : Hid (∀ (X : World) A1 C1 A2 C2, ZAt X A1 C1 (ints ds) → ZAt X A2 C2 (strs ds) →
      (∀ {w X' : World} {B : Nat} {t : TypeId} {x y z : Value} (Q : L1 X w B t #[x, y, z] X') {R : Ending → World → Prop}, (∀ A5 C5 X'', ZAt X'' A5 C5 ((List.range (pr ds)).map fun (n : Nat) => (n : Int)) → L1 X w B t #[x, y, z] X'' → Below X'.heap.size X' X'' → X''.cell? ⟨B, 0, none⟩ = some x → X''.cell? ⟨B, 1, none⟩ = some y → X''.cell? ⟨B, 2, none⟩ = some z → R (.returned (.slice A5 (pr ds) C5)) X'') → Calls Try.prog 16 #[.agg #[.int .i64 0, .slice A1 ds.length C1, .slice A2 ds.length C2]] X' R) ∧
      AnsB X 13 #[.agg #[.int .i64 0, .slice A1 ds.length C1, .slice A2 ds.length C2], .int .i64 (pr ds : Int)] (.int .i64 0) ∧
      AnsB X 13 #[.agg #[.int .i64 0, .slice A1 ds.length C1, .slice A2 ds.length C2], .int .i64 ((pr ds : Int) - 1)] (.int .i64 6) ∧
      (Below W.heap.size W X → AnsB X 15 #[.slice A1 ds.length C1, .slice A ds.length C] (.bool true))) := fun X A1 C1 A2 C2 h1 h2 => by
    have a1 := cells_ok X 0 A1 C1 A2 C2 ds (strs ds) h1 h2 (ok_dense hS)
    rw [cls_dense hS] at a1
    have a2 := check_any X 0 A1 C1 A2 C2 (ints ds) (strs ds) h1 h2 _ _ (chk_dense hS)
    have a3 := check_any X 0 A1 C1 A2 C2 (ints ds) (strs ds) h1 h2 _ _ (chk_dense1 hS)
    rw [ints_len, strs_len] at a2 a3
    refine ⟨fun {w X' B t x y z} Q {R} K => L1.row a1 Q fun A5 C5 X'' h1 h2 h3 h4 h5 h6 => by have := K A5 C5 X'' h1 h2 h3 h4 h5 h6; rw [List.length_map, List.length_range]; exact this, a2, a3, fun hb => ?_⟩
    have := same_any X A1 C1 (ints ds) h1 A C (ints ds) (hZ.below hb)
    rw [ints_len, show smB (ints ds) (ints ds) = true by simp [smB]] at this
    exact this
  have HS4 : Hid (pr ds ≤ 4096) := hS.max
  have hp1 : wrap64 ((pr ds : Int) - 1) = (pr ds : Int) - 1 := wrap_mid (by have := pr_pos hS.pos; omega) (by have := hS.max; omega)
  obtain ⟨S, hSe⟩ : ∃ S, pr ds = S := ⟨_, rfl⟩
  obtain ⟨P1, hP1⟩ : ∃ P1 : Int, (S : Int) - 1 = P1 := ⟨_, rfl⟩
  rw [hSe] at HR HAll HS4 hp1
  rw [hP1] at HAll
  have hp2 : wrap64 ((S : Int) - 1) = P1 := by rw [hp1, hP1]
  obtain ⟨L, hL⟩ : ∃ L, ds.length = L := ⟨_, rfl⟩
  simp only [hL] at HDu HR HAll h' ⊢
  clear hS hSe hL hZ HD h4 hp1 hP1
  go_enter Try.func4, Try.ntmps4
  go_wp2_with (first
    | (go_at_call 10; (with_reducible refine AnsB.use HA hw fun w2 hb2 => ?_); have hw2 := hw.trans (hb2.mono hw.size))
    | (go_at_call 18; refine HDu hw2 fun A1 C1 A2 C2 w3 z1 z2 hb3 => ?_; have hw3 := hw2.trans (hb3.mono hw2.size); have b3 := Blk.new w3 28 #[.int .i64 0, .slice A1 L C1, .slice A2 L C2]; have hb4 := below_alloc w3 (.cells #[.int .i64 0, .slice A1 L C1, .slice A2 L C2] 28); have hw4 := hw3.trans (hb4.mono hw3.size); obtain ⟨H1, H2, H3, H4⟩ := HAll.out _ _ _ _ _ (z1.below hb4) (z2.below hb4); have H4 := H4 hw4; have Q : L1 _ w w3.heap.size 28 #[.int .i64 0, .slice A1 L C1, .slice A2 L C2] _ := ⟨Below.refl _ _, bb (bb hb2 hb3) hb4, b3⟩; clear b3)
    | (go_at_call 19; with_reducible refine AnsQ.use HR hw4 ?_)
    | (go_at_call 16; refine H1 Q fun A5 C5 X5 z5 Q hb5 q0 q1 q2 => ?_))
  have HQ : Hid (L1 _ w w3.heap.size 28 #[.int .i64 0, .slice A1 L C1, .slice A2 L C2] X5) := Q
  have hSw : ∀ k : Nat, k < S → wrap64 ((k : Int) + 1) = (k : Int) + 1 := fun k hk => wrap_next (by have := HS4.out; omega)
  have HSw : Hid (∀ k : Nat, k < S → wrap64 ((k : Int) + 1) = (k : Int) + 1) := hSw
  clear hSw Q hb2 hb3 hb4 hw2 hw3 hw4 H1 HAll HDu HR
  go_loopw [38] (fun v wr => ∃ k : Nat, v = .int .i64 k ∧ k ≤ S ∧ wr = X5) (fun v _ => S - (intOf v).toNat)
  case atStart => exact ⟨0, rfl, by omega, rfl⟩
  case round =>
    obtain ⟨k, rfl, hk, rfl⟩ := hrel
    by_cases hlt : k < S
    · obtain ⟨b, q, rfl, hb, c0, _⟩ := z5.get k (k : Int) (by rw [List.getElem?_map, List.getElem?_range hlt]; rfl)
      have hkS : (k : Int) < (S : Int) := by omega
      have hkw := HSw.out k hlt
      clear z5 H2 H3 H4
      go_wp2
      go_roundw
      case rel => exact ⟨k + 1, by rw [hkw, nat_next], hlt, by first | rfl | trivial⟩
      case measure => rw [hkw]; exact sub_next hlt
    · obtain rfl : k = S := by omega
      have Q := HQ.out
      go_wp2_with (first
        | (go_at_call 15; (with_reducible refine L1.use H4 Q fun X6 Q hb6 q0 q1 q2 => ?_))
        | (go_at_call 13; first | (with_reducible refine L1.use H2 Q fun X6 Q hb6 q0 q1 q2 => ?_) | (with_reducible refine L1.use H3 Q fun X6 Q hb6 q0 q1 q2 => ?_)))
      go_ret
      exact ⟨rfl, Q.hB⟩
theorem dense_law (W : World) (A : Option Addr) (C : Nat) (zs : List Int) (hZ : ZAt W A C zs) : AnsB W 4 #[.slice A zs.length C] (.bool true) := by
  by_cases hl : 20 < zs.length
  · exact dense_many W A C _ hl
  · by_cases he : errV zs = 0
    · obtain ⟨ds, rfl, hS⟩ := errV_shp he
      rw [ints_len]
      exact dense_shape W A C ds hS hZ
    · exact dense_none W A C zs hZ hl he
end Go.Proofs.Ytccknfhhmdoffaa

/-
  The contract of limbs.Decimal: the decimal numeral of three words.
-/
import Derived.Test.YtlgadaojekcjeaaDoorDivide
import Derived.Test.YtlgadaojekcjeaaDoorFmt
import Derived.Test.YtlgadaojekcjeaaDoorDecP
import Derived.Deep.LoopGhost
namespace Go.Proofs.YtlgadaojekcjeaaDoor
open Go.RowKit

theorem tab_below {w w' : World} (h : Tab w) (hb : Below w.heap.size w w') : Tab w' := by
  unfold Tab Lib.TabIs World.var? at *
  cases hg : Tryd.prog.globalNamed "internal/strconv.uint64pow10" with
  | none => simp [hg] at h
  | some g =>
    simp only [hg, Option.bind_some] at h ⊢
    have hlt : g < w.heap.size := by
      rcases Nat.lt_or_ge g w.heap.size with h' | h'
      · exact h'
      · rw [Array.getElem?_eq_none h'] at h; simp at h
    rw [hb.block g hlt]
    exact h

/-- What Decimal's loop keeps: the number's digits are those of what is left, and the text. -/
def DecI (V x0 x1 x2 : Int) (T : List UInt8) : Prop := Wd x0 ∧ Wd x1 ∧ Wd x2 ∧ Lib.decDigits V.toNat = Lib.decDigits (val x0 x1 x2).toNat ++ T

attribute [local go_sem] eq24 guard24
set_option maxHeartbeats 2000000 in
set_option maxRecDepth 100000 in
theorem dec_any (a0 a1 a2 : Int) (ha0 : Wd a0) (ha1 : Wd a1) (ha2 : Wd a2) (w : World) (htab : Tab w) :
    Calls Tryd.prog 31 #[.agg #[.int .u64 a0, .int .u64 a1, .int .u64 a2]] w fun e w' => e = .returned (.string ⟨(Lib.decDigits (val a0 a1 a2).toNat).toArray⟩) ∧ Below w.heap.size w w' := by
  have HT : Hid (Tab w) := htab
  clear htab
  go_enter Tryd.func31, Tryd.ntmps31
  go_wp2_with fail
  go_loopg [3] (val a0 a1 a2).toNat (fun k t wr => ∃ (x0 x1 x2 : Int) (T : List UInt8), t = .string ⟨T.toArray⟩ ∧ k = (val x0 x1 x2).toNat ∧ DecI (val a0 a1 a2) x0 x1 x2 T
    ∧ wr.cell? ⟨w.heap.size, 0, none⟩ = some (.int .u64 x0) ∧ wr.cell? ⟨w.heap.size, 1, none⟩ = some (.int .u64 x1) ∧ wr.cell? ⟨w.heap.size, 2, none⟩ = some (.int .u64 x2)
    ∧ wr.frozen? ⟨w.heap.size, 0, none⟩ = false ∧ wr.frozen? ⟨w.heap.size, 1, none⟩ = false ∧ wr.frozen? ⟨w.heap.size, 2, none⟩ = false ∧ w.heap.size < wr.heap.size ∧ Below w.heap.size w wr)
  case atStart =>
    refine ⟨a0, a1, a2, [], rfl, rfl, ⟨ha0, ha1, ha2, by simp⟩, by simp [go_sem], by simp [go_sem], by simp [go_sem], by simp [go_sem], by simp [go_sem], by simp [go_sem], by simp, (by repeat' (first | with_reducible exact Below.refl _ _ | with_reducible refine Below.drew ?_ | with_reducible refine below_drewN ?_ _ | with_reducible refine Below.setCell ?_ ?_ _ | with_reducible refine Below.alloc ?_ ?_ _ | omega | (simp; done) | (simp; omega)))⟩
  case round =>
    obtain ⟨x0, x1, x2, T, rfl, hk, hI, g0, g1, g2, f0, f1, f2, hlt, hb⟩ := hrel
    have HK : Hid (gk = (val x0 x1 x2).toNat) := hk
    clear hk
    go_wp2_with fail
    refine (divide_any x0 x1 x2 10000000000000000000 hI.1 hI.2.1 hI.2.2.1 ⟨by omega, by omega⟩ (by omega) _).mono ?_
    rintro e w1 ⟨q0, q1, q2, r, rfl, hD, hb1⟩
    obtain ⟨hc, hf⟩ := bcell hb1
    have hz1 := hb1.size
    obtain ⟨rn, rfl⟩ := Int.eq_ofNat_of_zero_le hD.2.2.2.1
    have hB1 : Below w.heap.size w (w1.alloc (.cells #[.int .u64 q0, .int .u64 q1, .int .u64 q2] 24)) := (hb.trans (hb1.mono (by omega))).alloc (by omega) _
    have hr64 : rn < 18446744073709551616 := by have := hD.2.2.2.2.1; omega
    go_wp2_with fail
    refine (fmt_any rn hr64 _ (tab_below HT.out hB1)).mono ?_
    rintro e w2 ⟨rfl, hb2⟩
    obtain ⟨hc2, hf2⟩ := bcell hb2
    have hz2 := hb2.size
    have hTl : T.length ≤ 58 := by
      have h1 := congrArg List.length hI.2.2.2
      rw [List.length_append, Lib.decDigits_length] at h1
      have h2 := Plain.nDigits_le 58 (val a0 a1 a2).toNat (by omega) (by obtain ⟨_, _⟩ := ha0; obtain ⟨_, _⟩ := ha1; obtain ⟨_, _⟩ := ha2; unfold val; omega)
      omega
    have hrl : (Lib.decDigits rn).length ≤ 19 := by
      rw [Lib.decDigits_length]
      exact Plain.nDigits_le 19 rn (by omega) (by have := hD.2.2.2.2.1; omega)
    by_cases hq : q0 = 0 ∧ q1 = 0 ∧ q2 = 0
    · obtain ⟨rfl, rfl, rfl⟩ := hq
      go_wp2
      rw [Plain.bytes_append]
      go_ret
      refine ⟨?_, hB1.trans (hb2.mono (by simp; omega))⟩
      have e : val x0 x1 x2 = (rn : Int) := by have := hD.2.2.2.2.2; unfold val at *; omega
      show Ending.returned (.string ⟨(Lib.decDigits rn ++ T).toArray⟩) = _
      rw [hI.2.2.2, e, Int.toNat_natCast]
    · have hne : (q0 == 0 && (q1 == 0 && q2 == 0)) = false := by
        simp only [Bool.and_eq_false_iff, beq_eq_false_iff_ne]
        omega
      go_wp2_with fail
      rw [show (19 - ((Lib.decDigits rn).length : Int)) = ((19 - (Lib.decDigits rn).length : Nat) : Int) from by omega]
      refine (Tryd.strings_Repeat ⟨#[48]⟩ (19 - (Lib.decDigits rn).length) _ (by omega) (by show 1 * _ ≤ _; omega)).mono ?_
      rintro e w3 ⟨rfl, hb3⟩
      obtain ⟨Z, hZ⟩ : ∃ Z, Lib.repeatL [48] (19 - (Lib.decDigits rn).length) = Z := ⟨_, rfl⟩
      have hZl : Z.length ≤ 19 := by rw [← hZ, Lib.repeatL_length]; simp
      have HZ : Hid (Lib.repeatL [48] (19 - (Lib.decDigits rn).length) = Z) := hZ
      rw [show (Lib.repeatL (ByteArray.mk #[48]).data.toList (19 - (Lib.decDigits rn).length)) = Z from hZ]
      clear hZ
      have hz3 := hb3.size
      have hz2' : w1.heap.size + 1 ≤ w2.heap.size := by simpa using hz2
      have hA : Below wr.heap.size wr w3 := (((hb1.alloc hz1 _).trans (hb2.mono (by simp; omega)))).trans (hb3.mono (by omega))
      have k0 : w3.cell? ⟨w1.heap.size, 0, none⟩ = some (.int .u64 q0) := by rw [hb3.cell (by show w1.heap.size < w2.heap.size; omega), hc2 _ _ (by simp)]; simp [go_sem]
      have k1 : w3.cell? ⟨w1.heap.size, 1, none⟩ = some (.int .u64 q1) := by rw [hb3.cell (by show w1.heap.size < w2.heap.size; omega), hc2 _ _ (by simp)]; simp [go_sem]
      have k2 : w3.cell? ⟨w1.heap.size, 2, none⟩ = some (.int .u64 q2) := by rw [hb3.cell (by show w1.heap.size < w2.heap.size; omega), hc2 _ _ (by simp)]; simp [go_sem]
      have g0' : w3.cell? ⟨w.heap.size, 0, none⟩ = some (.int .u64 x0) := by rw [hA.cell hlt]; exact g0
      have g1' : w3.cell? ⟨w.heap.size, 1, none⟩ = some (.int .u64 x1) := by rw [hA.cell hlt]; exact g1
      have g2' : w3.cell? ⟨w.heap.size, 2, none⟩ = some (.int .u64 x2) := by rw [hA.cell hlt]; exact g2
      have f0' : w3.frozen? ⟨w.heap.size, 0, none⟩ = false := by rw [hA.frozen hlt]; exact f0
      have f1' : w3.frozen? ⟨w.heap.size, 1, none⟩ = false := by rw [hA.frozen hlt]; exact f1
      have f2' : w3.frozen? ⟨w.heap.size, 2, none⟩ = false := by rw [hA.frozen hlt]; exact f2
      have hs3 : w.heap.size < w3.heap.size := by omega
      have hB3 : Below w.heap.size w w3 := hb.trans (hA.mono (by omega))
      clear hc2 hf2 g0 g1 g2 f0 f1 f2 hc hf
      have hvq : 1 ≤ val q0 q1 q2 := by
        obtain ⟨⟨_, _⟩, ⟨_, _⟩, ⟨_, _⟩, _⟩ := hD
        unfold val
        omega
      have hvx : val x0 x1 x2 = val q0 q1 q2 * 10000000000000000000 + rn := hD.2.2.2.2.2
      have hrlt : (rn : Int) < 10000000000000000000 := hD.2.2.2.2.1
      have hstep := (Plain.dec_step (val x0 x1 x2).toNat (val q0 q1 q2).toNat rn (by omega) (by omega) (by omega)).1
      have hI' : DecI (val a0 a1 a2) q0 q1 q2 (Z ++ Lib.decDigits rn ++ T) := by
        refine ⟨hD.1, hD.2.1, hD.2.2.1, ?_⟩
        rw [hI.2.2.2, hstep, ← HZ.out, Lib.decDigits_length]
        simp only [List.append_assoc]
      have HM : Hid ((val q0 q1 q2).toNat < gk) := by rw [HK.out]; show _ < _; omega
      clear hvq hvx hrlt hstep hD
      go_wp2_with fail
      rw [Plain.bytes_append, Plain.bytes_append]
      go_roundg (val q0 q1 q2).toNat
      case measure => exact HM.out
      case rel =>
        exact ⟨q0, q1, q2, Z ++ Lib.decDigits rn ++ T, rfl, rfl, hI', by simp [go_sem, g0'], by simp [go_sem, g1'], by simp [go_sem, g2'], by simp [go_sem, f0'], by simp [go_sem, f1'], by simp [go_sem, f2'], by simpa using hs3,
          ((hB3.setCell (Nat.le_refl _) _).setCell (Nat.le_refl _) _).setCell (Nat.le_refl _) _⟩
end Go.Proofs.YtlgadaojekcjeaaDoor

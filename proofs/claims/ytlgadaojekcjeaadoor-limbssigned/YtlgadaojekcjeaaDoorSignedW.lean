/-
  The walk of the statement LimbsSigned.
-/
import Derived.Test.YtlgadaojekcjeaaDoorAlive
import Derived.Test.YtlgadaojekcjeaaDoorInts
import Derived.Lib.QuietBelow
import Derived.BigQuiet
namespace Go.Proofs.YtlgadaojekcjeaaDoor
open Go.RowKit

theorem int_of (n : Int) (h : Sg n) : intN (ofLo n) (ofSg n) (ofSg n) = n ∧ intB (ofLo n) (ofSg n) (ofSg n) = true := by
  have e : wrap64 (ofLo n) = n := by
    obtain ⟨h0, h1⟩ := h
    rw [ofLo_eq]
    simp only [wrap64]
    omega
  constructor
  · unfold intN; rw [e, if_pos ⟨rfl, rfl⟩]
  · unfold intB; rw [e]; simp

theorem sum_int (n m z0 z1 z2 : Int) (zc : Bool) (kn : Sg n) (km : Sg m) (h : AddR (ofLo n) (ofSg n) (ofSg n) (ofLo m) (ofSg m) (ofSg m) z0 z1 z2 zc) :
    (Sg (n + m) → intN z0 z1 z2 = n + m ∧ intB z0 z1 z2 = true) ∧ (¬ Sg (n + m) → intN z0 z1 z2 = 0 ∧ intB z0 z1 z2 = false) := by
  have hz : z0 = (n + m) % 18446744073709551616 ∧ z1 = z2 ∧ z1 = if n + m < 0 then 18446744073709551615 else 0 := by
    obtain ⟨k, e⟩ := h.mod
    obtain ⟨⟨_, _⟩, ⟨_, _⟩, ⟨_, _⟩, _⟩ := h
    rw [ofLo_eq, ofLo_eq, ofSg_eq n kn, ofSg_eq m km] at e
    obtain ⟨_, _⟩ := kn
    obtain ⟨_, _⟩ := km
    unfold val at e
    split at e <;> split at e <;> split <;> omega
  have hw := sg_wrap z0
  have hg := ofSg_eq (wrap64 z0) hw
  obtain ⟨h0, h1, h2⟩ := hz
  obtain ⟨_, _⟩ := kn
  obtain ⟨_, _⟩ := km
  constructor
  · intro ht
    obtain ⟨t0, t1⟩ := ht
    have e : wrap64 z0 = n + m := by simp only [wrap64]; omega
    rw [e] at hg
    have hp : ofSg (wrap64 z0) = z1 ∧ z1 = z2 := ⟨by rw [e, hg, h2], h1⟩
    exact ⟨by unfold intN; rw [if_pos hp, e], decide_eq_true hp⟩
  · intro ht
    have hn : ¬ (ofSg (wrap64 z0) = z1 ∧ z1 = z2) := by
      rw [hg, h2]
      simp only [wrap64, Sg] at *
      intro hh
      have := hh.1
      split at this <;> split at this <;> omega
    exact ⟨by unfold intN; rw [if_neg hn], decide_eq_false hn⟩

theorem int_true (a0 a1 a2 : Int) (h0 : Wd a0) (h : intB a0 a1 a2 = true) : ∃ x, intN a0 a1 a2 = x ∧ (ofLo x == a0) = true ∧ (ofSg x == a1) = true ∧ a1 = a2 ∧ ((a0 < 9223372036854775808 → a1 = 0) ∧ (9223372036854775808 ≤ a0 → a1 = 18446744073709551615)) := by
  have hp : ofSg (wrap64 a0) = a1 ∧ a1 = a2 := of_decide_eq_true h
  refine ⟨wrap64 a0, by unfold intN; rw [if_pos hp], by rw [ofLo_wrap a0 h0]; simp, by rw [hp.1]; simp, hp.2, ?_⟩
  have e := hp.1
  rw [ofSg_eq _ (sg_wrap a0)] at e
  obtain ⟨_, _⟩ := h0
  simp only [wrap64] at e
  split at e <;> constructor <;> intro hh <;> omega

theorem int_false (a0 a1 a2 : Int) (h0 : Wd a0) (h : intB a0 a1 a2 = false) : intN a0 a1 a2 = 0 ∧ (¬ a1 = a2 ∨ (a1 = 0 ∧ a2 = 0 ∧ 9223372036854775808 ≤ a0) ∨ (a1 = 18446744073709551615 ∧ a2 = 18446744073709551615 ∧ a0 < 9223372036854775808) ∨ (a1 = a2 ∧ ¬ a1 = 0 ∧ ¬ a1 = 18446744073709551615)) := by
  have hn : ¬ (ofSg (wrap64 a0) = a1 ∧ a1 = a2) := of_decide_eq_false h
  refine ⟨by unfold intN; rw [if_neg hn], ?_⟩
  rw [ofSg_eq _ (sg_wrap a0)] at hn
  obtain ⟨_, _⟩ := h0
  simp only [wrap64] at hn
  split at hn <;> omega

attribute [local go_sem] eq24 guard24
set_option maxHeartbeats 4000000 in
set_option maxRecDepth 100000 in
theorem signed_walk (n m a0 a1 a2 : Int) (kn : Sg n) (km : Sg m) (ka0 : Wd a0) (ka1 : Wd a1) (ka2 : Wd a2) (w : World) (htab : Tab w) :
    Calls Tryd.prog 7 #[.int .i64 n, .int .i64 m, .agg #[.int .u64 a0, .int .u64 a1, .int .u64 a2]] w fun e w' => e = .returned (.bool true) ∧ Below w.heap.size w w' := by
  have HT : Hid (Tab w) := htab
  clear htab
  go_enter Tryd.func7, Tryd.ntmps7
  go_wp2_with fail
  refine (alive_any _ (by exact tab_below HT.out (by repeat' (first | with_reducible exact Below.refl _ _ | with_reducible refine Below.drew ?_ | with_reducible refine below_drewN ?_ _ | with_reducible refine Below.setCell ?_ ?_ _ | with_reducible refine Below.alloc ?_ ?_ _ | omega | (simp; done) | (simp; omega))))).mono ?_
  rintro e w1 ⟨rfl, hb1⟩
  have hA1 : Below w.heap.size w w1 := (by repeat' (first | with_reducible exact Below.refl _ _ | with_reducible refine Below.drew ?_ | with_reducible refine below_drewN ?_ _ | with_reducible refine Below.setCell ?_ ?_ _ | with_reducible refine Below.alloc ?_ ?_ _ | with_reducible refine Below.trans ?_ (hb1.mono ?_) | omega | (simp; done) | (simp; omega)))
  have hz1 : w.heap.size + 1 ≤ w1.heap.size := by simpa using hb1.size
  have s1_a : w.heap.size < w1.heap.size := by omega
  have c1_a_0 : w1.cell? ⟨w.heap.size, 0, none⟩ = some (.int .u64 a0) := (hb1.cell (p := ⟨w.heap.size, 0, none⟩) (by first | (simp; done) | (simp; omega))).trans (by simp [go_sem])
  have c1_a_1 : w1.cell? ⟨w.heap.size, 1, none⟩ = some (.int .u64 a1) := (hb1.cell (p := ⟨w.heap.size, 1, none⟩) (by first | (simp; done) | (simp; omega))).trans (by simp [go_sem])
  have c1_a_2 : w1.cell? ⟨w.heap.size, 2, none⟩ = some (.int .u64 a2) := (hb1.cell (p := ⟨w.heap.size, 2, none⟩) (by first | (simp; done) | (simp; omega))).trans (by simp [go_sem])
  go_wp2_with fail
  refine (of_any n _).mono ?_
  rintro e w2 ⟨rfl, hb2⟩
  have hA2 : Below w1.heap.size w1 w2 := (by repeat' (first | with_reducible exact Below.refl _ _ | with_reducible refine Below.drew ?_ | with_reducible refine below_drewN ?_ _ | with_reducible refine Below.setCell ?_ ?_ _ | with_reducible refine Below.alloc ?_ ?_ _ | with_reducible refine Below.trans ?_ (hb2.mono ?_) | omega | (simp; done) | (simp; omega)))
  have hz2 : w1.heap.size + 0 ≤ w2.heap.size := by simpa using hb2.size
  have s2_a : w.heap.size < w2.heap.size := by omega
  have c2_a_0 : w2.cell? ⟨w.heap.size, 0, none⟩ = some (.int .u64 a0) := (hA2.cell (p := ⟨w.heap.size, 0, none⟩) s1_a).trans c1_a_0
  have c2_a_1 : w2.cell? ⟨w.heap.size, 1, none⟩ = some (.int .u64 a1) := (hA2.cell (p := ⟨w.heap.size, 1, none⟩) s1_a).trans c1_a_1
  have c2_a_2 : w2.cell? ⟨w.heap.size, 2, none⟩ = some (.int .u64 a2) := (hA2.cell (p := ⟨w.heap.size, 2, none⟩) s1_a).trans c1_a_2
  clear c1_a_0 c1_a_1 c1_a_2 s1_a
  go_wp2_with fail
  refine (int_any _ _ _ (ofLo_wd n) _).mono ?_
  rintro e w3 ⟨rfl, hb3⟩
  have hA3 : Below w2.heap.size w2 w3 := (by repeat' (first | with_reducible exact Below.refl _ _ | with_reducible refine Below.drew ?_ | with_reducible refine below_drewN ?_ _ | with_reducible refine Below.setCell ?_ ?_ _ | with_reducible refine Below.alloc ?_ ?_ _ | with_reducible refine Below.trans ?_ (hb3.mono ?_) | omega | (simp; done) | (simp; omega)))
  have hz3 : w2.heap.size + 0 ≤ w3.heap.size := by simpa using hb3.size
  have s3_a : w.heap.size < w3.heap.size := by omega
  have c3_a_0 : w3.cell? ⟨w.heap.size, 0, none⟩ = some (.int .u64 a0) := (hA3.cell (p := ⟨w.heap.size, 0, none⟩) s2_a).trans c2_a_0
  have c3_a_1 : w3.cell? ⟨w.heap.size, 1, none⟩ = some (.int .u64 a1) := (hA3.cell (p := ⟨w.heap.size, 1, none⟩) s2_a).trans c2_a_1
  have c3_a_2 : w3.cell? ⟨w.heap.size, 2, none⟩ = some (.int .u64 a2) := (hA3.cell (p := ⟨w.heap.size, 2, none⟩) s2_a).trans c2_a_2
  clear c2_a_0 c2_a_1 c2_a_2 s2_a
  rw [(int_of n kn).1, (int_of n kn).2]
  go_wp2_with fail
  refine (of_any n _).mono ?_
  rintro e w4 ⟨rfl, hb4⟩
  have hA4 : Below w3.heap.size w3 w4 := (by repeat' (first | with_reducible exact Below.refl _ _ | with_reducible refine Below.drew ?_ | with_reducible refine below_drewN ?_ _ | with_reducible refine Below.setCell ?_ ?_ _ | with_reducible refine Below.alloc ?_ ?_ _ | with_reducible refine Below.trans ?_ (hb4.mono ?_) | omega | (simp; done) | (simp; omega)))
  have hz4 : w3.heap.size + 0 ≤ w4.heap.size := by simpa using hb4.size
  have s4_a : w.heap.size < w4.heap.size := by omega
  have c4_a_0 : w4.cell? ⟨w.heap.size, 0, none⟩ = some (.int .u64 a0) := (hA4.cell (p := ⟨w.heap.size, 0, none⟩) s3_a).trans c3_a_0
  have c4_a_1 : w4.cell? ⟨w.heap.size, 1, none⟩ = some (.int .u64 a1) := (hA4.cell (p := ⟨w.heap.size, 1, none⟩) s3_a).trans c3_a_1
  have c4_a_2 : w4.cell? ⟨w.heap.size, 2, none⟩ = some (.int .u64 a2) := (hA4.cell (p := ⟨w.heap.size, 2, none⟩) s3_a).trans c3_a_2
  clear c3_a_0 c3_a_1 c3_a_2 s3_a
  go_wp2_with fail
  refine (of_any m _).mono ?_
  rintro e w5 ⟨rfl, hb5⟩
  have hA5 : Below w4.heap.size w4 w5 := (by repeat' (first | with_reducible exact Below.refl _ _ | with_reducible refine Below.drew ?_ | with_reducible refine below_drewN ?_ _ | with_reducible refine Below.setCell ?_ ?_ _ | with_reducible refine Below.alloc ?_ ?_ _ | with_reducible refine Below.trans ?_ (hb5.mono ?_) | omega | (simp; done) | (simp; omega)))
  have hz5 : w4.heap.size + 0 ≤ w5.heap.size := by simpa using hb5.size
  have s5_a : w.heap.size < w5.heap.size := by omega
  have c5_a_0 : w5.cell? ⟨w.heap.size, 0, none⟩ = some (.int .u64 a0) := (hA5.cell (p := ⟨w.heap.size, 0, none⟩) s4_a).trans c4_a_0
  have c5_a_1 : w5.cell? ⟨w.heap.size, 1, none⟩ = some (.int .u64 a1) := (hA5.cell (p := ⟨w.heap.size, 1, none⟩) s4_a).trans c4_a_1
  have c5_a_2 : w5.cell? ⟨w.heap.size, 2, none⟩ = some (.int .u64 a2) := (hA5.cell (p := ⟨w.heap.size, 2, none⟩) s4_a).trans c4_a_2
  clear c4_a_0 c4_a_1 c4_a_2 s4_a
  go_wp2_with fail
  refine (add_any _ _ _ _ _ _ (ofLo_wd n) (ofSg_wd n kn) (ofSg_wd n kn) (ofLo_wd m) (ofSg_wd m km) (ofSg_wd m km) _).mono ?_
  rintro e w6 ⟨z0, z1, z2, zc, rfl, hRz, hb6⟩
  have hA6 : Below w5.heap.size w5 w6 := (by repeat' (first | with_reducible exact Below.refl _ _ | with_reducible refine Below.drew ?_ | with_reducible refine below_drewN ?_ _ | with_reducible refine Below.setCell ?_ ?_ _ | with_reducible refine Below.alloc ?_ ?_ _ | with_reducible refine Below.trans ?_ (hb6.mono ?_) | omega | (simp; done) | (simp; omega)))
  have hz6 : w5.heap.size + 0 ≤ w6.heap.size := by simpa using hb6.size
  have s6_a : w.heap.size < w6.heap.size := by omega
  have c6_a_0 : w6.cell? ⟨w.heap.size, 0, none⟩ = some (.int .u64 a0) := (hA6.cell (p := ⟨w.heap.size, 0, none⟩) s5_a).trans c5_a_0
  have c6_a_1 : w6.cell? ⟨w.heap.size, 1, none⟩ = some (.int .u64 a1) := (hA6.cell (p := ⟨w.heap.size, 1, none⟩) s5_a).trans c5_a_1
  have c6_a_2 : w6.cell? ⟨w.heap.size, 2, none⟩ = some (.int .u64 a2) := (hA6.cell (p := ⟨w.heap.size, 2, none⟩) s5_a).trans c5_a_2
  clear c5_a_0 c5_a_1 c5_a_2 s5_a
  go_wp2_with fail
  refine (int_any z0 z1 z2 hRz.1 _).mono ?_
  rintro e w7 ⟨rfl, hb7⟩
  have hA7 : Below w6.heap.size w6 w7 := (by repeat' (first | with_reducible exact Below.refl _ _ | with_reducible refine Below.drew ?_ | with_reducible refine below_drewN ?_ _ | with_reducible refine Below.setCell ?_ ?_ _ | with_reducible refine Below.alloc ?_ ?_ _ | with_reducible refine Below.trans ?_ (hb7.mono ?_) | omega | (simp; done) | (simp; omega)))
  have hz7 : w6.heap.size + 1 ≤ w7.heap.size := by simpa using hb7.size
  have s7_a : w.heap.size < w7.heap.size := by omega
  have c7_a_0 : w7.cell? ⟨w.heap.size, 0, none⟩ = some (.int .u64 a0) := (hA7.cell (p := ⟨w.heap.size, 0, none⟩) s6_a).trans c6_a_0
  have c7_a_1 : w7.cell? ⟨w.heap.size, 1, none⟩ = some (.int .u64 a1) := (hA7.cell (p := ⟨w.heap.size, 1, none⟩) s6_a).trans c6_a_1
  have c7_a_2 : w7.cell? ⟨w.heap.size, 2, none⟩ = some (.int .u64 a2) := (hA7.cell (p := ⟨w.heap.size, 2, none⟩) s6_a).trans c6_a_2
  clear c6_a_0 c6_a_1 c6_a_2 s6_a
  have hS := sum_int n m z0 z1 z2 zc kn km hRz
  clear hRz
  obtain ⟨kn0, kn1⟩ := kn
  obtain ⟨km0, km1⟩ := km
  have hB7 : Below w.heap.size w w7 := ((((((hA1.trans (hA2.mono (by omega))).trans (hA3.mono (by omega))).trans (hA4.mono (by omega))).trans (hA5.mono (by omega))).trans (hA6.mono (by omega))).trans (hA7.mono (by omega)))
  clear hb1 hb2 hb3 hb4 hb5 hb6 hb7 hA1 hA2 hA3 hA4 hA5 hA6 hA7
  by_cases hn : n < 0
  · by_cases hm : m < 0
    · by_cases ht : -9223372036854775808 ≤ n + m
      · obtain ⟨e1, e2⟩ := hS.1 ⟨by omega, by omega⟩
        rw [e1, e2]
        clear hS e1 e2
        have dm : decide (0 ≤ m) = false := decide_eq_false (by omega)
        have ds : decide (n + m < 0) = true := decide_eq_true (by omega)
        have ws1 : wrap64 (IntKind.u64.wrap (IntKind.u64.wrap n + m)) = (n + m) := by simp only [wrap64, IntKind.wrap_u64]; omega
        have ws2 : wrap64 (IntKind.u64.wrap (n + IntKind.u64.wrap m)) = (n + m) := by simp only [wrap64, IntKind.wrap_u64]; omega
        have ws3 : wrap64 (n + m) = (n + m) := by simp only [wrap64]; omega
        have ws4 : wrap64 (IntKind.u64.wrap (IntKind.u64.wrap n + IntKind.u64.wrap m)) = (n + m) := by simp only [wrap64, IntKind.wrap_u64]; omega
        go_wp2_with fail
        clear dm ds ws1 ws2 ws3 ws4 kn0 kn1 km0 km1 hn hm
        refine (int_any a0 a1 a2 ka0 _).mono ?_
        rintro e w8 ⟨rfl, hb8⟩
        have c8_a_0 : w8.cell? ⟨w.heap.size, 0, none⟩ = some (.int .u64 a0) := (hb8.cell (p := ⟨w.heap.size, 0, none⟩) s7_a).trans c7_a_0
        have c8_a_1 : w8.cell? ⟨w.heap.size, 1, none⟩ = some (.int .u64 a1) := (hb8.cell (p := ⟨w.heap.size, 1, none⟩) s7_a).trans c7_a_1
        have c8_a_2 : w8.cell? ⟨w.heap.size, 2, none⟩ = some (.int .u64 a2) := (hb8.cell (p := ⟨w.heap.size, 2, none⟩) s7_a).trans c7_a_2
        have hB8 : Below w.heap.size w w8 := hB7.trans (hb8.mono hB7.size)
        clear c7_a_0 c7_a_1 c7_a_2 hb8 hB7 s7_a
        cases hB : intB a0 a1 a2
        · obtain ⟨hx, hq⟩ := int_false a0 a1 a2 ka0 hB
          rw [hx]
          clear hB hx
          rcases hq with h | ⟨rfl, rfl, h⟩ | ⟨rfl, rfl, h⟩ | ⟨rfl, h, h'⟩
          · have g1 : (a1 == a2) = false := by simp [h]
            clear h
            have k0 := cell_regrown c8_a_0
            have k1 := cell_regrown c8_a_1
            have k2 := cell_regrown c8_a_2
            go_wp2_with fail
            refine wp_region_quiet_below (by kernel_rfl) (by kernel_rfl) ?_
            repeat (go_big_quiet_step ((exact Calls.regrown_of (of_any _ _))))
            refine wpQuiet_nil ?_
            intro _ hw'
            obtain ⟨⟨dq, osq⟩, hw''⟩ := hw'
            subst hw''
            go_wp2
            go_ret
            exact ⟨rfl, hB8.trans ((below_regrown w8 dq osq).mono hB8.size)⟩
          · have g1 : decide (a0 < 9223372036854775808) = false := decide_eq_false (by omega)
            have k0 := cell_regrown c8_a_0
            have k1 := cell_regrown c8_a_1
            have k2 := cell_regrown c8_a_2
            go_wp2_with fail
            refine wp_region_quiet_below (by kernel_rfl) (by kernel_rfl) ?_
            repeat (go_big_quiet_step ((exact Calls.regrown_of (of_any _ _))))
            refine wpQuiet_nil ?_
            intro _ hw'
            obtain ⟨⟨dq, osq⟩, hw''⟩ := hw'
            subst hw''
            go_wp2
            go_ret
            exact ⟨rfl, hB8.trans ((below_regrown w8 dq osq).mono hB8.size)⟩
          · have g1 : decide (9223372036854775808 ≤ a0) = false := decide_eq_false (by omega)
            have k0 := cell_regrown c8_a_0
            have k1 := cell_regrown c8_a_1
            have k2 := cell_regrown c8_a_2
            go_wp2_with fail
            refine wp_region_quiet_below (by kernel_rfl) (by kernel_rfl) ?_
            repeat (go_big_quiet_step ((exact Calls.regrown_of (of_any _ _))))
            refine wpQuiet_nil ?_
            intro _ hw'
            obtain ⟨⟨dq, osq⟩, hw''⟩ := hw'
            subst hw''
            go_wp2
            go_ret
            exact ⟨rfl, hB8.trans ((below_regrown w8 dq osq).mono hB8.size)⟩
          · have g1 : (a1 == 0) = false := by simp [h]
            have g2 : (a1 == 18446744073709551615) = false := by simp [h']
            clear h h'
            have k0 := cell_regrown c8_a_0
            have k1 := cell_regrown c8_a_1
            have k2 := cell_regrown c8_a_2
            go_wp2_with fail
            refine wp_region_quiet_below (by kernel_rfl) (by kernel_rfl) ?_
            repeat (go_big_quiet_step ((exact Calls.regrown_of (of_any _ _))))
            refine wpQuiet_nil ?_
            intro _ hw'
            obtain ⟨⟨dq, osq⟩, hw''⟩ := hw'
            subst hw''
            go_wp2
            go_ret
            exact ⟨rfl, hB8.trans ((below_regrown w8 dq osq).mono hB8.size)⟩
        · obtain ⟨x, hx, hy, hp, rfl, hq⟩ := int_true a0 a1 a2 ka0 hB
          rw [hx]
          clear hB hx
          by_cases hD : a0 < 9223372036854775808
          · obtain rfl := hq.1 hD
            have hDd : decide (a0 < 9223372036854775808) = true := decide_eq_true hD
            clear hq
            have k0 := cell_regrown c8_a_0
            have k1 := cell_regrown c8_a_1
            have k2 := cell_regrown c8_a_2
            go_wp2_with fail
            refine wp_region_quiet_below (by kernel_rfl) (by kernel_rfl) ?_
            repeat (go_big_quiet_step ((exact Calls.regrown_of (of_any _ _))))
            refine wpQuiet_nil ?_
            intro _ hw'
            obtain ⟨⟨dq, osq⟩, hw''⟩ := hw'
            subst hw''
            go_wp2
            go_ret
            exact ⟨rfl, hB8.trans ((below_regrown w8 dq osq).mono hB8.size)⟩
          · obtain rfl := hq.2 (by omega)
            have hDd : decide (9223372036854775808 ≤ a0) = true := decide_eq_true (by omega)
            clear hq
            have k0 := cell_regrown c8_a_0
            have k1 := cell_regrown c8_a_1
            have k2 := cell_regrown c8_a_2
            go_wp2_with fail
            refine wp_region_quiet_below (by kernel_rfl) (by kernel_rfl) ?_
            repeat (go_big_quiet_step ((exact Calls.regrown_of (of_any _ _))))
            refine wpQuiet_nil ?_
            intro _ hw'
            obtain ⟨⟨dq, osq⟩, hw''⟩ := hw'
            subst hw''
            go_wp2
            go_ret
            exact ⟨rfl, hB8.trans ((below_regrown w8 dq osq).mono hB8.size)⟩
      · obtain ⟨e1, e2⟩ := hS.2 (fun hh => by obtain ⟨_, _⟩ := hh; omega)
        rw [e1, e2]
        clear hS e1 e2
        have ws1 : wrap64 (IntKind.u64.wrap (IntKind.u64.wrap n + m)) = (n + m + 18446744073709551616) := by simp only [wrap64, IntKind.wrap_u64]; omega
        have ws2 : wrap64 (IntKind.u64.wrap (n + IntKind.u64.wrap m)) = (n + m + 18446744073709551616) := by simp only [wrap64, IntKind.wrap_u64]; omega
        have ws3 : wrap64 (n + m) = (n + m + 18446744073709551616) := by simp only [wrap64]; omega
        have ws4 : wrap64 (IntKind.u64.wrap (IntKind.u64.wrap n + IntKind.u64.wrap m)) = (n + m + 18446744073709551616) := by simp only [wrap64, IntKind.wrap_u64]; omega
        go_wp2_with fail
        clear ws1 ws2 ws3 ws4 kn0 kn1 km0 km1 hn hm
        refine (int_any a0 a1 a2 ka0 _).mono ?_
        rintro e w8 ⟨rfl, hb8⟩
        have c8_a_0 : w8.cell? ⟨w.heap.size, 0, none⟩ = some (.int .u64 a0) := (hb8.cell (p := ⟨w.heap.size, 0, none⟩) s7_a).trans c7_a_0
        have c8_a_1 : w8.cell? ⟨w.heap.size, 1, none⟩ = some (.int .u64 a1) := (hb8.cell (p := ⟨w.heap.size, 1, none⟩) s7_a).trans c7_a_1
        have c8_a_2 : w8.cell? ⟨w.heap.size, 2, none⟩ = some (.int .u64 a2) := (hb8.cell (p := ⟨w.heap.size, 2, none⟩) s7_a).trans c7_a_2
        have hB8 : Below w.heap.size w w8 := hB7.trans (hb8.mono hB7.size)
        clear c7_a_0 c7_a_1 c7_a_2 hb8 hB7 s7_a
        cases hB : intB a0 a1 a2
        · obtain ⟨hx, hq⟩ := int_false a0 a1 a2 ka0 hB
          rw [hx]
          clear hB hx
          rcases hq with h | ⟨rfl, rfl, h⟩ | ⟨rfl, rfl, h⟩ | ⟨rfl, h, h'⟩
          · have g1 : (a1 == a2) = false := by simp [h]
            clear h
            have k0 := cell_regrown c8_a_0
            have k1 := cell_regrown c8_a_1
            have k2 := cell_regrown c8_a_2
            go_wp2_with fail
            refine wp_region_quiet_below (by kernel_rfl) (by kernel_rfl) ?_
            repeat (go_big_quiet_step ((exact Calls.regrown_of (of_any _ _))))
            refine wpQuiet_nil ?_
            intro _ hw'
            obtain ⟨⟨dq, osq⟩, hw''⟩ := hw'
            subst hw''
            go_wp2
            go_ret
            exact ⟨rfl, hB8.trans ((below_regrown w8 dq osq).mono hB8.size)⟩
          · have g1 : decide (a0 < 9223372036854775808) = false := decide_eq_false (by omega)
            have k0 := cell_regrown c8_a_0
            have k1 := cell_regrown c8_a_1
            have k2 := cell_regrown c8_a_2
            go_wp2_with fail
            refine wp_region_quiet_below (by kernel_rfl) (by kernel_rfl) ?_
            repeat (go_big_quiet_step ((exact Calls.regrown_of (of_any _ _))))
            refine wpQuiet_nil ?_
            intro _ hw'
            obtain ⟨⟨dq, osq⟩, hw''⟩ := hw'
            subst hw''
            go_wp2
            go_ret
            exact ⟨rfl, hB8.trans ((below_regrown w8 dq osq).mono hB8.size)⟩
          · have g1 : decide (9223372036854775808 ≤ a0) = false := decide_eq_false (by omega)
            have k0 := cell_regrown c8_a_0
            have k1 := cell_regrown c8_a_1
            have k2 := cell_regrown c8_a_2
            go_wp2_with fail
            refine wp_region_quiet_below (by kernel_rfl) (by kernel_rfl) ?_
            repeat (go_big_quiet_step ((exact Calls.regrown_of (of_any _ _))))
            refine wpQuiet_nil ?_
            intro _ hw'
            obtain ⟨⟨dq, osq⟩, hw''⟩ := hw'
            subst hw''
            go_wp2
            go_ret
            exact ⟨rfl, hB8.trans ((below_regrown w8 dq osq).mono hB8.size)⟩
          · have g1 : (a1 == 0) = false := by simp [h]
            have g2 : (a1 == 18446744073709551615) = false := by simp [h']
            clear h h'
            have k0 := cell_regrown c8_a_0
            have k1 := cell_regrown c8_a_1
            have k2 := cell_regrown c8_a_2
            go_wp2_with fail
            refine wp_region_quiet_below (by kernel_rfl) (by kernel_rfl) ?_
            repeat (go_big_quiet_step ((exact Calls.regrown_of (of_any _ _))))
            refine wpQuiet_nil ?_
            intro _ hw'
            obtain ⟨⟨dq, osq⟩, hw''⟩ := hw'
            subst hw''
            go_wp2
            go_ret
            exact ⟨rfl, hB8.trans ((below_regrown w8 dq osq).mono hB8.size)⟩
        · obtain ⟨x, hx, hy, hp, rfl, hq⟩ := int_true a0 a1 a2 ka0 hB
          rw [hx]
          clear hB hx
          by_cases hD : a0 < 9223372036854775808
          · obtain rfl := hq.1 hD
            have hDd : decide (a0 < 9223372036854775808) = true := decide_eq_true hD
            clear hq
            have k0 := cell_regrown c8_a_0
            have k1 := cell_regrown c8_a_1
            have k2 := cell_regrown c8_a_2
            go_wp2_with fail
            refine wp_region_quiet_below (by kernel_rfl) (by kernel_rfl) ?_
            repeat (go_big_quiet_step ((exact Calls.regrown_of (of_any _ _))))
            refine wpQuiet_nil ?_
            intro _ hw'
            obtain ⟨⟨dq, osq⟩, hw''⟩ := hw'
            subst hw''
            go_wp2
            go_ret
            exact ⟨rfl, hB8.trans ((below_regrown w8 dq osq).mono hB8.size)⟩
          · obtain rfl := hq.2 (by omega)
            have hDd : decide (9223372036854775808 ≤ a0) = true := decide_eq_true (by omega)
            clear hq
            have k0 := cell_regrown c8_a_0
            have k1 := cell_regrown c8_a_1
            have k2 := cell_regrown c8_a_2
            go_wp2_with fail
            refine wp_region_quiet_below (by kernel_rfl) (by kernel_rfl) ?_
            repeat (go_big_quiet_step ((exact Calls.regrown_of (of_any _ _))))
            refine wpQuiet_nil ?_
            intro _ hw'
            obtain ⟨⟨dq, osq⟩, hw''⟩ := hw'
            subst hw''
            go_wp2
            go_ret
            exact ⟨rfl, hB8.trans ((below_regrown w8 dq osq).mono hB8.size)⟩
    · obtain ⟨e1, e2⟩ := hS.1 ⟨by omega, by omega⟩
      rw [e1, e2]
      clear hS e1 e2
      have ws1 : wrap64 (IntKind.u64.wrap (IntKind.u64.wrap n + m)) = (n + m) := by simp only [wrap64, IntKind.wrap_u64]; omega
      have ws2 : wrap64 (IntKind.u64.wrap (n + IntKind.u64.wrap m)) = (n + m) := by simp only [wrap64, IntKind.wrap_u64]; omega
      have ws3 : wrap64 (n + m) = (n + m) := by simp only [wrap64]; omega
      have ws4 : wrap64 (IntKind.u64.wrap (IntKind.u64.wrap n + IntKind.u64.wrap m)) = (n + m) := by simp only [wrap64, IntKind.wrap_u64]; omega
      go_wp2_with fail
      clear ws1 ws2 ws3 ws4 kn0 kn1 km0 km1 hn hm
      refine (int_any a0 a1 a2 ka0 _).mono ?_
      rintro e w8 ⟨rfl, hb8⟩
      have c8_a_0 : w8.cell? ⟨w.heap.size, 0, none⟩ = some (.int .u64 a0) := (hb8.cell (p := ⟨w.heap.size, 0, none⟩) s7_a).trans c7_a_0
      have c8_a_1 : w8.cell? ⟨w.heap.size, 1, none⟩ = some (.int .u64 a1) := (hb8.cell (p := ⟨w.heap.size, 1, none⟩) s7_a).trans c7_a_1
      have c8_a_2 : w8.cell? ⟨w.heap.size, 2, none⟩ = some (.int .u64 a2) := (hb8.cell (p := ⟨w.heap.size, 2, none⟩) s7_a).trans c7_a_2
      have hB8 : Below w.heap.size w w8 := hB7.trans (hb8.mono hB7.size)
      clear c7_a_0 c7_a_1 c7_a_2 hb8 hB7 s7_a
      cases hB : intB a0 a1 a2
      · obtain ⟨hx, hq⟩ := int_false a0 a1 a2 ka0 hB
        rw [hx]
        clear hB hx
        rcases hq with h | ⟨rfl, rfl, h⟩ | ⟨rfl, rfl, h⟩ | ⟨rfl, h, h'⟩
        · have g1 : (a1 == a2) = false := by simp [h]
          clear h
          have k0 := cell_regrown c8_a_0
          have k1 := cell_regrown c8_a_1
          have k2 := cell_regrown c8_a_2
          go_wp2_with fail
          refine wp_region_quiet_below (by kernel_rfl) (by kernel_rfl) ?_
          repeat (go_big_quiet_step ((exact Calls.regrown_of (of_any _ _))))
          refine wpQuiet_nil ?_
          intro _ hw'
          obtain ⟨⟨dq, osq⟩, hw''⟩ := hw'
          subst hw''
          go_wp2
          go_ret
          exact ⟨rfl, hB8.trans ((below_regrown w8 dq osq).mono hB8.size)⟩
        · have g1 : decide (a0 < 9223372036854775808) = false := decide_eq_false (by omega)
          have k0 := cell_regrown c8_a_0
          have k1 := cell_regrown c8_a_1
          have k2 := cell_regrown c8_a_2
          go_wp2_with fail
          refine wp_region_quiet_below (by kernel_rfl) (by kernel_rfl) ?_
          repeat (go_big_quiet_step ((exact Calls.regrown_of (of_any _ _))))
          refine wpQuiet_nil ?_
          intro _ hw'
          obtain ⟨⟨dq, osq⟩, hw''⟩ := hw'
          subst hw''
          go_wp2
          go_ret
          exact ⟨rfl, hB8.trans ((below_regrown w8 dq osq).mono hB8.size)⟩
        · have g1 : decide (9223372036854775808 ≤ a0) = false := decide_eq_false (by omega)
          have k0 := cell_regrown c8_a_0
          have k1 := cell_regrown c8_a_1
          have k2 := cell_regrown c8_a_2
          go_wp2_with fail
          refine wp_region_quiet_below (by kernel_rfl) (by kernel_rfl) ?_
          repeat (go_big_quiet_step ((exact Calls.regrown_of (of_any _ _))))
          refine wpQuiet_nil ?_
          intro _ hw'
          obtain ⟨⟨dq, osq⟩, hw''⟩ := hw'
          subst hw''
          go_wp2
          go_ret
          exact ⟨rfl, hB8.trans ((below_regrown w8 dq osq).mono hB8.size)⟩
        · have g1 : (a1 == 0) = false := by simp [h]
          have g2 : (a1 == 18446744073709551615) = false := by simp [h']
          clear h h'
          have k0 := cell_regrown c8_a_0
          have k1 := cell_regrown c8_a_1
          have k2 := cell_regrown c8_a_2
          go_wp2_with fail
          refine wp_region_quiet_below (by kernel_rfl) (by kernel_rfl) ?_
          repeat (go_big_quiet_step ((exact Calls.regrown_of (of_any _ _))))
          refine wpQuiet_nil ?_
          intro _ hw'
          obtain ⟨⟨dq, osq⟩, hw''⟩ := hw'
          subst hw''
          go_wp2
          go_ret
          exact ⟨rfl, hB8.trans ((below_regrown w8 dq osq).mono hB8.size)⟩
      · obtain ⟨x, hx, hy, hp, rfl, hq⟩ := int_true a0 a1 a2 ka0 hB
        rw [hx]
        clear hB hx
        by_cases hD : a0 < 9223372036854775808
        · obtain rfl := hq.1 hD
          have hDd : decide (a0 < 9223372036854775808) = true := decide_eq_true hD
          clear hq
          have k0 := cell_regrown c8_a_0
          have k1 := cell_regrown c8_a_1
          have k2 := cell_regrown c8_a_2
          go_wp2_with fail
          refine wp_region_quiet_below (by kernel_rfl) (by kernel_rfl) ?_
          repeat (go_big_quiet_step ((exact Calls.regrown_of (of_any _ _))))
          refine wpQuiet_nil ?_
          intro _ hw'
          obtain ⟨⟨dq, osq⟩, hw''⟩ := hw'
          subst hw''
          go_wp2
          go_ret
          exact ⟨rfl, hB8.trans ((below_regrown w8 dq osq).mono hB8.size)⟩
        · obtain rfl := hq.2 (by omega)
          have hDd : decide (9223372036854775808 ≤ a0) = true := decide_eq_true (by omega)
          clear hq
          have k0 := cell_regrown c8_a_0
          have k1 := cell_regrown c8_a_1
          have k2 := cell_regrown c8_a_2
          go_wp2_with fail
          refine wp_region_quiet_below (by kernel_rfl) (by kernel_rfl) ?_
          repeat (go_big_quiet_step ((exact Calls.regrown_of (of_any _ _))))
          refine wpQuiet_nil ?_
          intro _ hw'
          obtain ⟨⟨dq, osq⟩, hw''⟩ := hw'
          subst hw''
          go_wp2
          go_ret
          exact ⟨rfl, hB8.trans ((below_regrown w8 dq osq).mono hB8.size)⟩
  · by_cases hm : m < 0
    · obtain ⟨e1, e2⟩ := hS.1 ⟨by omega, by omega⟩
      rw [e1, e2]
      clear hS e1 e2
      have ws1 : wrap64 (IntKind.u64.wrap (IntKind.u64.wrap n + m)) = (n + m) := by simp only [wrap64, IntKind.wrap_u64]; omega
      have ws2 : wrap64 (IntKind.u64.wrap (n + IntKind.u64.wrap m)) = (n + m) := by simp only [wrap64, IntKind.wrap_u64]; omega
      have ws3 : wrap64 (n + m) = (n + m) := by simp only [wrap64]; omega
      have ws4 : wrap64 (IntKind.u64.wrap (IntKind.u64.wrap n + IntKind.u64.wrap m)) = (n + m) := by simp only [wrap64, IntKind.wrap_u64]; omega
      go_wp2_with fail
      clear ws1 ws2 ws3 ws4 kn0 kn1 km0 km1 hn hm
      refine (int_any a0 a1 a2 ka0 _).mono ?_
      rintro e w8 ⟨rfl, hb8⟩
      have c8_a_0 : w8.cell? ⟨w.heap.size, 0, none⟩ = some (.int .u64 a0) := (hb8.cell (p := ⟨w.heap.size, 0, none⟩) s7_a).trans c7_a_0
      have c8_a_1 : w8.cell? ⟨w.heap.size, 1, none⟩ = some (.int .u64 a1) := (hb8.cell (p := ⟨w.heap.size, 1, none⟩) s7_a).trans c7_a_1
      have c8_a_2 : w8.cell? ⟨w.heap.size, 2, none⟩ = some (.int .u64 a2) := (hb8.cell (p := ⟨w.heap.size, 2, none⟩) s7_a).trans c7_a_2
      have hB8 : Below w.heap.size w w8 := hB7.trans (hb8.mono hB7.size)
      clear c7_a_0 c7_a_1 c7_a_2 hb8 hB7 s7_a
      cases hB : intB a0 a1 a2
      · obtain ⟨hx, hq⟩ := int_false a0 a1 a2 ka0 hB
        rw [hx]
        clear hB hx
        rcases hq with h | ⟨rfl, rfl, h⟩ | ⟨rfl, rfl, h⟩ | ⟨rfl, h, h'⟩
        · have g1 : (a1 == a2) = false := by simp [h]
          clear h
          have k0 := cell_regrown c8_a_0
          have k1 := cell_regrown c8_a_1
          have k2 := cell_regrown c8_a_2
          go_wp2_with fail
          refine wp_region_quiet_below (by kernel_rfl) (by kernel_rfl) ?_
          repeat (go_big_quiet_step ((exact Calls.regrown_of (of_any _ _))))
          refine wpQuiet_nil ?_
          intro _ hw'
          obtain ⟨⟨dq, osq⟩, hw''⟩ := hw'
          subst hw''
          go_wp2
          go_ret
          exact ⟨rfl, hB8.trans ((below_regrown w8 dq osq).mono hB8.size)⟩
        · have g1 : decide (a0 < 9223372036854775808) = false := decide_eq_false (by omega)
          have k0 := cell_regrown c8_a_0
          have k1 := cell_regrown c8_a_1
          have k2 := cell_regrown c8_a_2
          go_wp2_with fail
          refine wp_region_quiet_below (by kernel_rfl) (by kernel_rfl) ?_
          repeat (go_big_quiet_step ((exact Calls.regrown_of (of_any _ _))))
          refine wpQuiet_nil ?_
          intro _ hw'
          obtain ⟨⟨dq, osq⟩, hw''⟩ := hw'
          subst hw''
          go_wp2
          go_ret
          exact ⟨rfl, hB8.trans ((below_regrown w8 dq osq).mono hB8.size)⟩
        · have g1 : decide (9223372036854775808 ≤ a0) = false := decide_eq_false (by omega)
          have k0 := cell_regrown c8_a_0
          have k1 := cell_regrown c8_a_1
          have k2 := cell_regrown c8_a_2
          go_wp2_with fail
          refine wp_region_quiet_below (by kernel_rfl) (by kernel_rfl) ?_
          repeat (go_big_quiet_step ((exact Calls.regrown_of (of_any _ _))))
          refine wpQuiet_nil ?_
          intro _ hw'
          obtain ⟨⟨dq, osq⟩, hw''⟩ := hw'
          subst hw''
          go_wp2
          go_ret
          exact ⟨rfl, hB8.trans ((below_regrown w8 dq osq).mono hB8.size)⟩
        · have g1 : (a1 == 0) = false := by simp [h]
          have g2 : (a1 == 18446744073709551615) = false := by simp [h']
          clear h h'
          have k0 := cell_regrown c8_a_0
          have k1 := cell_regrown c8_a_1
          have k2 := cell_regrown c8_a_2
          go_wp2_with fail
          refine wp_region_quiet_below (by kernel_rfl) (by kernel_rfl) ?_
          repeat (go_big_quiet_step ((exact Calls.regrown_of (of_any _ _))))
          refine wpQuiet_nil ?_
          intro _ hw'
          obtain ⟨⟨dq, osq⟩, hw''⟩ := hw'
          subst hw''
          go_wp2
          go_ret
          exact ⟨rfl, hB8.trans ((below_regrown w8 dq osq).mono hB8.size)⟩
      · obtain ⟨x, hx, hy, hp, rfl, hq⟩ := int_true a0 a1 a2 ka0 hB
        rw [hx]
        clear hB hx
        by_cases hD : a0 < 9223372036854775808
        · obtain rfl := hq.1 hD
          have hDd : decide (a0 < 9223372036854775808) = true := decide_eq_true hD
          clear hq
          have k0 := cell_regrown c8_a_0
          have k1 := cell_regrown c8_a_1
          have k2 := cell_regrown c8_a_2
          go_wp2_with fail
          refine wp_region_quiet_below (by kernel_rfl) (by kernel_rfl) ?_
          repeat (go_big_quiet_step ((exact Calls.regrown_of (of_any _ _))))
          refine wpQuiet_nil ?_
          intro _ hw'
          obtain ⟨⟨dq, osq⟩, hw''⟩ := hw'
          subst hw''
          go_wp2
          go_ret
          exact ⟨rfl, hB8.trans ((below_regrown w8 dq osq).mono hB8.size)⟩
        · obtain rfl := hq.2 (by omega)
          have hDd : decide (9223372036854775808 ≤ a0) = true := decide_eq_true (by omega)
          clear hq
          have k0 := cell_regrown c8_a_0
          have k1 := cell_regrown c8_a_1
          have k2 := cell_regrown c8_a_2
          go_wp2_with fail
          refine wp_region_quiet_below (by kernel_rfl) (by kernel_rfl) ?_
          repeat (go_big_quiet_step ((exact Calls.regrown_of (of_any _ _))))
          refine wpQuiet_nil ?_
          intro _ hw'
          obtain ⟨⟨dq, osq⟩, hw''⟩ := hw'
          subst hw''
          go_wp2
          go_ret
          exact ⟨rfl, hB8.trans ((below_regrown w8 dq osq).mono hB8.size)⟩
    · by_cases ht : n + m < 9223372036854775808
      · obtain ⟨e1, e2⟩ := hS.1 ⟨by omega, by omega⟩
        rw [e1, e2]
        clear hS e1 e2
        have ws1 : wrap64 (IntKind.u64.wrap (IntKind.u64.wrap n + m)) = (n + m) := by simp only [wrap64, IntKind.wrap_u64]; omega
        have ws2 : wrap64 (IntKind.u64.wrap (n + IntKind.u64.wrap m)) = (n + m) := by simp only [wrap64, IntKind.wrap_u64]; omega
        have ws3 : wrap64 (n + m) = (n + m) := by simp only [wrap64]; omega
        have ws4 : wrap64 (IntKind.u64.wrap (IntKind.u64.wrap n + IntKind.u64.wrap m)) = (n + m) := by simp only [wrap64, IntKind.wrap_u64]; omega
        go_wp2_with fail
        clear ws1 ws2 ws3 ws4 kn0 kn1 km0 km1 hn hm
        refine (int_any a0 a1 a2 ka0 _).mono ?_
        rintro e w8 ⟨rfl, hb8⟩
        have c8_a_0 : w8.cell? ⟨w.heap.size, 0, none⟩ = some (.int .u64 a0) := (hb8.cell (p := ⟨w.heap.size, 0, none⟩) s7_a).trans c7_a_0
        have c8_a_1 : w8.cell? ⟨w.heap.size, 1, none⟩ = some (.int .u64 a1) := (hb8.cell (p := ⟨w.heap.size, 1, none⟩) s7_a).trans c7_a_1
        have c8_a_2 : w8.cell? ⟨w.heap.size, 2, none⟩ = some (.int .u64 a2) := (hb8.cell (p := ⟨w.heap.size, 2, none⟩) s7_a).trans c7_a_2
        have hB8 : Below w.heap.size w w8 := hB7.trans (hb8.mono hB7.size)
        clear c7_a_0 c7_a_1 c7_a_2 hb8 hB7 s7_a
        cases hB : intB a0 a1 a2
        · obtain ⟨hx, hq⟩ := int_false a0 a1 a2 ka0 hB
          rw [hx]
          clear hB hx
          rcases hq with h | ⟨rfl, rfl, h⟩ | ⟨rfl, rfl, h⟩ | ⟨rfl, h, h'⟩
          · have g1 : (a1 == a2) = false := by simp [h]
            clear h
            have k0 := cell_regrown c8_a_0
            have k1 := cell_regrown c8_a_1
            have k2 := cell_regrown c8_a_2
            go_wp2_with fail
            refine wp_region_quiet_below (by kernel_rfl) (by kernel_rfl) ?_
            repeat (go_big_quiet_step ((exact Calls.regrown_of (of_any _ _))))
            refine wpQuiet_nil ?_
            intro _ hw'
            obtain ⟨⟨dq, osq⟩, hw''⟩ := hw'
            subst hw''
            go_wp2
            go_ret
            exact ⟨rfl, hB8.trans ((below_regrown w8 dq osq).mono hB8.size)⟩
          · have g1 : decide (a0 < 9223372036854775808) = false := decide_eq_false (by omega)
            have k0 := cell_regrown c8_a_0
            have k1 := cell_regrown c8_a_1
            have k2 := cell_regrown c8_a_2
            go_wp2_with fail
            refine wp_region_quiet_below (by kernel_rfl) (by kernel_rfl) ?_
            repeat (go_big_quiet_step ((exact Calls.regrown_of (of_any _ _))))
            refine wpQuiet_nil ?_
            intro _ hw'
            obtain ⟨⟨dq, osq⟩, hw''⟩ := hw'
            subst hw''
            go_wp2
            go_ret
            exact ⟨rfl, hB8.trans ((below_regrown w8 dq osq).mono hB8.size)⟩
          · have g1 : decide (9223372036854775808 ≤ a0) = false := decide_eq_false (by omega)
            have k0 := cell_regrown c8_a_0
            have k1 := cell_regrown c8_a_1
            have k2 := cell_regrown c8_a_2
            go_wp2_with fail
            refine wp_region_quiet_below (by kernel_rfl) (by kernel_rfl) ?_
            repeat (go_big_quiet_step ((exact Calls.regrown_of (of_any _ _))))
            refine wpQuiet_nil ?_
            intro _ hw'
            obtain ⟨⟨dq, osq⟩, hw''⟩ := hw'
            subst hw''
            go_wp2
            go_ret
            exact ⟨rfl, hB8.trans ((below_regrown w8 dq osq).mono hB8.size)⟩
          · have g1 : (a1 == 0) = false := by simp [h]
            have g2 : (a1 == 18446744073709551615) = false := by simp [h']
            clear h h'
            have k0 := cell_regrown c8_a_0
            have k1 := cell_regrown c8_a_1
            have k2 := cell_regrown c8_a_2
            go_wp2_with fail
            refine wp_region_quiet_below (by kernel_rfl) (by kernel_rfl) ?_
            repeat (go_big_quiet_step ((exact Calls.regrown_of (of_any _ _))))
            refine wpQuiet_nil ?_
            intro _ hw'
            obtain ⟨⟨dq, osq⟩, hw''⟩ := hw'
            subst hw''
            go_wp2
            go_ret
            exact ⟨rfl, hB8.trans ((below_regrown w8 dq osq).mono hB8.size)⟩
        · obtain ⟨x, hx, hy, hp, rfl, hq⟩ := int_true a0 a1 a2 ka0 hB
          rw [hx]
          clear hB hx
          by_cases hD : a0 < 9223372036854775808
          · obtain rfl := hq.1 hD
            have hDd : decide (a0 < 9223372036854775808) = true := decide_eq_true hD
            clear hq
            have k0 := cell_regrown c8_a_0
            have k1 := cell_regrown c8_a_1
            have k2 := cell_regrown c8_a_2
            go_wp2_with fail
            refine wp_region_quiet_below (by kernel_rfl) (by kernel_rfl) ?_
            repeat (go_big_quiet_step ((exact Calls.regrown_of (of_any _ _))))
            refine wpQuiet_nil ?_
            intro _ hw'
            obtain ⟨⟨dq, osq⟩, hw''⟩ := hw'
            subst hw''
            go_wp2
            go_ret
            exact ⟨rfl, hB8.trans ((below_regrown w8 dq osq).mono hB8.size)⟩
          · obtain rfl := hq.2 (by omega)
            have hDd : decide (9223372036854775808 ≤ a0) = true := decide_eq_true (by omega)
            clear hq
            have k0 := cell_regrown c8_a_0
            have k1 := cell_regrown c8_a_1
            have k2 := cell_regrown c8_a_2
            go_wp2_with fail
            refine wp_region_quiet_below (by kernel_rfl) (by kernel_rfl) ?_
            repeat (go_big_quiet_step ((exact Calls.regrown_of (of_any _ _))))
            refine wpQuiet_nil ?_
            intro _ hw'
            obtain ⟨⟨dq, osq⟩, hw''⟩ := hw'
            subst hw''
            go_wp2
            go_ret
            exact ⟨rfl, hB8.trans ((below_regrown w8 dq osq).mono hB8.size)⟩
      · obtain ⟨e1, e2⟩ := hS.2 (fun hh => by obtain ⟨_, _⟩ := hh; omega)
        rw [e1, e2]
        clear hS e1 e2
        have ws1 : wrap64 (IntKind.u64.wrap (IntKind.u64.wrap n + m)) = (n + m - 18446744073709551616) := by simp only [wrap64, IntKind.wrap_u64]; omega
        have ws2 : wrap64 (IntKind.u64.wrap (n + IntKind.u64.wrap m)) = (n + m - 18446744073709551616) := by simp only [wrap64, IntKind.wrap_u64]; omega
        have ws3 : wrap64 (n + m) = (n + m - 18446744073709551616) := by simp only [wrap64]; omega
        have ws4 : wrap64 (IntKind.u64.wrap (IntKind.u64.wrap n + IntKind.u64.wrap m)) = (n + m - 18446744073709551616) := by simp only [wrap64, IntKind.wrap_u64]; omega
        go_wp2_with fail
        clear ws1 ws2 ws3 ws4 kn0 kn1 km0 km1 hn hm
        refine (int_any a0 a1 a2 ka0 _).mono ?_
        rintro e w8 ⟨rfl, hb8⟩
        have c8_a_0 : w8.cell? ⟨w.heap.size, 0, none⟩ = some (.int .u64 a0) := (hb8.cell (p := ⟨w.heap.size, 0, none⟩) s7_a).trans c7_a_0
        have c8_a_1 : w8.cell? ⟨w.heap.size, 1, none⟩ = some (.int .u64 a1) := (hb8.cell (p := ⟨w.heap.size, 1, none⟩) s7_a).trans c7_a_1
        have c8_a_2 : w8.cell? ⟨w.heap.size, 2, none⟩ = some (.int .u64 a2) := (hb8.cell (p := ⟨w.heap.size, 2, none⟩) s7_a).trans c7_a_2
        have hB8 : Below w.heap.size w w8 := hB7.trans (hb8.mono hB7.size)
        clear c7_a_0 c7_a_1 c7_a_2 hb8 hB7 s7_a
        cases hB : intB a0 a1 a2
        · obtain ⟨hx, hq⟩ := int_false a0 a1 a2 ka0 hB
          rw [hx]
          clear hB hx
          rcases hq with h | ⟨rfl, rfl, h⟩ | ⟨rfl, rfl, h⟩ | ⟨rfl, h, h'⟩
          · have g1 : (a1 == a2) = false := by simp [h]
            clear h
            have k0 := cell_regrown c8_a_0
            have k1 := cell_regrown c8_a_1
            have k2 := cell_regrown c8_a_2
            go_wp2_with fail
            refine wp_region_quiet_below (by kernel_rfl) (by kernel_rfl) ?_
            repeat (go_big_quiet_step ((exact Calls.regrown_of (of_any _ _))))
            refine wpQuiet_nil ?_
            intro _ hw'
            obtain ⟨⟨dq, osq⟩, hw''⟩ := hw'
            subst hw''
            go_wp2
            go_ret
            exact ⟨rfl, hB8.trans ((below_regrown w8 dq osq).mono hB8.size)⟩
          · have g1 : decide (a0 < 9223372036854775808) = false := decide_eq_false (by omega)
            have k0 := cell_regrown c8_a_0
            have k1 := cell_regrown c8_a_1
            have k2 := cell_regrown c8_a_2
            go_wp2_with fail
            refine wp_region_quiet_below (by kernel_rfl) (by kernel_rfl) ?_
            repeat (go_big_quiet_step ((exact Calls.regrown_of (of_any _ _))))
            refine wpQuiet_nil ?_
            intro _ hw'
            obtain ⟨⟨dq, osq⟩, hw''⟩ := hw'
            subst hw''
            go_wp2
            go_ret
            exact ⟨rfl, hB8.trans ((below_regrown w8 dq osq).mono hB8.size)⟩
          · have g1 : decide (9223372036854775808 ≤ a0) = false := decide_eq_false (by omega)
            have k0 := cell_regrown c8_a_0
            have k1 := cell_regrown c8_a_1
            have k2 := cell_regrown c8_a_2
            go_wp2_with fail
            refine wp_region_quiet_below (by kernel_rfl) (by kernel_rfl) ?_
            repeat (go_big_quiet_step ((exact Calls.regrown_of (of_any _ _))))
            refine wpQuiet_nil ?_
            intro _ hw'
            obtain ⟨⟨dq, osq⟩, hw''⟩ := hw'
            subst hw''
            go_wp2
            go_ret
            exact ⟨rfl, hB8.trans ((below_regrown w8 dq osq).mono hB8.size)⟩
          · have g1 : (a1 == 0) = false := by simp [h]
            have g2 : (a1 == 18446744073709551615) = false := by simp [h']
            clear h h'
            have k0 := cell_regrown c8_a_0
            have k1 := cell_regrown c8_a_1
            have k2 := cell_regrown c8_a_2
            go_wp2_with fail
            refine wp_region_quiet_below (by kernel_rfl) (by kernel_rfl) ?_
            repeat (go_big_quiet_step ((exact Calls.regrown_of (of_any _ _))))
            refine wpQuiet_nil ?_
            intro _ hw'
            obtain ⟨⟨dq, osq⟩, hw''⟩ := hw'
            subst hw''
            go_wp2
            go_ret
            exact ⟨rfl, hB8.trans ((below_regrown w8 dq osq).mono hB8.size)⟩
        · obtain ⟨x, hx, hy, hp, rfl, hq⟩ := int_true a0 a1 a2 ka0 hB
          rw [hx]
          clear hB hx
          by_cases hD : a0 < 9223372036854775808
          · obtain rfl := hq.1 hD
            have hDd : decide (a0 < 9223372036854775808) = true := decide_eq_true hD
            clear hq
            have k0 := cell_regrown c8_a_0
            have k1 := cell_regrown c8_a_1
            have k2 := cell_regrown c8_a_2
            go_wp2_with fail
            refine wp_region_quiet_below (by kernel_rfl) (by kernel_rfl) ?_
            repeat (go_big_quiet_step ((exact Calls.regrown_of (of_any _ _))))
            refine wpQuiet_nil ?_
            intro _ hw'
            obtain ⟨⟨dq, osq⟩, hw''⟩ := hw'
            subst hw''
            go_wp2
            go_ret
            exact ⟨rfl, hB8.trans ((below_regrown w8 dq osq).mono hB8.size)⟩
          · obtain rfl := hq.2 (by omega)
            have hDd : decide (9223372036854775808 ≤ a0) = true := decide_eq_true (by omega)
            clear hq
            have k0 := cell_regrown c8_a_0
            have k1 := cell_regrown c8_a_1
            have k2 := cell_regrown c8_a_2
            go_wp2_with fail
            refine wp_region_quiet_below (by kernel_rfl) (by kernel_rfl) ?_
            repeat (go_big_quiet_step ((exact Calls.regrown_of (of_any _ _))))
            refine wpQuiet_nil ?_
            intro _ hw'
            obtain ⟨⟨dq, osq⟩, hw''⟩ := hw'
            subst hw''
            go_wp2
            go_ret
            exact ⟨rfl, hB8.trans ((below_regrown w8 dq osq).mono hB8.size)⟩
end Go.Proofs.YtlgadaojekcjeaaDoor

/-
  Contracts of the document's own answers of layer 4: Claimed, Product.
-/
import Derived.Test.YtgmdcpkpcajenaaRf0
import Derived.Test.YtgmdcpkpcajenaaMontC
namespace Go.Proofs.Ytgmdcpkpcajenaa
set_option linter.unusedVariables false
open Go.RowKit

theorem any_found {es : List En} {k q : Nat} {x : En} (hx : es[k]? = some x) (h : x.p = q) : (es.any fun x => x.p == q) = true := List.any_eq_true.2 ⟨x, List.mem_of_getElem? hx, by simp [h]⟩
theorem any_none {es : List En} {q : Nat} (h : ∀ j y, j < es.length → es[j]? = some y → (y.p == q) = false) : (es.any fun x => x.p == q) = false := by
  rw [List.any_eq_false]
  intro x hx
  obtain ⟨j, hj, rfl⟩ := List.getElem_of_mem hx
  simp [h j _ hj (List.getElem?_eq_getElem hj)]

set_option maxHeartbeats 1000000 in
/-- Claimed. -/
theorem claimed_any (W : World) (A : Option Addr) (C : Nat) (es : List En) (hE : EntsAt W A C es) (q : Nat) (hq : q < 18446744073709551616) :
    AnsB W 18 #[.slice A es.length C, .int .u64 (q : Int)] (.bool (es.any fun x => x.p == q)) := by
  intro w hw
  have hlen : (es.length : Int) ≤ 9223372036854775807 := by have := hE.cap; have := hE.max; unfold maxLen at this; omega
  obtain ⟨L, hL⟩ : ∃ L, es.length = L := ⟨_, rfl⟩
  rw [hL] at hlen
  have HL : Hid (es.length = L) := hL
  rw [hL]
  clear hL
  obtain ⟨r, hr⟩ : ∃ r, (es.any fun x => x.p == q) = r := ⟨_, rfl⟩
  have HR : Hid ((es.any fun x => x.p == q) = r) := hr
  rw [hr]
  clear hr
  go_enter Try.func18, Try.ntmps18
  go_wp2
  go_loopw [9] (fun v wr => ∃ k : Nat, v = .int .i64 k ∧ k ≤ L ∧ Hid (∀ j y, j < k → es[j]? = some y → (y.p == q) = false) ∧ Below w.heap.size w wr) (fun v _ => L - (intOf v).toNat)
  case atStart => exact ⟨0, rfl, by omega, fun j y hj => absurd hj (by omega), Below.refl _ _⟩
  case round =>
    obtain ⟨k, rfl, hk, HI, hB⟩ := hrel
    by_cases hlt : k < L
    · have hlt' : k < es.length := by rw [HL.out]; exact hlt
      obtain ⟨x, hx⟩ : ∃ x, es[k]? = some x := ⟨_, List.getElem?_eq_getElem hlt'⟩
      obtain ⟨b, o, A', C', rfl, hb, c0, c1, c2, hP, hp, hg⟩ := hE.get k x hx
      have hBW : Below W.heap.size W wr := bb hw hB
      have c0' := keep_cell hBW hb c0
      have c1' := keep_cell hBW hb c1
      have c2' := keep_cell hBW hb c2
      obtain ⟨p, hp'⟩ : ∃ p : Int, (x.p : Int) = p := ⟨_, rfl⟩
      obtain ⟨g, hg'⟩ : ∃ g : Int, (x.g : Int) = g := ⟨_, rfl⟩
      obtain ⟨fl, hfl⟩ : ∃ fl : Nat, x.fs.length = fl := ⟨_, rfl⟩
      rw [hp'] at c0'
      rw [hg'] at c1'
      rw [hfl] at c2'
      by_cases ht : x.p = q
      · have hpq : (p == (q : Int)) = true := by rw [← hp', ht]; simp
        have HE : Hid (r = true) := by
          unfold Hid; rw [← HR.out]; exact any_found hx ht
        clear c0 c1 c2 hp' hg' hfl hx HI ht hP hlt'
        go_wp2
        go_ret
        exact ⟨ret_bool HE.out.symm, bb hB (below_alloc _ _)⟩
      · have hpq : (p == (q : Int)) = false := by rw [← hp']; simp; omega
        have HS : Hid (∀ j y, j < k + 1 → es[j]? = some y → (y.p == q) = false) := by
          intro j y hj hy
          by_cases h : j < k
          · exact HI.out j y h hy
          · obtain rfl : j = k := by omega
            rw [hx] at hy; cases hy; simp [ht]
        clear c0 c1 c2 hp' hg' hfl hx HI ht hP hlt'
        go_wp2
        go_roundw
        case rel => exact ⟨k + 1, by go_num, by omega, HS, bb hB (below_alloc _ _)⟩
        case measure => simp [intOf]; omega
    · obtain rfl : k = L := by omega
      have HE : Hid (r = false) := by
        unfold Hid; rw [← HR.out]; exact any_none (by rw [HL.out]; exact HI.out)
      clear HI
      go_wp2
      go_ret
      exact ⟨ret_bool HE.out.symm, hB⟩

/-! ### Product -/
theorem prodUp_bad (most n : Nat) (f : Pw) (fs : List Pw) (h : f.e < 1 ∨ 62 < f.e ∨ f.q < 2) : prodUp most n (f :: fs) = none := by rw [prodUp, if_pos h]
theorem prodUp_none (most n : Nat) (f : Pw) (fs : List Pw) (h : ¬ (f.e < 1 ∨ 62 < f.e ∨ f.q < 2)) (hm : mulUp f.q most n f.e.toNat = none) : prodUp most n (f :: fs) = none := by rw [prodUp, if_neg h, hm]
theorem prodUp_some (most n m : Nat) (f : Pw) (fs : List Pw) (h : ¬ (f.e < 1 ∨ 62 < f.e ∨ f.q < 2)) (hm : mulUp f.q most n f.e.toNat = some m) : prodUp most n (f :: fs) = prodUp most m fs := by rw [prodUp, if_neg h, hm]
theorem mulUp_stop (q most n k : Nat) (h : most / q < n) : mulUp q most n (k + 1) = none := by rw [mulUp, if_pos h]
theorem mulUp_go (q most n k : Nat) (h : ¬ most / q < n) : mulUp q most n (k + 1) = mulUp q most (n * q) k := by rw [mulUp, if_neg h]

set_option maxHeartbeats 2000000 in
theorem product_any (W : World) (A : Option Addr) (C : Nat) (fs : List Pw) (hP : PowsAt W A C fs) (most : Nat) (hm0 : 1 ≤ most) (hm : most < 18446744073709551616) :
    AnsB W 29 #[.slice A fs.length C, .int .u64 (most : Int)] (woV (prodUp most 1 fs)) := by
  intro w hw
  have hlen : (fs.length : Int) ≤ 9223372036854775807 := by have := hP.cap; have := hP.max; unfold maxLen at this; omega
  obtain ⟨L, hL⟩ : ∃ L, fs.length = L := ⟨_, rfl⟩
  rw [hL] at hlen
  have HL : Hid (fs.length = L) := hL
  rw [hL]
  clear hL
  obtain ⟨rv, hrv⟩ : ∃ rv, woV (prodUp most 1 fs) = rv := ⟨_, rfl⟩
  have HR : Hid (woV (prodUp most 1 fs) = rv) := hrv
  rw [hrv]
  clear hrv
  go_enter Try.func29, Try.ntmps29
  go_wp2
  go_loopw [6, 12] (fun s v wr => ∃ n k : Nat, s = .int .u64 n ∧ v = .int .i64 k ∧ k ≤ L ∧ 1 ≤ n ∧ n ≤ most ∧ Hid (prodUp most n (fs.drop k) = prodUp most 1 fs) ∧ Below w.heap.size w wr) (fun _ v _ => L - (intOf v).toNat)
  case atStart => exact ⟨1, 0, rfl, rfl, by omega, by omega, by omega, by unfold Hid; rw [List.drop_zero], Below.refl _ _⟩
  case round =>
    obtain ⟨n, k, rfl, rfl, hk, hn0, hn, HI, hB⟩ := hrel
    by_cases hlt : k < L
    · have hlt' : k < fs.length := by rw [HL.out]; exact hlt
      obtain ⟨f, hf⟩ : ∃ f, fs[k]? = some f := ⟨_, List.getElem?_eq_getElem hlt'⟩
      obtain ⟨b, o, rfl, hb, d0, d1, hfq, hfe, hfe'⟩ := hP.get k f hf
      have hBW : Below W.heap.size W wr := bb hw hB
      have d0' := keep_cell hBW hb d0
      have d1' := keep_cell hBW hb d1
      have HX : Hid (fs.drop k = f :: fs.drop (k + 1)) := drop_cons hf
      obtain ⟨q, hq⟩ : ∃ q : Nat, f.q = q := ⟨_, rfl⟩
      obtain ⟨e, he⟩ : ∃ e : Int, f.e = e := ⟨_, rfl⟩
      rw [hq] at d0' hfq
      rw [he] at d1' hfe hfe'
      by_cases hbad : e < 1 ∨ 62 < e ∨ q < 2
      · have HE : Hid (rv = .tuple #[.int .u64 0, .bool false]) := by
          unfold Hid; rw [← HR.out, ← HI.out, HX.out, prodUp_bad _ _ _ _ (by rw [hq, he]; exact hbad)]; rfl
        clear d0 d1 HI HX hf hlt'
        by_cases h1 : e < 1
        · go_wp2
          go_ret2
          exact ⟨congrArg Ending.returned HE.out.symm, bb hB (below_alloc _ _)⟩
        · by_cases h2 : 62 < e
          · go_wp2
            go_ret2
            exact ⟨congrArg Ending.returned HE.out.symm, bb hB (below_alloc _ _)⟩
          · have h3 : (q : Int) < 2 := by omega
            go_wp2
            go_ret2
            exact ⟨congrArg Ending.returned HE.out.symm, bb hB (below_alloc _ _)⟩
      · have b1 : ¬ e < 1 := by omega
        have b2 : ¬ 62 < e := by omega
        have b3 : ¬ (q : Int) < 2 := by omega
        have HBD : Hid (¬ (f.e < 1 ∨ 62 < f.e ∨ f.q < 2)) := by unfold Hid; rw [hq, he]; exact hbad
        have HQ : Hid (f.q = q ∧ f.e = e) := ⟨hq, he⟩
        obtain ⟨t0, t1⟩ := two_cells wr (.int .u64 (q : Int)) (.int .i64 e) 50
        obtain ⟨V, hV⟩ : ∃ V, wr.alloc (.cells #[.int .u64 (q : Int), .int .i64 e] 50) = V := ⟨_, rfl⟩
        have hBV : Below wr.heap.size wr V := hV ▸ below_alloc _ _
        rw [hV] at t0 t1
        have hBwV := bb hB hBV
        obtain ⟨bo, hbo⟩ : ∃ bo, wr.heap.size = bo := ⟨_, rfl⟩
        rw [hbo] at t0 t1
        obtain ⟨d, hd⟩ : ∃ d, most / q = d := ⟨_, rfl⟩
        have hd' : (most : Int) / (q : Int) = (d : Int) := by rw [← hd]; simp
        have hdl : d ≤ most := hd ▸ Nat.div_le_self _ _
        have hdw : IntKind.u64.wrap (d : Int) = (d : Int) := wrap_small _ (by omega) (by omega)
        have hqz : ((q : Int) == 0) = false := by simp; omega
        have hfit : ∀ n : Nat, ¬ d < n ↔ n * q ≤ most := fun n => hd ▸ mul_fits (by omega)
        have HD : Hid (most / q = d ∧ ∀ n : Nat, ¬ d < n ↔ n * q ≤ most) := ⟨hd, hfit⟩
        clear d0 d1 hf hlt' hbad hq he hd hfit hBW hB
        go_wp2
        clear hbo hV hBV
        go_loopw [6, 9] (fun s v wi => ∃ m j : Nat, s = .int .u64 m ∧ v = .int .i64 j ∧ (j : Int) ≤ e ∧ 1 ≤ m ∧ m ≤ most ∧ Hid (mulUp q most m (e.toNat - j) = mulUp q most n e.toNat) ∧ wi = V) (fun _ v _ => e.toNat - (intOf v).toNat)
        case atStart => exact ⟨n, 0, rfl, rfl, by omega, hn0, hn, by unfold Hid; rw [Nat.sub_zero], rfl⟩
        case round =>
          obtain ⟨m, j, rfl, rfl, hj, hm1, hm2, HM, rfl⟩ := hrel
          by_cases hje : (j : Int) < e
          · have hk' : e.toNat - j = (e.toNat - (j + 1)) + 1 := by omega
            by_cases hst : d < m
            · have HE : Hid (rv = .tuple #[.int .u64 0, .bool false]) := by
                unfold Hid
                rw [← HR.out, ← HI.out, HX.out, prodUp_none _ _ _ _ HBD.out]
                · rfl
                · rw [HQ.out.1, HQ.out.2, ← HM.out, hk', mulUp_stop _ _ _ _ (by rw [HD.out.1]; exact hst)]
              clear HI HX HM hk' HD HBD HQ
              go_wp2
              go_ret2
              exact ⟨congrArg Ending.returned HE.out.symm, hBwV⟩
            · have hmq := (HD.out.2 m).1 hst
              have hmqp : 1 ≤ m * q := Nat.mul_pos hm1 (by omega)
              have HS : Hid (mulUp q most (m * q) (e.toNat - (j + 1)) = mulUp q most n e.toNat) := by
                unfold Hid; rw [← HM.out, hk', mulUp_go _ _ _ _ (by rw [HD.out.1]; exact hst)]
              obtain ⟨mq, hmq'⟩ : ∃ mq, m * q = mq := ⟨_, rfl⟩
              have hmi : (m : Int) * (q : Int) = (mq : Int) := by rw [← hmq']; simp
              have hmw : IntKind.u64.wrap (mq : Int) = (mq : Int) := wrap_small _ (by omega) (by rw [hmq'] at hmq; omega)
              rw [hmq'] at HS hmq hmqp
              clear HM hk' hmq'
              go_wp2
              go_roundw
              case rel => exact ⟨mq, j + 1, rfl, by go_num, by omega, hmqp, hmq, HS, by first | rfl | trivial⟩
              case measure => simp [intOf]; omega
          · have HS : Hid (prodUp most m (fs.drop (k + 1)) = prodUp most 1 fs) := by
              unfold Hid
              rw [← HI.out, HX.out, prodUp_some _ _ m _ _ HBD.out]
              rw [HQ.out.1, HQ.out.2, ← HM.out, show e.toNat - j = 0 by omega]; rfl
            clear HI HX HM HD HBD HQ
            go_wp2
            go_roundw
            case rel => exact ⟨m, k + 1, rfl, by go_num, by omega, hm1, hm2, HS, hBwV⟩
            case measure => simp [intOf]; omega
    · obtain rfl : k = L := by omega
      have HE : Hid (rv = .tuple #[.int .u64 (n : Int), .bool true]) := by
        unfold Hid; rw [← HR.out, ← HI.out, List.drop_eq_nil_of_le (by rw [HL.out]; exact Nat.le_refl _)]; rfl
      clear HI
      go_wp2
      go_ret2
      exact ⟨congrArg Ending.returned HE.out.symm, hB⟩
end Go.Proofs.Ytgmdcpkpcajenaa

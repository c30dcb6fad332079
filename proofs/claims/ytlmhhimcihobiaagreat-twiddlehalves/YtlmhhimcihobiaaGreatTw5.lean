/-
  What twiddle's hasOrder and Verify answer. No condition but that the field and the table lie there.
-/
import Derived.Test.YtlmhhimcihobiaaGreatTw4
import Derived.Test.YtlmhhimcihobiaaGreatF11
namespace Go.Proofs.YtlmhhimcihobiaaGreat
set_option linter.unusedVariables false
open Go.RowKit

theorem facP_get {n k : Nat} {f : Pw} (h : (facOf n)[k]? = some f) : ∃ q, (pf n)[k]? = some q ∧ f.q = q := by
  unfold facOf at h
  rw [List.getElem?_map] at h
  cases hq : (pf n)[k]? with
  | none => rw [hq] at h; cases h
  | some q => rw [hq] at h; cases h; exact ⟨q, rfl, rfl⟩
theorem facP_len (n : Nat) : (facOf n).length = (pf n).length := by simp [facOf]
theorem pf_one : pf 1 = [] := by
  cases h : pf 1 with
  | nil => rfl
  | cons q l =>
    have : q ∈ pf 1 := by rw [h]; simp
    obtain ⟨hq, hd⟩ := (mem_pf (by omega)).1 this
    have := hq.1
    have := Nat.le_of_dvd (by omega) hd
    omega
theorem fac_small (n : Nat) (h1 : 1 ≤ n) (h2 : n ≤ 4096) : FacAns 52 (.int .u64 (n : Int)) (facOf n) := by
  by_cases h : n < 2
  · obtain rfl : n = 1 := by omega
    have e : facOf 1 = [] := by unfold facOf; rw [pf_one]; rfl
    rw [e]; exact factor_few 1 (by omega)
  · exact factor_walk n (by omega) (by omega)
set_option maxHeartbeats 2000000 in
theorem hasO_walk (W : World) (A : Option Addr) (C : Nat) (t : List Nat) (hU : UAt W A C t) (hn : 1 ≤ t.length) (hm : t.length ≤ 4096) (R : Bool) (hR : R = true ↔ HasO t) : AnsB W 34 #[.slice A t.length C] (.bool R) := by
  intro w hw
  unfold HasO at hR
  obtain ⟨b, o, rfl⟩ := hU.addr hn
  have HF := fac_small t.length hn hm
  have HPf : Hid (∀ (k : Nat) (f : Pw), (facOf t.length)[k]? = some f → 2 ≤ f.q ∧ f.q ≤ t.length ∧ t.length / f.q < t.length ∧ f.q ∈ pf t.length) := fun k f hf => by
    obtain ⟨q, hq, e⟩ := facP_get hf
    have hmem := List.mem_of_getElem? hq
    obtain ⟨pq, dq⟩ := (mem_pf hn).1 hmem
    have := pq.1
    rw [e]
    exact ⟨this, Nat.le_of_dvd (by omega) dq, Nat.div_lt_self (by omega) this, hmem⟩
  have HAll : Hid (∀ q ∈ pf t.length, ∃ (k : Nat) (f : Pw), (facOf t.length)[k]? = some f ∧ f.q = q) := fun q hq => by
    obtain ⟨k, hk, e⟩ := List.getElem_of_mem hq
    refine ⟨k, ⟨q, (vp q t.length : Nat)⟩, ?_, rfl⟩
    unfold facOf
    rw [List.getElem?_map, List.getElem?_eq_getElem hk, e]; rfl
  have hfew := pf_few hn (show t.length ≤ 4294967296 by omega)
  have hfl := facP_len t.length
  obtain ⟨fs, hfs⟩ : ∃ fs, facOf t.length = fs := ⟨_, rfl⟩
  rw [hfs] at HF HPf HAll hfl
  obtain ⟨M, hM⟩ : ∃ M, fs.length = M := ⟨_, rfl⟩
  have HM : Hid (fs.length = M) := hM
  have hMl : (M : Int) ≤ 9223372036854775807 := by omega
  obtain ⟨n, en⟩ : ∃ n, t.length = n := ⟨_, rfl⟩
  have HEN : Hid (t.length = n) := en
  have HU : Hid (UAt W (some ⟨b, o, none⟩) C t) := hU
  rw [en] at hR hn hm HF HPf HAll hfl hfew ⊢
  have HR : Hid (R = true ↔ ∀ q ∈ pf n, t.getD (n / q) 0 ≠ 1) := hR
  have HN : Hid (1 ≤ n ∧ n ≤ 4096) := ⟨hn, hm⟩
  have hlen : (n : Int) ≤ 9223372036854775807 := by omega
  have wn : IntKind.u64.wrap (n : Int) = (n : Int) := wrap_small _ (by omega) (by omega)
  have HF' : ∀ {R : Ending → World → Prop}, (∀ A1 C1 w', PowsAt w' A1 C1 fs → Below w.heap.size w w' → R (.returned (.slice A1 M C1)) w') → Calls Tryz.prog 52 #[.int .u64 (n : Int)] w R := by
    intro R k
    exact FacAns.use HF (fun A1 C1 w' q1 q2 => by rw [hM]; exact k A1 C1 w' q1 q2)
  clear hfs hM hfl hfew hR hn hm HF en hU
  go_enter Tryz.func34, Tryz.ntmps34
  go_wp2_with (go_at_call 52; with_reducible refine HF' fun A1 C1 w2 hP hB2 => ?_)
  go_loopw [12] (fun v wr => ∃ k : Nat, v = .int .i64 (k : Int) ∧ k ≤ M ∧ Hid (∀ j f, j < k → fs[j]? = some f → t.getD (n / f.q) 0 ≠ 1) ∧ Below w2.heap.size w2 wr) (fun v _ => M - (intOf v).toNat)
  case atStart => exact ⟨0, rfl, by omega, fun j f hj => absurd hj (by omega), Below.refl _ _⟩
  case round =>
    obtain ⟨k, rfl, hk, HI, hB⟩ := hrel
    by_cases hlt : k < M
    · obtain ⟨f, hf⟩ : ∃ f, fs[k]? = some f := ⟨_, List.getElem?_eq_getElem (by rw [HM.out]; exact hlt)⟩
      obtain ⟨b2, o2, rfl, hb2, c0, c1, hok⟩ := hP.get k f hf
      have c0' := keep_cell hB hb2 c0
      have c1' := keep_cell hB hb2 c1
      obtain ⟨hq2, hqn, hdl, hmem⟩ := HPf.out k f hf
      obtain ⟨x, hx⟩ : ∃ x, t[n / f.q]? = some x := ⟨_, List.getElem?_eq_getElem (by rw [HEN.out]; exact hdl)⟩
      obtain ⟨ck, hxl, hbl⟩ := HU.out.at hx
      have ck' := keep_cell (hw.trans (hB2.mono hw.size)) hbl ck
      have ck2 := keep_cell hB (Nat.lt_of_lt_of_le hbl (Nat.le_trans hw.size hB2.size)) ck'
      have gx := getD_of hx
      obtain ⟨q, hq⟩ : ∃ q : Nat, f.q = q := ⟨_, rfl⟩
      obtain ⟨e, he⟩ : ∃ e : Int, f.e = e := ⟨_, rfl⟩
      rw [hq] at c0' hq2 hqn hdl hmem ck2 gx
      rw [he] at c1'
      obtain ⟨d, hd⟩ : ∃ d, n / q = d := ⟨_, rfl⟩
      rw [hd] at hdl ck2 gx
      obtain ⟨t0, t1⟩ := two_cells wr (.int .u64 (q : Int)) (.int .i64 e) 90
      obtain ⟨V, hV⟩ : ∃ V, wr.alloc (.cells #[.int .u64 (q : Int), .int .i64 e] 90) = V := ⟨_, rfl⟩
      have hBV : Below wr.heap.size wr V := hV ▸ below_alloc _ _
      have hbr : b < wr.heap.size := Nat.lt_of_lt_of_le hbl (Nat.le_trans hw.size (Nat.le_trans hB2.size hB.size))
      have ck3 := keep_cell hBV hbr ck2
      rw [hV] at t0 t1
      have hq0 : ¬ (q : Int) = 0 := natNe (Nat.le_of_succ_le hq2)
      have wq : IntKind.i64.wrap (q : Int) = (q : Int) := wrI (Nat.le_trans hqn (Nat.le_trans HN.out.2 (by decide)))
      have hdI : (d : Int) < (n : Int) := ltI hdl
      have hqd : IntKind.i64.wrap ((n : Int) / (q : Int)) = (d : Int) := divW hd (Nat.le_trans (Nat.le_of_lt hdl) (Nat.le_trans HN.out.2 (by decide)))
      have hBE : Hid (Below w2.heap.size w2 V) := bb hB hBV
      have hB0 : Hid (Below w.heap.size w V) := bb hB2 (bb hB hBV)
      by_cases hx1 : x = 1
      · have HFl : Hid (R = false) := by
          unfold Hid
          rw [Bool.eq_false_iff]
          intro h
          exact HR.out.1 h q hmem (by rw [hd, gx, hx1])
        obtain ⟨t2, t3⟩ := oneB hx1
        clear c0 c1 hf hok hq he hx ck ck' ck2 gx hd HI hmem hx1 hBV hB hP hB2 hqn hq2 hdl hxl
        go_wp2
        go_ret
        exact ⟨ret_b HFl.out.symm, hB0.out⟩
      · have HI' : Hid (∀ j f, j < k + 1 → fs[j]? = some f → t.getD (n / f.q) 0 ≠ 1) := by
          intro j f' hj hf'
          by_cases ej : j = k
          · rw [ej, hf] at hf'
            cases hf'
            rw [hq, hd, gx]; exact hx1
          · exact HI.out j f' (Nat.lt_of_le_of_ne (Nat.le_of_lt_succ hj) ej) hf'
        obtain ⟨t2, t3⟩ := notOne hx1
        clear c0 c1 hf hok hq he hx ck ck' ck2 gx hd HI hmem hx1 hBV hB hP hB0 hqn hq2 hdl hxl
        go_wp2
        clear wq hqd hq0 hdI
        go_roundw
        case rel => exact ⟨k + 1, by go_num, by omega, HI', hBE.out⟩
        case measure => simp [intOf]; omega
    · obtain rfl : k = M := by omega
      have HFl : Hid (R = true) := HR.out.2 fun q hq => by
        obtain ⟨j, f, hf, e⟩ := HAll.out q hq
        rw [← e]
        exact HI.out j f (by rw [← HM.out]; exact (List.getElem?_eq_some_iff.1 hf).1) hf
      clear HI
      go_wp2
      go_ret
      exact ⟨ret_b HFl.out.symm, bb hB2 hB⟩

/-! ### Verify -/
theorem verify_nil (W : World) (A : Option Addr) (L C : Nat) : AnsW W 15 #[.pointer none, .slice A L C] (.bool false) := by
  intro n
  go_enter Tryz.func15, Tryz.ntmps15
  go_wp2
  go_ret
  exact ⟨rfl, 0, rfl⟩
theorem verify_empty (W : World) (a : Addr) (A : Option Addr) (C : Nat) : AnsW W 15 #[.pointer (some a), .slice A 0 C] (.bool false) := by
  intro n
  go_enter Tryz.func15, Tryz.ntmps15
  go_wp2
  go_ret
  exact ⟨rfl, 0, rfl⟩
theorem verify_no (W : World) (a : Addr) (A : Option Addr) (L C : Nat) (h1 : 1 ≤ L) (h2 : (L : Int) ≤ 4096) (HG : AnsW W 33 #[.pointer (some a), .slice A L C] (.bool false)) : AnsW W 15 #[.pointer (some a), .slice A L C] (.bool false) := by
  intro n
  go_enter Tryz.func15, Tryz.ntmps15
  go_wp2_with (go_at_call 33; with_reducible refine AnsW.use HG _ fun n1 => ?_)
  go_ret
  exact ⟨rfl, n1, rfl⟩
theorem verify_two (W : World) (a : Addr) (A : Option Addr) (L C : Nat) (h1 : 1 ≤ L) (h2 : (L : Int) ≤ 4096) (R : Bool) (HG : ∀ w, Below W.heap.size W w → AnsW w 33 #[.pointer (some a), .slice A L C] (.bool true)) (HO : AnsB W 34 #[.slice A L C] (.bool R)) : AnsB W 15 #[.pointer (some a), .slice A L C] (.bool R) := by
  intro w hw
  have HG1 := HG w hw
  clear HG
  go_enter Tryz.func15, Tryz.ntmps15
  go_wp2_with (first
    | (go_at_call 33; with_reducible refine AnsW.use0 HG1 fun n1 => ?_)
    | (go_at_call 34; with_reducible refine AnsB.use HO (bb hw (below_drewN w n1)) fun w2 hb2 => ?_))
  go_ret
  exact ⟨rfl, bb (below_drewN w n1) hb2⟩
theorem AnsW.toB {W : World} {f : FuncId} {args : Array Value} {v : Value} (h : ∀ w, Below W.heap.size W w → AnsW w f args v) : AnsB W f args v := fun w hw => AnsW.use0 (h w hw) fun n => ⟨rfl, below_drewN w n⟩
/-- Verify is true of just those tables that are right. -/
theorem verify_any (W : World) (b : Nat) (x : En) (F : FieldAt W b x) (hF : Fld x) (A : Option Addr) (C : Nat) (t : List Nat) (hU : UAt W A C t) (hm : t.length ≤ 4096) (R : Bool) (hR : R = true ↔ 1 ≤ t.length ∧ DocR x.p t) : AnsB W 15 #[pt b, .slice A t.length C] (.bool R) := by
  obtain ⟨h3, hodd, hlt⟩ := hF.num
  by_cases hn : t.length = 0
  · have : R = false := by rw [Bool.eq_false_iff]; intro h; have := (hR.1 h).1; omega
    rw [hn, this]
    exact AnsW.toB fun w hw => verify_empty w _ A C
  · have h1 : 1 ≤ t.length := by omega
    have hR' : R = true ↔ (Goes x.p t ∧ HasO t) := by rw [hR, right_iff (by omega) h1]; exact ⟨fun h => h.2, fun h => ⟨h1, h⟩⟩
    obtain ⟨c, hc, hcl⟩ : ∃ c, t[1 % t.length]? = some c ∧ c < 18446744073709551616 := by
      have := Nat.mod_lt 1 (show 0 < t.length by omega)
      exact ⟨_, get_of this, hU.small _ (List.mem_of_getElem? (get_of this))⟩
    have hcD := getD_of hc
    have hup := up_lt c x.p (by omega)
    have HGo : ∀ (Q : Bool), (Q = true ↔ Goes x.p t) → ∀ w, Below W.heap.size W w → AnsW w 33 #[pt b, .slice A t.length C] (.bool Q) := by
      intro Q hQ w hw
      have hUw := hU.below hw
      have Fw := F.below hw
      by_cases h0 : t.getD 0 0 = 1
      · refine goes_walk w b x.p A C t hUw h1 hm (up c x.p) ?_ (fun d hd => ?_) Q hQ h0
        · rw [hcD]; exact fLift_any Fw c hcl
        · rw [hcD]; exact fTimes_lift Fw c d hcl hd
      · have : Q = false := by rw [Bool.eq_false_iff]; intro h; exact h0 (hQ.1 h).1
        rw [this]
        obtain ⟨ba, o, hA⟩ := hUw.addr h1
        subst hA
        obtain ⟨c0, _⟩ := hUw.at (i := 0) (x := t.getD 0 0) (get_of (by omega))
        exact goes_first w _ ⟨_, rfl⟩ _ C t.length ba o _ h1 rfl c0 h0
    rcases Classical.em (Goes x.p t) with hg | hg
    · exact verify_two W _ A _ C h1 (by omega) R (HGo true (by simp [hg])) (hasO_walk W A C t hU h1 hm R (by rw [hR']; simp [hg]))
    · have : R = false := by rw [Bool.eq_false_iff]; intro h; exact hg (hR'.1 h).1
      rw [this]
      exact AnsW.toB fun w hw => verify_no w _ A _ C h1 (by omega) (HGo false (by simp [hg]) w hw)
end Go.Proofs.YtlmhhimcihobiaaGreat

/-
  The contract of sieve's Factor: the prime factors, rising, each with how often it is one. No condition but that the argument is a word.
-/
import Derived.Test.YtpjfapibjihbbaaGreatDoorF10
import Derived.Test.YtpjfapibjihbbaaGreatDoorF4
import Derived.Test.YtpjfapibjihbbaaGreatDoorF3
import Derived.Sort.KeysCollected
namespace Go.Proofs.YtpjfapibjihbbaaGreatDoor
set_option linter.unusedVariables false
open Go.RowKit Go.Maps

def natOf : Lit → Nat
  | .int _ a => a.toNat
  | _ => 0
/-- How many keys there are. -/
theorem size_keys {H : Type} {w : World} {R : Value → Option (DataW H × List MemPlace)} {b n : Nat} {D : DataW H} (hown : w.ownsMap Tryz.prog 22 R b n D) : ∃ ks : List Nat, ks.Nodup ∧ ks.length = Maps.size D ∧ ∀ x ∈ ks, has D (keyU x) = true := by
  obtain ⟨es, hD, hpw, _⟩ := hown.entries keyed64
  obtain ⟨es', hD', hko⟩ := hown.keysOf
  obtain rfl : es = es' := by rw [hD] at hD'; simpa using hD'
  subst hD
  have hk : ∀ p ∈ es, p.1 = keyU (natOf p.1) := by
    intro p hp
    obtain ⟨v, hv⟩ := hko p hp
    obtain ⟨x, _, hx, _⟩ := keyOf_u64 hv
    rw [hx]; simp [natOf]
  refine ⟨es.map fun p => natOf p.1, ?_, by simp [Maps.size], ?_⟩
  · refine List.pairwise_map.2 (hpw.imp_of_mem fun {p q} hp hq hne e => hne ?_)
    rw [hk p hp, hk q hq, e]
  · intro x hx
    obtain ⟨p, hp, rfl⟩ := List.mem_map.1 hx
    rw [← hk p hp, has_eq, List.any_eq_true]
    exact ⟨p, hp, by rw [hk p hp]; simp [Lit.sameKey]⟩
theorem nodup_sub_le : ∀ {l1 l2 : List Nat}, l1.Nodup → (∀ x ∈ l1, x ∈ l2) → l1.length ≤ l2.length
  | [], _, _, _ => Nat.zero_le _
  | a :: t, l2, hn, hs => by
    rw [List.nodup_cons] at hn
    have hp := List.perm_cons_erase (hs a (by simp))
    have := nodup_sub_le (l1 := t) (l2 := l2.erase a) hn.2 fun x hx => by
      have hxa : x ≠ a := fun e => hn.1 (by rw [← e]; exact hx)
      exact (List.mem_erase_of_ne hxa).2 (hs x (by simp [hx]))
    have hl := hp.length_eq
    simp at hl ⊢
    omega
theorem stops_mono {gf : Nat} {lb : Array Value} {S Sp : List Nat → Prop} {n N M : Nat} {w : World} {Kp : World → World → Prop} {encs : Nat → Array Value} (h : SeqStopsK Fence.wide n Tryz.prog gf lb encs Kp S Sp N w) (hN : N ≤ M) : SeqStopsK Fence.wide n Tryz.prog gf lb encs Kp S Sp M w :=
  fun l J Jx W h1 h2 h3 h4 h5 => h l J Jx W h1 h2 h3 (fun pre x W1 hj hl => h4 pre x W1 hj (by omega)) h5
theorem cnt_pos {n0 : Nat} {c : Nat → Nat} (h : Cnt n0 c) (h1 : 1 ≤ n0) (x : Nat) : 0 < c x ↔ x ∈ pf n0 := by
  rw [mem_pf h1]
  by_cases hp : Prm x
  · rw [(h x).1 hp, vp_pos hp.1 h1]
    exact ⟨fun h => ⟨hp, h⟩, fun h => h.2⟩
  · rw [(h x).2 hp]
    exact ⟨fun h => absurd h (by omega), fun h => absurd h.1 hp⟩
/-- What the sorted keys are. -/
theorem keys_pf {n0 : Nat} {c : Nat → Nat} {D : DataW Unit} (h : Cnt n0 c) (h1 : 1 ≤ n0) (hh : ∀ q : Nat, has D (keyU q) = decide (0 < c q)) {ss ss' : List Nat} (hs : ss.Pairwise (· ≤ ·)) (hp : ss.Perm ss') (hk : KeysAre D ss') : ss = pf n0 := by
  have hnd : ss.Nodup := hp.nodup_iff.2 hk.1
  refine sorted_ext ?_ (pf_sorted n0) fun x => ?_
  · have := List.Pairwise.and hs hnd
    exact this.imp fun ⟨a, b⟩ => by omega
  · rw [hp.mem_iff, hk.2, hh, decide_eq_true_iff, cnt_pos h h1]
theorem map_row {H : Type} {w : World} {R : Value → Option (DataW H × List MemPlace)} {k : TypeId} {b n : Nat} {D : DataW H} (hown : w.ownsMap Tryz.prog k R b n D) {base : Nat} {e : TypeId} {size : Nat} {v : Value} {m : Nat} {xs : List Value} (hr : w.ownsRow base e size v m xs) : some b ≠ v.ownBlock := by
  obtain ⟨es, clock, hb, _⟩ := hown
  rcases hr.2 with ⟨rfl, _⟩ | ⟨g, cap, cur, rfl, _, hg, _⟩
  · simp [Value.ownBlock]
  · intro e2
    simp [Value.ownBlock] at e2
    subst e2
    rw [hb] at hg
    simp at hg
noncomputable def facS (n : Nat) : List Pw := if 2 ≤ n ∧ n ≤ 4294967296 then facOf n else []
theorem facOf_len (n : Nat) : (facOf n).length = (pf n).length := by simp [facOf]
theorem facOf_get {n k q : Nat} (h : (pf n)[k]? = some q) : (facOf n)[k]? = some ⟨q, (vp q n : Nat)⟩ := by
  unfold facOf; rw [List.getElem?_map, h]; rfl
theorem facOf_ok {n : Nat} (h1 : 1 ≤ n) (hle : n ≤ 4294967296) : ∀ f ∈ facOf n, f.ok := by
  intro f hf
  obtain ⟨q, hq, rfl⟩ := List.mem_map.1 hf
  obtain ⟨pq, dq⟩ := (mem_pf h1).1 hq
  have h2 := Nat.le_of_dvd h1 dq
  have h3 := vp_le pq.1 h1
  refine ⟨?_, ?_, ?_⟩
  · show q < _; omega
  · show -9223372036854775808 ≤ ((vp q n : Nat) : Int); omega
  · show ((vp q n : Nat) : Int) < _; omega
/-- A new row of factors is told. -/
def FacAns (f : FuncId) (arg : Value) (l : List Pw) : Prop := ∀ w, Calls Tryz.prog f #[arg] w fun e w' => ∃ A C, e = .returned (.slice A l.length C) ∧ PowsAt w' A C l ∧ Below w.heap.size w w'
theorem FacAns.use {f : FuncId} {arg : Value} {l : List Pw} (h : FacAns f arg l) {w : World} {R : Ending → World → Prop} (k : ∀ A C w', PowsAt w' A C l → Below w.heap.size w w' → R (.returned (.slice A l.length C)) w') : Calls Tryz.prog f #[arg] w R :=
  (h w).mono fun _ _ ⟨A, C, he, h1, h2⟩ => by subst he; exact k _ _ _ h1 h2
theorem pows_nil (w : World) : PowsAt w none 0 [] := ⟨by simp, by unfold maxLen; omega, fun i f hf => by simp at hf⟩
theorem factor_few (n : Nat) (h : n < 2) : FacAns 72 (.int .u64 (n : Int)) [] := by
  intro w
  go_enter Tryz.func72, Tryz.ntmps72
  go_wp2
  go_ret
  exact ⟨none, 0, rfl, pows_nil _, Below.refl _ _⟩
theorem factor_great (n : Nat) (h2 : 2 ≤ n) (h : 4294967296 < n) (hn : n < 18446744073709551616) : FacAns 72 (.int .u64 (n : Int)) [] := by
  intro w
  go_enter Tryz.func72, Tryz.ntmps72
  go_wp2
  go_ret
  exact ⟨none, 0, rfl, pows_nil _, Below.refl _ _⟩

set_option maxRecDepth 100000 in
set_option maxHeartbeats 4000000 in
theorem factor_walk (n0 : Nat) (h2 : 2 ≤ n0) (hle : n0 ≤ 4294967296) : FacAns 72 (.int .u64 (n0 : Int)) (facOf n0) := by
  intro w
  have HG := gather_any n0 h2 hle w
  have H1 : Hid (1 ≤ n0) := by unfold Hid; omega
  obtain ⟨i1, hi1, hz1, hs1, hb1⟩ := info_parts infoPw
  go_enter Tryz.func72, Tryz.ntmps72
  go_wp2_with (go_at_call 88; refine HG.mono ?_; rintro e w1 ⟨c, rfl, hM, hC, hB1⟩; refine Hid.out ?_)
  unfold Hid
  obtain ⟨D, hown, ha, hh⟩ := hM
  have HA : Hid (∀ q : Nat, D.atKey (keyU q) (.lit (.int .i64 0)) = .lit (.int .i64 (c q : Int))) := ha
  have HH : Hid (∀ q : Nat, has D (keyU q) = decide (0 < c q)) := hh
  have HC : Hid (Cnt n0 c) := hC
  have hpl := pf_few H1.out hle
  obtain ⟨sz, hsz⟩ : ∃ sz, Maps.size D = sz := ⟨_, rfl⟩
  have HSZ : Hid (Maps.size D = sz) := hsz
  have hsz12 : sz ≤ 11 := by
    obtain ⟨ks, k1, k2, k3⟩ := size_keys hown
    have := nodup_sub_le k1 (l2 := pf n0) fun x hx => (cnt_pos hC H1.out x).1 (by have := k3 x hx; rw [hh] at this; exact of_decide_eq_true this)
    omega
  have hbw : w.heap.size < w1.heap.size := hown.lt
  clear ha hh hC hsz HG
  go_wp2_with (first
    | (at_len; refine wpList_len_own _ rfl _ 134 rfl 22 3 Tryz.underlying134 _ w.heap.size 4294967297 D rfl hown ?_; rw [HSZ.out])
    | (at_make; refine Hid.out ?_))
  unfold Hid
  refine wpList_make_own _ rfl _ _ 76 rfl w.heap.size 93 i1 _ 2 Tryz.underlying76 hi1 hz1 hs1 .i64 .i64 (sz : Int) sz rfl rfl rfl (by rw [hb1]; omega) (by unfold maxLen; omega) (by omega) ?_
  intro w2 hR0 hG2
  have hown2 := hown.kept hG2 (by simp)
  have hB2 : Below w.heap.size w w2 := hB1.grown hG2 hB1.size (fun k ek => by cases ek)
  have hbw2 : w.heap.size < w2.heap.size := hown2.lt
  have hc3 := cell_new w2 (.map (some w.heap.size)) 134
  have hB3 : Below w2.heap.size w2 (w2.alloc (.cells #[.map (some w.heap.size)] 134)) := below_alloc _ _
  have hs3 : (w2.alloc (.cells #[.map (some w.heap.size)] 134)).heap.size = w2.heap.size + 1 := by simp
  have hown3 := hown2.alloc (.cells #[.map (some w.heap.size)] 134)
  obtain ⟨w3, hw3⟩ : ∃ w3, w2.alloc (.cells #[.map (some w.heap.size)] 134) = w3 := ⟨_, rfl⟩
  rw [hw3] at hc3 hB3 hs3 hown3
  have HW3 : Hid (w2.alloc (.cells #[.map (some w.heap.size)] 134) = w3) := hw3
  have HS : SortedAns 113 #[.pointer (some ⟨w2.heap.size, 0, none⟩)] w3 (KeysAre D) := by
    refine sorted_any _ _ (enters_of Tryz.func113 (by kernel_rfl) rfl) _ w3 (stops_mono (keysI_stops 3 (by omega) w2.heap.size w.heap.size 4294967297 D w3 (by omega) hc3 hown3) (by rw [HSZ.out]; omega)) fun ss hk => ?_
    have hmem : ∀ x, x ∈ ss ↔ x ∈ pf n0 := fun x => by rw [hk.2, HH.out, decide_eq_true_iff, cnt_pos HC.out H1.out]
    refine ⟨?_, ?_, fun x hx => ?_⟩
    · obtain ⟨q, hq, hd⟩ := has_prime n0 h2
      have := (hmem q).2 ((mem_pf H1.out).2 ⟨hq, hd⟩)
      exact List.length_pos_of_mem this
    · have := nodup_sub_le hk.1 (fun x hx => (hmem x).1 hx); omega
    · have := Nat.le_of_dvd H1.out ((mem_pf H1.out).1 ((hmem x).1 hx)).2; omega
  clear hw3 hc3 hown hown2 hG2
  go_wp2_with (first
    | (go_at_call 89; refine (keysI_any _ _).mono ?_; rintro e w' ⟨rfl, hw'⟩; rw [HW3.out] at hw'; subst hw')
    | (go_at_call 55; refine HS.mono ?_; rintro e w4 ⟨g, cap, ss, rfl, hk1, ⟨ss', hk2, hk3⟩, hk4, hB4⟩; refine Hid.out ?_))
  unfold Hid
  have hss : ss = pf n0 := keys_pf HC.out H1.out HH.out hk1 hk2 hk3
  subst hss
  have hlen : (facOf n0).length = (pf n0).length := facOf_len n0
  obtain ⟨L, hL⟩ : ∃ L, (pf n0).length = L := ⟨_, rfl⟩
  have HL : Hid ((pf n0).length = L) := hL
  have HF : Hid ((facOf n0).length = L) := hlen.trans hL
  rw [hL] at hpl hk4
  rw [hL]
  have hB24 : Below w2.heap.size w2 w4 := bb hB3 hB4
  have hBw4 : Below w.heap.size w w4 := hB2.trans (hB24.mono (by omega))
  have hown4 : w4.ownsMap Tryz.prog 22 (plainElem Tryz.prog 3) w.heap.size 4294967297 D := by
    obtain ⟨es, clock, q1, q2, q3, q4⟩ := hown3
    exact ⟨es, clock, (hB4.block _ (by omega)).trans q1, q2, q3, q4⟩
  have hR4 := owns_below hR0 hB24 (Nat.le_refl _)
  replace hk4 := owns_mono hk4 (base' := w.heap.size) (by omega)
  clear hB4 hB3 hown3 hR0 hk1 hk2 hk3 HS hlen hL hB1 hB2 hB24 hs3
  go_wp2
  go_loopw [4, 22] (fun out v wr => ∃ k : Nat, v = .int .i64 (k : Int) ∧ k ≤ L ∧ PRow wr w.heap.size out k (facOf n0) ∧ Hid (wr.ownsMap Tryz.prog 22 (plainElem Tryz.prog 3) w.heap.size 4294967297 D) ∧ wr.ownsRow w.heap.size 22 1 (.slice (some ⟨g, 0, none⟩) L cap) L ((pf n0).map encU) ∧ Below w.heap.size w wr) (fun _ v _ => L - (intOf v).toNat)
  case atStart => exact ⟨0, rfl, by omega, ⟨[], hR4, fun i f hi => absurd hi (by omega)⟩, hown4, hk4, hBw4⟩
  case round =>
    clear hown4 hk4 hBw4 hR4
    obtain ⟨k, rfl, hk, HP, HO, hRk, hB⟩ := hrel
    by_cases hlt : k < L
    · obtain ⟨q, hq⟩ : ∃ q, (pf n0)[k]? = some q := ⟨_, List.getElem?_eq_getElem (by rw [HL.out]; exact hlt)⟩
      have hck : wr.cell? ⟨g, k, none⟩ = some (.int .u64 (q : Int)) := (hRk.cellAt k (by omega)).trans (by rw [List.getElem?_map, hq]; rfl)
      obtain ⟨pq, dq⟩ := (mem_pf H1.out).1 (List.mem_of_getElem? hq)
      have hqle := Nat.le_of_dvd H1.out dq
      obtain ⟨e, he⟩ : ∃ e, vp q n0 = e := ⟨_, rfl⟩
      have hele : e < n0 := he ▸ vp_le pq.1 H1.out
      have HE : Hid (c q = e) := ((HC.out q).1 pq).trans he
      have HX : Hid ((facOf n0)[k]? = some ⟨q, (e : Int)⟩) := he ▸ facOf_get hq
      have HKQ : Hid (keyOf Tryz.prog 22 (.int .u64 (q : Int)) = some (keyU q)) := keyOf_mk (x := q) (by omega)
      obtain ⟨ys, hO, hys⟩ := HP
      have hnews : ∀ i u, [Value.int .u64 (q : Int), .int .i64 (e : Int)][i]? = some u → (wr.alloc (.cells #[.int .u64 (q : Int), .int .i64 (e : Int)] 93)).cell? ((⟨wr.heap.size, 0, none⟩ : Addr).add i) = some u := by
        intro i u hu
        rw [Addr.add_lit]
        rw [World.cell?_alloc_at _ _ _ _ rfl]
        match i, hu with
        | 0, hu => cases hu; rfl
        | 1, hu => cases hu; rfl
        | i + 2, hu => simp at hu
      have hO2 := hO.alloc (.cells #[.int .u64 (q : Int), .int .i64 (e : Int)] 93)
      have hBa : Below w.heap.size w (wr.alloc (.cells #[.int .u64 (q : Int), .int .i64 (e : Int)] 93)) := bb hB (below_alloc _ _)
      have hMa := World.ownsMap.alloc HO.out (.cells #[.int .u64 (q : Int), .int .i64 (e : Int)] 93)
      have hRa := hRk.alloc (.cells #[.int .u64 (q : Int), .int .i64 (e : Int)] 93)
      have HMa : Hid ((wr.alloc (.cells #[.int .u64 (q : Int), .int .i64 (e : Int)] 93)).ownsMap Tryz.prog 22 (plainElem Tryz.prog 3) w.heap.size 4294967297 D) := hMa
      have HRa : Hid ((wr.alloc (.cells #[.int .u64 (q : Int), .int .i64 (e : Int)] 93)).ownsRow w.heap.size 22 1 (.slice (some ⟨g, 0, none⟩) L cap) L ((pf n0).map encU)) := hRa
      clear hq pq dq he hMa hRa hRk
      go_wp2_with (first
        | (at_lookup; refine wpList_lookup_own_int _ rfl _ _ 134 rfl 22 3 .i64 keyed64 Tryz.underlying134 Tryz.underlying3 (zeroInt _) w.heap.size 4294967297 _ rfl HO.out _ _ rfl HKQ.out ?_; intro cc hat hwc; obtain rfl := cnt_eq hat (HA.out q) HE.out; clear hat hwc)
        | (at_builtin; refine Hid.out ?_))
      unfold Hid
      refine (wpList_append_own _ rfl _ _ 76 rfl w.heap.size 93 i1 _ 2 16 Tryz.underlying76 hi1 hz1 hs1 hb1 rfl (by omega) _ k _ rfl hO2 ⟨wr.heap.size, 0, none⟩ 1 1 [.int .u64 (q : Int), .int .i64 (e : Int)] rfl rfl hnews (by simp [Value.oneCell']) (by unfold maxLen; omega) (by omega) hBa.size ?_)
      intro v' w5 hO3 hG _
      have HP3 : PRow w5 w.heap.size v' (k + 1) (facOf n0) := PRow.push (f := ⟨q, (e : Int)⟩) hO.1 hys HX.out hO3
      have hB5 : Below w.heap.size w w5 := hBa.grown hG hBa.size (fun n hn => (hO2.lt n hn).1)
      have HM5 : Hid (w5.ownsMap Tryz.prog 22 (plainElem Tryz.prog 3) w.heap.size 4294967297 D) := World.ownsMap.kept HMa.out hG (map_row HMa.out hO2)
      have hR5 := World.ownsRow.kept HRa.out hG (owns_apart HRa.out hO2 (by decide))
      clear hO3 hG hO2 hBa hnews hys hO HMa HRa HO
      go_wp2
      go_roundw
      case rel => exact ⟨k + 1, by go_num, by omega, HP3, HM5, hR5, hB5⟩
      case measure => simp [intOf]; omega
    · obtain rfl : k = L := by omega
      obtain ⟨A, C, hv, hPA⟩ := PRow.to (by rw [HF.out]; exact HP) (facOf_ok H1.out hle)
      rw [HF.out] at hv
      subst hv
      go_wp2
      go_ret
      exact ⟨A, C, by rw [HF.out]; rfl, hPA, hB⟩
end Go.Proofs.YtpjfapibjihbbaaGreatDoor
/-
  Contracts of sieve's Factor, Prime and provable, of all words.
-/
namespace Go.Proofs.YtpjfapibjihbbaaGreatDoor
set_option linter.unusedVariables false
open Go.RowKit

theorem factor_any (n : Nat) (hn : n < 18446744073709551616) : FacAns 72 (.int .u64 (n : Int)) (facS n) := by
  unfold facS
  by_cases h2 : n < 2
  · rw [if_neg (by omega)]; exact factor_few n h2
  · by_cases h : n ≤ 4294967296
    · rw [if_pos ⟨by omega, h⟩]; exact factor_walk n (by omega) h
    · rw [if_neg (by omega)]; exact factor_great n (by omega) (by omega) hn

/-- A call that answers so in every world, makes memory, and leaves all that was there. -/
def AnsM (f : FuncId) (args : Array Value) (v : Value) : Prop := ∀ w, Calls Tryz.prog f args w fun e w' => e = .returned v ∧ Below w.heap.size w w'
theorem AnsM.use {f : FuncId} {args : Array Value} {v : Value} (h : AnsM f args v) {w : World} {R : Ending → World → Prop} (k : ∀ w', Below w.heap.size w w' → R (.returned v) w') : Calls Tryz.prog f args w R :=
  (h w).mono fun _ _ ⟨he, hb⟩ => by subst he; exact k _ hb
theorem AnsM.to {f : FuncId} {args : Array Value} {v v' : Value} (h : AnsM f args v) (e : v = v') : AnsM f args v' := e ▸ h
theorem Ans.toM {f : FuncId} {args : Array Value} {v : Value} (h : Ans f args v) : AnsM f args v := fun w => h.use w fun n => ⟨rfl, below_drewN w n⟩
theorem AnsM.toB {f : FuncId} {args : Array Value} {v : Value} (h : AnsM f args v) (W : World) : AnsB W f args v := fun w _ => h w

theorem prime_none (n : Int) (HF : FacAns 72 (.int .u64 n) []) : AnsM 70 #[.int .u64 n] (.bool false) := by
  intro w
  go_enter Tryz.func70, Tryz.ntmps70
  go_wp2_with (go_at_call 72; with_reducible refine FacAns.use HF fun A C w1 hP hB => ?_)
  go_ret
  exact ⟨rfl, hB⟩
theorem prime_some (n q : Nat) (l : List Pw) (x : Pw) (hx : l[0]? = some x) (hq : x.q = q) (b : Bool) (hb : ((q : Int) == (n : Int)) = b) (HF : FacAns 72 (.int .u64 (n : Int)) l) : AnsM 70 #[.int .u64 (n : Int)] (.bool b) := by
  intro w
  have hlen : 0 < l.length := (List.getElem?_eq_some_iff.1 hx).1
  obtain ⟨L, hL⟩ : ∃ L, l.length = L := ⟨_, rfl⟩
  have HL : Hid (l.length = L) := hL
  rw [hL] at hlen
  have HX : Hid (l[0]? = some x) := hx
  have HQ : Hid (x.q = q) := hq
  clear hx hq hL
  have hgd : decide ((0 : Int) < (L : Int)) = true := decide_eq_true (by omega)
  go_enter Tryz.func70, Tryz.ntmps70
  go_wp2_with (go_at_call 72; with_reducible refine FacAns.use HF fun A C w1 hP hB => ?_; rw [HL.out]; obtain ⟨bk, o, hA, hbl, c0, c1, hok⟩ := hP.get 0 x HX.out; subst hA; rw [HQ.out] at c0; simp only [Nat.zero_mul, Nat.add_zero] at c0)
  go_ret
  exact ⟨rfl, hB⟩
theorem pf_head {n : Nat} (h2 : 2 ≤ n) : ∃ q, (pf n)[0]? = some q ∧ (q = n ↔ Prm n) := by
  obtain ⟨r, hr, hd⟩ := has_prime n h2
  have hm := (mem_pf (show 1 ≤ n by omega)).2 ⟨hr, hd⟩
  have hpos := List.length_pos_of_mem hm
  obtain ⟨q, hq⟩ : ∃ q, (pf n)[0]? = some q := ⟨_, List.getElem?_eq_getElem hpos⟩
  obtain ⟨pq, dq⟩ := (mem_pf (show 1 ≤ n by omega)).1 (List.mem_of_getElem? hq)
  refine ⟨q, hq, fun e => e ▸ pq, fun hp => ?_⟩
  rcases hp.2 q dq with e | e
  · have := pq.1; omega
  · exact e
/-- Prime. -/
theorem prime_any (n : Nat) (hn : n < 18446744073709551616) : AnsM 70 #[.int .u64 (n : Int)] (.bool (prm32 n)) := by
  have HF := factor_any n hn
  unfold facS at HF
  by_cases h : 2 ≤ n ∧ n ≤ 4294967296
  · rw [if_pos h] at HF
    obtain ⟨q, hq, hi⟩ := pf_head h.1
    refine prime_some n q (facOf n) ⟨q, (vp q n : Nat)⟩ (facOf_get hq) rfl _ ?_ HF
    unfold prm32
    rw [decide_eq_true h.2, Bool.and_true, Bool.eq_iff_iff, prmB_iff, beq_iff_eq, ← hi]
    omega
  · rw [if_neg h] at HF
    refine (prime_none (n : Int) HF).to ?_
    unfold prm32
    congr 1
    by_cases h1 : n ≤ 4294967296
    · rw [prmB_no fun hp => h ⟨hp.1, h1⟩, Bool.false_and]
    · rw [decide_eq_false h1, Bool.and_false]
theorem provable_even (p : Nat) (hn : p < 18446744073709551616) (h : ((p : Int) % 2 == 1) = false) : AnsM 53 #[.int .u64 (p : Int)] (.bool false) := by
  intro w
  go_enter Tryz.func53, Tryz.ntmps53
  go_wp2
  go_ret
  exact ⟨rfl, Below.refl _ _⟩
theorem provable_great (p : Nat) (hn : p < 18446744073709551616) (h : ((p : Int) % 2 == 1) = true) (hp : 65536 < p) : AnsM 53 #[.int .u64 (p : Int)] (.bool false) := by
  intro w
  go_enter Tryz.func53, Tryz.ntmps53
  go_wp2
  go_ret
  exact ⟨rfl, Below.refl _ _⟩
theorem provable_walk (p : Nat) (h : ((p : Int) % 2 == 1) = true) (hp : p ≤ 65536) (b : Bool) (HP : AnsM 70 #[.int .u64 (p : Int)] (.bool b)) : AnsM 53 #[.int .u64 (p : Int)] (.bool b) := by
  intro w
  go_enter Tryz.func53, Tryz.ntmps53
  go_wp2_with (go_at_call 70; with_reducible refine AnsM.use HP fun w1 hB => ?_)
  go_ret
  exact ⟨rfl, hB⟩
/-- provable. -/
theorem provable_any (p : Nat) (hn : p < 18446744073709551616) : AnsM 53 #[.int .u64 (p : Int)] (.bool (oddB p)) := by
  unfold oddB
  by_cases ho : p % 2 = 1
  · have h : ((p : Int) % 2 == 1) = true := by rw [beq_iff_eq]; omega
    by_cases hp : p ≤ 65536
    · refine provable_walk p h hp _ ((prime_any p hn).to ?_)
      unfold prm32
      rw [decide_eq_true (show p ≤ 4294967296 by omega), decide_eq_true hp, Bool.and_true, Bool.and_true]
      congr 1
      by_cases h3 : 3 ≤ p
      · rw [decide_eq_true h3, Bool.and_true]
      · rw [prmB_no fun hp' => by have := hp'.1; omega, Bool.false_and]
    · rw [decide_eq_false hp, Bool.and_false]; exact provable_great p hn h (by omega)
  · have h : ((p : Int) % 2 == 1) = false := by rw [beq_eq_false_iff_ne]; omega
    refine (provable_even p hn h).to ?_
    congr 1
    by_cases h3 : 3 ≤ p
    · rw [prmB_no fun hp => ?_, Bool.false_and, Bool.false_and]
      rcases hp.2 2 ⟨p / 2, by omega⟩ with e | e <;> omega
    · rw [decide_eq_false h3, Bool.and_false, Bool.false_and]
end Go.Proofs.YtpjfapibjihbbaaGreatDoor
/-
  Contracts of package modular's Mul and Pow of small numbers (below 2^32), and of what lies under them. No condition but these.
-/
namespace Go.Proofs.YtpjfapibjihbbaaGreatDoor
set_option linter.unusedVariables false
open Go.RowKit

/-- A cell of a block that was there stays. -/
theorem kcell {W w : World} (hb : Below W.heap.size W w) {b o : Nat} {v : Value} (hl : b < W.heap.size) (h : W.cell? ⟨b, o, none⟩ = some v) : w.cell? ⟨b, o, none⟩ = some v := by
  rw [(bcell hb).1 b o hl]; exact h
theorem tcells (w : World) (a b : Value) (t : TypeId) : (w.alloc (.cells #[a, b] t)).cell? ⟨w.heap.size, 0, none⟩ = some a ∧ (w.alloc (.cells #[a, b] t)).cell? ⟨w.heap.size, 1, none⟩ = some b := by
  constructor <;> (rw [World.cell?_alloc_at _ _ _ _ rfl]; rfl)
theorem div_small (lo y d r : Nat) (hy : 0 < y) (hy' : y < 18446744073709551616) (hl : lo < 18446744073709551616) (hd : lo / y = d) (hr : lo % y = r) : Ans 158 #[.int .u64 0, .int .u64 (lo : Int), .int .u64 (y : Int)] (.tuple #[.int .u64 (d : Int), .int .u64 (r : Int)]) := by
  intro w
  have e1 : ((y : Int) == 0) = false := by rw [beq_eq_false_iff_ne]; omega
  have e2 : ¬ (y : Int) = 0 := by omega
  have e3 : Int.tdiv (lo : Int) (y : Int) = (d : Int) := by rw [← Int.ofNat_tdiv, hd]
  have e4 : Int.tmod (lo : Int) (y : Int) = (r : Int) := by rw [← Int.ofNat_tmod, hr]
  have e5 : (lo : Int) / (y : Int) = (d : Int) := by rw [← Int.natCast_ediv, hd]
  have e6 : (lo : Int) % (y : Int) = (r : Int) := by rw [← Int.natCast_emod, hr]
  have hdl : d < 18446744073709551616 := by have := Nat.div_le_self lo y; omega
  have hrl : r < 18446744073709551616 := by have := Nat.mod_lt lo hy; omega
  clear hd hr
  go_enter Tryz.func158, Tryz.ntmps158
  go_wp2
  go_region
  go_wp2
  go_ret2
  exact ⟨rfl, 1, rfl⟩
theorem rem_small (lo y d r : Nat) (hy : 0 < y) (hy' : y < 18446744073709551616) (HD : Ans 158 #[.int .u64 0, .int .u64 (lo : Int), .int .u64 (y : Int)] (.tuple #[.int .u64 (d : Int), .int .u64 (r : Int)])) : Ans 151 #[.int .u64 0, .int .u64 (lo : Int), .int .u64 (y : Int)] (.int .u64 (r : Int)) := by
  intro w
  go_enter Tryz.func151, Tryz.ntmps151
  go_wp2_with (go_at_call 158; with_reducible refine Ans.use HD _ fun n1 => ?_)
  go_ret
  exact ⟨rfl, _, rfl⟩
theorem mul_walk (a b m l r : Nat) (hm0 : 0 < m) (hm : m < 18446744073709551616) (HM : Ans 128 #[.int .u64 (a : Int), .int .u64 (b : Int)] (.tuple #[.int .u64 0, .int .u64 (l : Int)]))
    (HD : Ans 151 #[.int .u64 0, .int .u64 (l : Int), .int .u64 (m : Int)] (.int .u64 (r : Int))) : Ans 139 #[.int .u64 (a : Int), .int .u64 (b : Int), .int .u64 (m : Int)] (.int .u64 (r : Int)) := by
  intro w
  go_enter Tryz.func139, Tryz.ntmps139
  go_wp2_with (first | (go_at_call 128; with_reducible refine Ans.use HM _ fun n1 => ?_) | (go_at_call 151; with_reducible refine Ans.use HD _ fun n2 => ?_))
  go_ret
  exact ⟨rfl, _, rfl⟩
theorem mul_small (a b m : Nat) (ha : a < 4294967296) (hb : b < 4294967296) (hm : m < 4294967296) (hm0 : 0 < m) : Ans 139 #[.int .u64 a, .int .u64 b, .int .u64 m] (.int .u64 ((a * b % m : Nat) : Int)) := by
  have h1 : a * b ≤ 4294967295 * 4294967295 := Nat.mul_le_mul (by omega) (by omega)
  have HM := mul64_nat a b (by omega) (by omega)
  rw [Nat.div_eq_of_lt (show a * b < 18446744073709551616 by omega), Nat.mod_eq_of_lt (show a * b < 18446744073709551616 by omega)] at HM
  exact mul_walk a b m (a * b) _ hm0 (by omega) HM (rem_small (a * b) m _ _ hm0 (by omega) (div_small (a * b) m _ _ hm0 (by omega) (by omega) rfl rfl))
theorem pow_step_odd (p x e m : Nat) (h : e % 2 = 1) : (p * x % m) * (x * x % m) ^ (e / 2) % m = p * x ^ e % m := by
  conv => rhs; rw [show e = 2 * (e / 2) + 1 by omega]
  rw [Nat.pow_succ, Nat.pow_mul, Nat.pow_two, Nat.mul_mod, Nat.mod_mod, ← Nat.pow_mod, ← Nat.mul_mod, Nat.mul_assoc, Nat.mul_comm x]
theorem pow_step_even (p x e m : Nat) (h : ¬ e % 2 = 1) : p * (x * x % m) ^ (e / 2) % m = p * x ^ e % m := by
  conv => rhs; rw [show e = 2 * (e / 2) by omega]
  rw [Nat.pow_mul, Nat.pow_two, Nat.mul_mod, ← Nat.pow_mod, ← Nat.mul_mod]

set_option maxHeartbeats 1000000 in
/-- A power's rest. -/
theorem pow_small (a e m : Nat) (ha : a < 4294967296) (he : e < 18446744073709551616) (hm : m < 4294967296) (hm0 : 0 < m) :
    Ans 112 #[.int .u64 a, .int .u64 e, .int .u64 m] (.int .u64 ((a ^ e % m : Nat) : Int)) := by
  intro w
  have hm1 : ((m : Int) == 0) = false := by simp; omega
  go_enter Tryz.func112, Tryz.ntmps112
  go_wp2
  go_loopw [0, 1, 7] (fun x y z W => ∃ b f p n : Nat, x = .int .u64 b ∧ y = .int .u64 f ∧ z = .int .u64 p ∧ b < 4294967296 ∧ f < 18446744073709551616 ∧ p < m ∧ Hid (p * b ^ f % m = a ^ e % m) ∧ W = w.drewN n) (fun _ y _ _ => (intOf y).toNat)
  case atStart => exact ⟨a, e, 1 % m, 0, rfl, rfl, by go_num, ha, he, Nat.mod_lt _ hm0, by unfold Hid; rw [Nat.mul_mod, Nat.mod_mod, ← Nat.mul_mod, Nat.one_mul], rfl⟩
  case round =>
    obtain ⟨b, f, p, n, rfl, rfl, rfl, hb, hf, hp, HI, HW⟩ := hrel
    by_cases h0 : 0 < f
    · have ha1 := and_one f (by omega) (by omega)
      by_cases h1 : f % 2 = 1
      · have h2 : ((f : Int) % 2 == 1) = true := by simp; omega
        have HS := pow_step_odd p b f m h1
        obtain ⟨q, hq⟩ : ∃ q, p * b % m = q := ⟨_, rfl⟩
        obtain ⟨c, hc⟩ : ∃ c, b * b % m = c := ⟨_, rfl⟩
        have HM : Ans 139 #[.int .u64 p, .int .u64 b, .int .u64 m] (.int .u64 (q : Int)) := hq ▸ mul_small p b m (by omega) hb hm hm0
        have HQ : Ans 139 #[.int .u64 b, .int .u64 b, .int .u64 m] (.int .u64 (c : Int)) := hc ▸ mul_small b b m hb hb hm hm0
        rw [hq, hc] at HS
        replace HS : Hid (q * c ^ (f / 2) % m = a ^ e % m) := HS.trans HI.out
        have hql : q < m := hq ▸ Nat.mod_lt _ hm0
        have hcl : c < m := hc ▸ Nat.mod_lt _ hm0
        clear hq hc
        go_wp2_with (first | (go_at_call 139; with_reducible refine Ans.use HM _ fun n1 => ?_) | (go_at_call 139; with_reducible refine Ans.use HQ _ fun n2 => ?_))
        go_roundw
        case rel => exact ⟨c, f / 2, q, n + n1 + n2, rfl, by go_num, rfl, by omega, by omega, hql, HS, rfl⟩
        case measure => simp [intOf]; omega
      · have h2 : ((f : Int) % 2 == 1) = false := by simp; omega
        have HS := pow_step_even p b f m h1
        obtain ⟨c, hc⟩ : ∃ c, b * b % m = c := ⟨_, rfl⟩
        have HQ : Ans 139 #[.int .u64 b, .int .u64 b, .int .u64 m] (.int .u64 (c : Int)) := hc ▸ mul_small b b m hb hb hm hm0
        rw [hc] at HS
        replace HS : Hid (p * c ^ (f / 2) % m = a ^ e % m) := HS.trans HI.out
        have hcl : c < m := hc ▸ Nat.mod_lt _ hm0
        clear hc
        go_wp2_with (go_at_call 139; with_reducible refine Ans.use HQ _ fun n2 => ?_)
        go_roundw
        case rel => exact ⟨c, f / 2, p, n + n2, rfl, by go_num, rfl, by omega, by omega, hp, HS, rfl⟩
        case measure => simp [intOf]; omega
    · obtain rfl : f = 0 := by omega
      have HE : Hid (p = a ^ e % m) := by
        have h := HI.out
        rw [Nat.pow_zero, Nat.mul_one, Nat.mod_eq_of_lt hp] at h
        exact h
      clear HI
      go_wp2
      go_ret
      exact ⟨ret_int (by rw [HE.out]), n, rfl⟩

end Go.Proofs.YtpjfapibjihbbaaGreatDoor

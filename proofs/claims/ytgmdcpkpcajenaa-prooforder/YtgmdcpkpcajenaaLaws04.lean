/-
  The walks of layer 4's statements on primes: each returns true, of all rows whose factors are fewer than memory holds.
-/
import Derived.Test.YtgmdcpkpcajenaaPf9
import Derived.Test.YtgmdcpkpcajenaaDocP
namespace Go.Proofs.Ytgmdcpkpcajenaa
set_option linter.unusedVariables false
open Go.RowKit

/-- held: an entry, and whether the row is right; if it is, the entry's number is a prime by Lucas' test. -/
theorem held_any (W : World) (A : Option Addr) (C : Nat) (es : List En) (hE : EntsAt W A C es) (hfs : ∀ x ∈ es, x.fs.length * 16 ≤ 140737488355328) (k : Int) (hk : k < 9223372036854775808) :
    ∃ (p g : Nat) (A' : Option Addr) (n C' : Nat) (b : Bool), AnsB W 14 #[.slice A es.length C, .int .i64 k] (.tuple #[.agg #[.int .u64 (p : Int), .int .u64 (g : Int), .slice A' n C'], .bool b]) ∧
      (b = true → p < 9223372036854775808 ∧ g < 18446744073709551616 ∧ ∃ l, Luc p g l) := by
  have hcl := hE.cap
  have hcm := hE.max
  unfold maxLen at hcm
  by_cases h : es.length ≤ 32 ∧ 0 ≤ k ∧ k < es.length
  · obtain ⟨h1, h2, h3⟩ := h
    obtain ⟨j, rfl⟩ := Int.eq_ofNat_of_zero_le h2
    have hj : j < es.length := by omega
    obtain ⟨x, hx⟩ : ∃ x, es[j]? = some x := ⟨_, List.getElem?_eq_getElem hj⟩
    have HR := rows_any W A C es hE (by omega) hfs
    obtain ⟨b, o, A', C', rfl, hb, c0, c1, c2, hP, hp, hg⟩ := hE.get j x hx
    cases ho : checkO es with
    | none =>
      refine ⟨x.p, x.g, A', x.fs.length, C', _, held_walk W b o es.length C j x.p x.g _ es 0 0 ⟨_, _, _, rfl⟩ (by omega) (by omega) hb c0 c1 c2 HR fun w A2 C2 hE2 => ?_, fun _ => ?_⟩
      · have := check_any w A2 C2 es hE2
        unfold checkV at this
        rw [if_neg (by omega), ho] at this
        exact this
      · have hl := row_luc ho j x hx
        have hb := check_all ho j hj
        rw [bad_some hx] at hb
        have hgd : Gd x.p := by
          have : rightB (es.take j) x = true := by simpa using hb
          unfold rightB at this
          simp only [Bool.and_eq_true, decide_eq_true_eq] at this
          exact this.1
        exact ⟨hgd.2.2, hg, _, hl⟩
    | some i =>
      refine ⟨x.p, x.g, A', x.fs.length, C', _, held_walk W b o es.length C j x.p x.g _ es i 3 ⟨_, _, _, rfl⟩ (by omega) (by omega) hb c0 c1 c2 HR fun w A2 C2 hE2 => ?_, fun hf => ?_⟩
      · have := check_any w A2 C2 es hE2
        unfold checkV at this
        rw [if_neg (by omega), ho] at this
        exact this
      · simp at hf
  · refine ⟨0, 0, none, 0, 0, false, held_out W A es.length C k (by omega) (by omega), fun hf => by cases hf⟩

set_option maxHeartbeats 1000000 in
/-- The row isn't right, or there is no such entry: true. -/
theorem primes0 (W : World) (s : Value) (k d p g : Int) (A' : Option Addr) (n C' : Nat) (HA : AnsB W 9 #[] (.bool true))
    (HH : AnsB W 14 #[s, .int .i64 k] (.tuple #[.agg #[.int .u64 p, .int .u64 g, .slice A' n C'], .bool false])) :
    AnsB W 4 #[s, .int .i64 k, .int .u64 d] (.bool true) := by
  intro w hw
  go_enter Try.func4, Try.ntmps4
  go_wp2_with (first | (go_at_call 9; with_reducible refine AnsB.use HA hw fun w1 hb1 => ?_; have hB1 := bb hw hb1) | (go_at_call 14; with_reducible refine AnsB.use HH hB1 fun w2 hb2 => ?_))
  go_ret
  exact ⟨rfl, bb (bb hb1 hb2) (below_alloc _ _)⟩
set_option maxHeartbeats 1000000 in
theorem primes1 (W : World) (s : Value) (k d p g r : Int) (A' : Option Addr) (n C' : Nat) (p0 : 0 ≤ p) (p1 : p < 18446744073709551616) (d1 : d < 18446744073709551616) (h : d < 2 ∨ (2 ≤ d ∧ p ≤ d) ∨ (2 ≤ d ∧ d < p ∧ p % d = r ∧ (r != 0) = true ∧ (d == 0) = false)) (HA : AnsB W 9 #[] (.bool true))
    (HH : AnsB W 14 #[s, .int .i64 k] (.tuple #[.agg #[.int .u64 p, .int .u64 g, .slice A' n C'], .bool true])) :
    AnsB W 4 #[s, .int .i64 k, .int .u64 d] (.bool true) := by
  intro w hw
  rcases h with h | ⟨h, h'⟩ | ⟨h, h', h3, h4, h5⟩
  all_goals
    go_enter Try.func4, Try.ntmps4
    go_wp2_with (first | (go_at_call 9; with_reducible refine AnsB.use HA hw fun w1 hb1 => ?_; have hB1 := bb hw hb1) | (go_at_call 14; with_reducible refine AnsB.use HH hB1 fun w2 hb2 => ?_))
    go_ret
    exact ⟨rfl, bb (bb hb1 hb2) (below_alloc _ _)⟩
theorem primes_any (W : World) (A : Option Addr) (C : Nat) (es : List En) (hE : EntsAt W A C es) (hfs : ∀ x ∈ es, x.fs.length * 16 ≤ 140737488355328) (k : Int) (hk : k < 9223372036854775808) (d : Nat) (hd : d < 18446744073709551616) :
    AnsB W 4 #[.slice A es.length C, .int .i64 k, .int .u64 (d : Int)] (.bool true) := by
  obtain ⟨p, g, A', n, C', b, HH, hL⟩ := held_any W A C es hE hfs k hk
  cases b with
  | false => exact primes0 W _ k d p g A' n C' (alive_any W) HH
  | true =>
    obtain ⟨hp, hg, l, L⟩ := hL rfl
    refine primes1 W _ k d p g (p % d : Nat) A' n C' (by omega) (by omega) (by omega) ?_ (alive_any W) HH
    by_cases h1 : d < 2
    · exact Or.inl (by omega)
    · by_cases h2 : p ≤ d
      · exact Or.inr (Or.inl ⟨by omega, by omega⟩)
      · have := L.prime.no_div d (by omega) (by omega)
        exact Or.inr (Or.inr ⟨by omega, by omega, by simp, by simp; omega, by simp; omega⟩)
set_option maxHeartbeats 1000000 in
theorem order0 (W : World) (s : Value) (k x p g : Int) (A' : Option Addr) (n C' : Nat) (HA : AnsB W 9 #[] (.bool true))
    (HH : AnsB W 14 #[s, .int .i64 k] (.tuple #[.agg #[.int .u64 p, .int .u64 g, .slice A' n C'], .bool false])) :
    AnsB W 5 #[s, .int .i64 k, .int .u64 x] (.bool true) := by
  intro w hw
  go_enter Try.func5, Try.ntmps5
  go_wp2_with (first | (go_at_call 9; with_reducible refine AnsB.use HA hw fun w1 hb1 => ?_; have hB1 := bb hw hb1) | (go_at_call 14; with_reducible refine AnsB.use HH hB1 fun w2 hb2 => ?_))
  go_ret
  exact ⟨rfl, bb (bb hb1 hb2) (below_alloc _ _)⟩
set_option maxHeartbeats 1000000 in
theorem order1 (W : World) (s : Value) (k x p g m r v : Int) (A' : Option Addr) (n C' : Nat) (p0 : 1 < p) (p1 : p < 18446744073709551616) (x0 : 0 ≤ x) (x1 : x < 18446744073709551616)
    (hm : p - 1 = m) (hmw : IntKind.u64.wrap m = m) (m0 : ¬ m = 0) (m1 : (m == 0) = false) (hr : Int.tmod x m = r) (hr2 : x % m = r) (hrw : IntKind.u64.wrap r = r) (h : (v = 1 ∧ r = 0) ∨ ((v == 1) = false ∧ (r == 0) = false))
    (HA : AnsB W 9 #[] (.bool true))
    (HH : AnsB W 14 #[s, .int .i64 k] (.tuple #[.agg #[.int .u64 p, .int .u64 g, .slice A' n C'], .bool true]))
    (HP : Ans 15 #[.int .u64 g, .int .u64 x, .int .u64 p] (.int .u64 v)) :
    AnsB W 5 #[s, .int .i64 k, .int .u64 x] (.bool true) := by
  intro w hw
  rcases h with ⟨rfl, rfl⟩ | ⟨h1, h2⟩
  all_goals
    go_enter Try.func5, Try.ntmps5
    go_wp2_with (first | (go_at_call 9; with_reducible refine AnsB.use HA hw fun w1 hb1 => ?_; have hB1 := bb hw hb1) | (go_at_call 14; with_reducible refine AnsB.use HH hB1 fun w2 hb2 => ?_; obtain ⟨t0, t1, t2⟩ := three_cells w2 (.int .u64 p) (.int .u64 g) (.slice A' n C') 35; obtain ⟨V, hV⟩ : ∃ V, w2.alloc (.cells #[.int .u64 p, .int .u64 g, .slice A' n C'] 35) = V := ⟨_, rfl⟩; have hBV : Below w2.heap.size w2 V := hV ▸ below_alloc _ _; rw [hV] at t0 t1 t2))
    go_quiet ((go_at_call 15; with_reducible exact Ans.quiet0 HP))
    go_wp2
    go_ret
    exact ⟨rfl, bb (bb (bb hb1 hb2) hBV) (below_drewN _ _)⟩
theorem order_any (W : World) (A : Option Addr) (C : Nat) (es : List En) (hE : EntsAt W A C es) (hfs : ∀ x ∈ es, x.fs.length * 16 ≤ 140737488355328) (k : Int) (hk : k < 9223372036854775808) (x : Nat) (hx : x < 18446744073709551616) :
    AnsB W 5 #[.slice A es.length C, .int .i64 k, .int .u64 (x : Int)] (.bool true) := by
  obtain ⟨p, g, A', n, C', b, HH, hL⟩ := held_any W A C es hE hfs k hk
  cases b with
  | false => exact order0 W _ k x p g A' n C' (alive_any W) HH
  | true =>
    obtain ⟨hp, hg, l, L⟩ := hL rfl
    have h3 := L.three
    have e1 : (p : Int) - 1 = ((p - 1 : Nat) : Int) := by omega
    obtain ⟨m, hm⟩ : ∃ m, p - 1 = m := ⟨_, rfl⟩
    have hr : (x : Int) % (m : Int) = ((x % m : Nat) : Int) := by simp
    have hrl : x % m < m := Nat.mod_lt _ (by omega)
    have key := L.order_iff x
    rw [hm] at e1 key
    refine order1 W _ k x p g (m : Int) ((x % m : Nat) : Int) ((g ^ x % p : Nat) : Int) A' n C' (by omega) (by omega) (by omega) (by omega) e1 (wrap_small _ (by omega) (by omega)) (by omega) (by simp; omega) ?_ hr (wrap_small _ (by omega) (by omega)) ?_ (alive_any W) HH (rpow_any g p hg (by omega) (by omega) x hx)
    · rw [Int.tmod_eq_emod_of_nonneg (by omega)]; exact hr
    · by_cases h : g ^ x % p = 1
      · exact Or.inl ⟨by rw [h]; rfl, by rw [key.1 h]; rfl⟩
      · refine Or.inr ⟨by simp only [beq_eq_false_iff_ne]; omega, ?_⟩
        have : x % m ≠ 0 := fun e => h (key.2 e)
        simp only [beq_eq_false_iff_ne]; omega
set_option maxHeartbeats 1000000 in
theorem field0 (W : World) (s : Value) (k a b p g : Int) (A' : Option Addr) (n C' : Nat) (HA : AnsB W 9 #[] (.bool true))
    (HH : AnsB W 14 #[s, .int .i64 k] (.tuple #[.agg #[.int .u64 p, .int .u64 g, .slice A' n C'], .bool false])) :
    AnsB W 6 #[s, .int .i64 k, .int .u64 a, .int .u64 b] (.bool true) := by
  intro w hw
  go_enter Try.func6, Try.ntmps6
  go_wp2_with (first | (go_at_call 9; with_reducible refine AnsB.use HA hw fun w1 hb1 => ?_; have hB1 := bb hw hb1) | (go_at_call 14; with_reducible refine AnsB.use HH hB1 fun w2 hb2 => ?_))
  go_ret
  exact ⟨rfl, bb (bb hb1 hb2) (below_alloc _ _)⟩
set_option maxHeartbeats 2000000 in
theorem field1 (W : World) (s : Value) (k a b p g ra rb v1 v2 v3 : Int) (A' : Option Addr) (n C' : Nat) (p0 : 1 < p) (p1 : p < 18446744073709551616) (pz : (p == 0) = false) (a0 : 0 ≤ a) (a1 : a < 18446744073709551616) (b0 : 0 ≤ b) (b1 : b < 18446744073709551616)
    (hra : a % p = ra) (hrb : b % p = rb) (ra0 : 0 ≤ ra) (ra1 : ra < p)
    (h1 : ((v1 == 0) = false) ∨ (v1 = 0 ∧ (ra != 0) = false) ∨ (v1 = 0 ∧ (ra != 0) = true ∧ (rb != 0) = false))
    (h2 : (ra != 0) = false ∨ ((ra != 0) = true ∧ v2 = 1))
    (h3 : (v3 != 1) = true ∨ (v3 = 1 ∧ (ra == 1) = true) ∨ (v3 = 1 ∧ (ra == 1) = false ∧ (ra == p - 1) = true))
    (HA : AnsB W 9 #[] (.bool true))
    (HH : AnsB W 14 #[s, .int .i64 k] (.tuple #[.agg #[.int .u64 p, .int .u64 g, .slice A' n C'], .bool true]))
    (HM : Ans 16 #[.int .u64 a, .int .u64 b, .int .u64 p] (.int .u64 v1))
    (HP : Ans 15 #[.int .u64 a, .int .u64 (p - 1), .int .u64 p] (.int .u64 v2))
    (HQ : Ans 16 #[.int .u64 a, .int .u64 a, .int .u64 p] (.int .u64 v3)) :
    AnsB W 6 #[s, .int .i64 k, .int .u64 a, .int .u64 b] (.bool true) := by
  intro w hw
  rcases h1 with h1 | ⟨rfl, h1⟩ | ⟨rfl, h1, h1'⟩ <;> rcases h2 with h2 | ⟨h2, rfl⟩ <;> rcases h3 with h3 | ⟨rfl, h3⟩ | ⟨rfl, h3, h3'⟩
  all_goals first
    | (exfalso; rw [h2] at h1; exact absurd h1 (by decide))
    | (go_enter Try.func6, Try.ntmps6
       go_wp2_with (first | (go_at_call 9; with_reducible refine AnsB.use HA hw fun w1 hb1 => ?_; have hB1 := bb hw hb1) | (go_at_call 14; with_reducible refine AnsB.use HH hB1 fun w2 hb2 => ?_) | (go_at_call 16; with_reducible refine Ans.use HM _ fun n1 => ?_) | (go_at_call 15; with_reducible refine Ans.use HP _ fun n2 => ?_) | (go_at_call 16; with_reducible refine Ans.use HQ _ fun n3 => ?_))
       go_ret
       exact ⟨rfl, bb (bb (bb hb1 hb2) (below_alloc _ _)) (below_drewN _ _)⟩)
theorem field_any (W : World) (A : Option Addr) (C : Nat) (es : List En) (hE : EntsAt W A C es) (hfs : ∀ x ∈ es, x.fs.length * 16 ≤ 140737488355328) (k : Int) (hk : k < 9223372036854775808) (a b : Nat) (ha : a < 18446744073709551616) (hb : b < 18446744073709551616) :
    AnsB W 6 #[.slice A es.length C, .int .i64 k, .int .u64 (a : Int), .int .u64 (b : Int)] (.bool true) := by
  obtain ⟨p, g, A', n, C', c, HH, hL⟩ := held_any W A C es hE hfs k hk
  cases c with
  | false => exact field0 W _ k a b p g A' n C' (alive_any W) HH
  | true =>
    obtain ⟨hp, hg, l, L⟩ := hL rfl
    have h3 := L.three
    have P := L.prime
    have e1 : (p : Int) - 1 = ((p - 1 : Nat) : Int) := by omega
    have hra : (a : Int) % (p : Int) = ((a % p : Nat) : Int) := by simp
    have hrb : (b : Int) % (p : Int) = ((b % p : Nat) : Int) := by simp
    have hral : a % p < p := Nat.mod_lt _ (by omega)
    have HP := rpow_any a p ha (by omega) (by omega) (p - 1) (by omega)
    rw [← e1] at HP
    refine field1 W _ k a b p g _ _ _ _ _ A' n C' (by omega) (by omega) (by simp; omega) (by omega) (by omega) (by omega) (by omega) hra hrb (by omega) (by omega) ?_ ?_ ?_ (alive_any W) HH (rmul_any a b p ha hb (by omega) (by omega)) HP (rmul_any a a p ha ha (by omega) (by omega))
    · by_cases h : a * b % p = 0
      · rcases P.prod a b h with h1 | h1
        · exact Or.inr (Or.inl ⟨by rw [h]; rfl, by rw [h1]; rfl⟩)
        · by_cases h2 : a % p = 0
          · exact Or.inr (Or.inl ⟨by rw [h]; rfl, by rw [h2]; rfl⟩)
          · exact Or.inr (Or.inr ⟨by rw [h]; rfl, by simp only [bne_iff_ne]; omega, by rw [h1]; rfl⟩)
      · exact Or.inl (by simp only [beq_eq_false_iff_ne]; omega)
    · by_cases h : a % p = 0
      · exact Or.inl (by rw [h]; rfl)
      · exact Or.inr ⟨by simp only [bne_iff_ne]; omega, by rw [L.fermat a h]; rfl⟩
    · by_cases h : a * a % p = 1
      · rcases P.self_inv a h with h1 | h1
        · exact Or.inr (Or.inl ⟨by rw [h]; rfl, by rw [h1]; rfl⟩)
        · by_cases h2 : a % p = 1
          · exact Or.inr (Or.inl ⟨by rw [h]; rfl, by rw [h2]; rfl⟩)
          · exact Or.inr (Or.inr ⟨by rw [h]; rfl, by simp only [beq_eq_false_iff_ne]; omega, by simp only [beq_iff_eq]; omega⟩)
      · exact Or.inl (by simp only [bne_iff_ne]; omega)
end Go.Proofs.Ytgmdcpkpcajenaa

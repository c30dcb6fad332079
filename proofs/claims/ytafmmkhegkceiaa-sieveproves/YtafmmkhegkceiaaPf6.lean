/-
  The contract of proof.Check.
-/
import Derived.Test.YtafmmkhegkceiaaPf5
namespace Go.Proofs.Ytafmmkhegkceiaa
set_option linter.unusedVariables false
open Go.RowKit

/-- Is the k-th entry not right? -/
def badAt (es : List En) (k : Nat) : Bool := match es[k]? with
  | some x => !rightB (es.take k) x
  | none => false
/-- The first entry that isn't right. -/
def checkO (es : List En) : Option Nat := (List.range es.length).findIdx? (badAt es)
def checkV (es : List En) : Value := if 32 < es.length then .tuple #[.int .i64 0, .int .i64 13] else match checkO es with
  | none => .tuple #[.int .i64 0, .int .i64 0]
  | some k => .tuple #[.int .i64 (k : Int), .int .i64 3]
theorem range_get {L k : Nat} (h : k < L) : (List.range L)[k]? = some k := by rw [List.getElem?_range h]
theorem check_found {es : List En} {k : Nat} (hk : k < es.length) (hb : badAt es k = true) (ha : ∀ j, j < k → badAt es j = false) : checkO es = some k :=
  found (range_get hk) hb fun j y hj hy => by
    rw [range_get (by omega)] at hy; cases hy; exact ha j hj
theorem check_none {es : List En} (ha : ∀ j, j < es.length → badAt es j = false) : checkO es = none :=
  found_none fun j y hj hy => by
    rw [List.length_range] at hj
    rw [range_get hj] at hy; cases hy; exact ha j hj
theorem bad_some {es : List En} {k : Nat} {x : En} (h : es[k]? = some x) : badAt es k = !rightB (es.take k) x := by unfold badAt; rw [h]

set_option maxHeartbeats 2000000 in
theorem check_walk (W : World) (A : Option Addr) (C : Nat) (es : List En) (hE : EntsAt W A C es) (h32 : ¬ 32 < es.length) :
    AnsB W 20 #[.slice A es.length C] (checkV es) := by
  intro w hw
  have hcl := hE.cap
  have hcm := hE.max
  unfold maxLen at hcm
  obtain ⟨L, hL⟩ : ∃ L, es.length = L := ⟨_, rfl⟩
  have HL : Hid (es.length = L) := hL
  have HV : Hid (checkV es = match checkO es with
    | none => .tuple #[.int .i64 0, .int .i64 0]
    | some k => .tuple #[.int .i64 (k : Int), .int .i64 3]) := by unfold Hid checkV; rw [if_neg h32]
  rw [hL] at h32 hcl ⊢
  clear hL
  go_enter Try.func20, Try.ntmps20
  go_wp2
  go_loopw [11] (fun v wr => ∃ k : Nat, v = .int .i64 k ∧ k ≤ L ∧ Hid (∀ j, j < k → badAt es j = false) ∧ Below w.heap.size w wr) (fun v _ => L - (intOf v).toNat)
  case atStart => exact ⟨0, rfl, by omega, fun j hj => absurd hj (by omega), Below.refl _ _⟩
  case round =>
    obtain ⟨k, rfl, hk, HI, hB⟩ := hrel
    by_cases hlt : k < L
    · have hlt' : k < es.length := by rw [HL.out]; exact hlt
      obtain ⟨x, hx⟩ : ∃ x, es[k]? = some x := ⟨_, List.getElem?_eq_getElem hlt'⟩
      obtain ⟨b, o, A', C', rfl, hb, c0, c1, c2, hP, hp, hg⟩ := hE.get k x hx
      have hBW : Below W.heap.size W wr := bb hw hB
      have c0' := keep_cell hBW hb c0
      have c1' := keep_cell hBW hb c1
      have c2' := keep_cell hBW hb c2
      have HR := right_any W (some ⟨b, o, none⟩) C (es.take k) (hE.take k) x A' C' hP hp hg
      rw [List.length_take, show min k es.length = k by omega] at HR
      obtain ⟨p, hp'⟩ : ∃ p : Int, (x.p : Int) = p := ⟨_, rfl⟩
      obtain ⟨g, hg'⟩ : ∃ g : Int, (x.g : Int) = g := ⟨_, rfl⟩
      obtain ⟨fl, hfl⟩ : ∃ fl : Nat, x.fs.length = fl := ⟨_, rfl⟩
      rw [hp'] at c0' HR
      rw [hg'] at c1' HR
      rw [hfl] at c2' HR
      obtain ⟨t0, t1, t2⟩ := three_cells wr (.int .u64 p) (.int .u64 g) (.slice A' fl C') 45
      obtain ⟨V, hV⟩ : ∃ V, wr.alloc (.cells #[.int .u64 p, .int .u64 g, .slice A' fl C'] 45) = V := ⟨_, rfl⟩
      have hVs : wr.heap.size < V.heap.size := by rw [← hV]; simp
      have hBV : Below wr.heap.size wr V := hV ▸ below_alloc _ _
      rw [hV] at t0 t1 t2
      have hBWV : Below W.heap.size W V := bb hBW hBV
      have k0 := cell_regrown t0
      have k1 := cell_regrown t1
      have k2 := cell_regrown t2
      have hbad := bad_some hx
      clear c0 c1 c2 hp' hg' hfl hx hP hlt'
      cases hr : rightB (es.take k) x with
      | true =>
        rw [hr] at HR hbad
        have HS : Hid (∀ j, j < k + 1 → badAt es j = false) := by
          intro j hj
          by_cases h : j < k
          · exact HI.out j h
          · obtain rfl : j = k := by omega
            exact hbad
        clear HI hr hbad
        go_wp2
        refine wp_region_quiet_below (by kernel_rfl) (by kernel_rfl) ?_
        repeat (go_big_quiet_step ((exact AnsB.regrown HR hBWV)))
        refine wpQuiet_nil ?_
        intro _ hw'
        obtain ⟨⟨dq, osq⟩, hw''⟩ := hw'
        subst hw''
        go_wp2
        go_roundw
        case rel => exact ⟨k + 1, by go_num, by omega, HS, bb (bb hB hBV) (below_regrown V dq osq)⟩
        case measure => simp [intOf]; omega
      | false =>
        rw [hr] at HR hbad
        have HE : Hid (checkV es = .tuple #[.int .i64 (k : Int), .int .i64 3]) := by
          unfold Hid; rw [HV.out, check_found (by rw [HL.out]; exact hlt) hbad HI.out]
        clear HI hr hbad
        go_wp2
        refine wp_region_quiet_below (by kernel_rfl) (by kernel_rfl) ?_
        repeat (go_big_quiet_step ((exact AnsB.regrown HR hBWV)))
        refine wpQuiet_nil ?_
        intro _ hw'
        obtain ⟨⟨dq, osq⟩, hw''⟩ := hw'
        subst hw''
        go_wp2
        go_ret2
        exact ⟨congrArg Ending.returned HE.out.symm, bb (bb hB hBV) (below_regrown V dq osq)⟩
    · obtain rfl : k = L := by omega
      have HE : Hid (checkV es = .tuple #[.int .i64 0, .int .i64 0]) := by
        unfold Hid; rw [HV.out, check_none (by rw [HL.out]; exact HI.out)]
      clear HI
      go_wp2
      go_ret2
      exact ⟨congrArg Ending.returned HE.out.symm, hB⟩
theorem check_long (W : World) (A : Option Addr) (L C : Nat) (h32 : 32 < L) (hm : (L : Int) ≤ 9223372036854775807) : AnsB W 20 #[.slice A L C] (.tuple #[.int .i64 0, .int .i64 13]) := by
  intro w hw
  go_enter Try.func20, Try.ntmps20
  go_wp2
  go_ret2
  exact ⟨rfl, Below.refl _ _⟩
/-- Check. -/
theorem check_any (W : World) (A : Option Addr) (C : Nat) (es : List En) (hE : EntsAt W A C es) : AnsB W 20 #[.slice A es.length C] (checkV es) := by
  by_cases h : 32 < es.length
  · have hcl := hE.cap
    have hcm := hE.max
    unfold maxLen at hcm
    unfold checkV
    rw [if_pos h]
    exact check_long W A _ C h (by omega)
  · exact check_walk W A C es hE h
end Go.Proofs.Ytafmmkhegkceiaa

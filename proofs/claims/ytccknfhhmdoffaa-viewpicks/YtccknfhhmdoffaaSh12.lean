/-
  The contract of what shape.All hands back: it goes over all numbers, rising, each with its index. No condition but that a shape lies there.
-/
import Derived.Test.YtccknfhhmdoffaaSh11
namespace Go.Proofs.Ytccknfhhmdoffaa
set_option linter.unusedVariables false
open Go.RowKit Go.Shelf
attribute [local go_sem] Oper.semAt_some

/-- A number below the size. -/
abbrev Nu (S : Nat) := { n : Nat // n < S }
def nus {S : Nat} (l : List (Nu S)) : List Nat := l.map (·.1)
theorem nus_snoc {S : Nat} (l : List (Nu S)) (x : Nu S) : nus (l ++ [x]) = nus l ++ [x.1] := by simp [nus]
theorem nus_len {S : Nat} (l : List (Nu S)) : (nus l).length = l.length := by simp [nus]
abbrev encN (ds : List Nat) {S : Nat} (x : Nu S) : Array Value := #[.int .i64 (x.1 : Int), .agg #[.int .i64 (ix ds x.1 0 : Int), .int .i64 (ix ds x.1 1 : Int), .int .i64 (ix ds x.1 2 : Int), .int .i64 (ix ds x.1 3 : Int)]]
/-- What a round keeps: the blocks from n2 on, up to n3. -/
def KR (n2 n3 : Nat) (W W' : World) : Prop := W.heap.size ≤ W'.heap.size ∧ ∀ b, n2 ≤ b → b < n3 → W'.heap[b]? = W.heap[b]?
theorem KR.refl (n2 n3 : Nat) (W : World) : KR n2 n3 W W := ⟨Nat.le_refl _, fun _ _ _ => rfl⟩
theorem KR.trans {n2 n3 : Nat} {X Y Z : World} (h : KR n2 n3 X Y) (k : KR n2 n3 Y Z) : KR n2 n3 X Z := ⟨Nat.le_trans h.1 k.1, fun b h1 h2 => (k.2 b h1 h2).trans (h.2 b h1 h2)⟩
theorem KR.put {n2 n3 : Nat} {w : World} (hn : n3 ≤ w.heap.size) (W : World) (l : Nat) (o o' : Obj) (hl : w.heap.size ≤ l) (h : W.heap[l]? = some o) (h1 : o.isCells = false) (h2 : o.isWalk = false) : KR n2 n3 W (W.putObj l o') :=
  ⟨(grownBy_putObj' W l o').size, fun b _ hb => World.putObj_heap_other (by omega)⟩
theorem KR.below {n2 n3 : Nat} {W W' : World} (h : Below W.heap.size W W') (hn : n3 ≤ W.heap.size) : KR n2 n3 W W' := ⟨h.size, fun b _ hb => h.block b (by omega)⟩
theorem KR.blk {n2 n3 : Nat} {W W' : World} (h : KR n2 n3 W W') {B : Nat} {t : TypeId} {cs : Array Value} (hb : Blk W B t cs) (h1 : n2 ≤ B) (h2 : B < n3) : Blk W' B t cs := (h.2 B h1 h2).trans hb
theorem KR.ints {n2 n3 : Nat} {W W' : World} (h : KR n2 n3 W W') {A : Option Addr} {C : Nat} {zs : List Int} (hZ : ZAt W A C zs) (hA : ∀ b o, A = some ⟨b, o, none⟩ → n2 ≤ b) (hn : W.heap.size ≤ n3) : ZAt W' A C zs := by
  refine ⟨hZ.cap, hZ.max, fun i z hz => ?_⟩
  obtain ⟨b, o, e, hb, c0, k⟩ := hZ.get i z hz
  refine ⟨b, o, e, Nat.lt_of_lt_of_le hb h.1, ?_, k⟩
  rw [← c0]
  exact World.cell?_of_block (h.2 b (hA b o e) (by omega))
theorem grown_below {W W' : World} (h : Below W.heap.size W W') : W.grownBy W' none := ⟨h.os, h.tape, h.output, h.size, fun k hk _ => h.block k hk⟩

theorem wrap_next {x : Nat} (h : x + 1 ≤ 4096) : wrap64 ((x : Int) + 1) = (x : Int) + 1 := by unfold wrap64; omega
theorem nat_next (k : Nat) : (k : Int) + 1 = ((k + 1 : Nat) : Int) := by omega
theorem sub_next {k S : Nat} (h : k < S) : S - (intOf (.int .i64 ((k : Int) + 1))).toNat < S - (intOf (.int .i64 (k : Int))).toNat := by simp only [intOf]; omega
set_option maxRecDepth 100000 in
set_option maxHeartbeats 4000000 in
theorem all1_in (fu : Nat) (hfu : 4 ≤ fu) (l b1 b2 n2 n3 : Nat) (A : Option Addr) (C : Nat) (ds : List Nat) (hS : Shp ds) (V : World) (hV : V.heap.size = n3) (hZ : ZAt V A C (ints ds)) (hA : ∀ b o, A = some ⟨b, o, none⟩ → n2 ≤ b)
    (c1 : Blk V b1 3 #[.int .i64 (pr ds : Int)]) (c2 : Blk V b2 22 #[.slice A ds.length C]) (h1 : n2 ≤ b1) (h2 : n2 ≤ b2)
    (J Jx : List (Nu (pr ds)) → World → Prop)
    (hY : ∀ pre x W, J pre W → pre.length < pr ds → YieldAt Fence.wide (fu - 1) Try.prog l (encN ds x) W fun e W' =>
      (e = .returned (.bool true) ∧ J (pre ++ [x]) W' ∧ KR n2 n3 W W') ∨ (e = .returned (.bool false) ∧ Jx (pre ++ [x]) W'))
    (W : World) (hW : KR n2 n3 V W) (hJ : AbidesFrom W.heap.size J) (h0 : J [] W) :
    CallsIn Fence.wide fu Try.prog 44 #[.func (.yield l) #[] #[], .pointer (some ⟨b1, 0, none⟩), .pointer (some ⟨b2, 0, none⟩)] W fun e W' => (∃ v, e = .returned v) ∧
      ((∃ ys : List (Nu (pr ds)), nus ys = List.range (pr ds) ∧ J ys W') ∨ (∃ pre : List (Nu (pr ds)), (∃ k, k ≤ pr ds ∧ nus pre = List.range k) ∧ Jx pre W')) := by
  have hP4 := hS.max
  have h1u : 1 ≤ fu := by omega
  have hfI : Fence.wide.fn 45 := trivial
  have HI : ∀ (w : World), ZAt w A C (ints ds) → ∀ k, k < pr ds → CallsIn Fence.wide (fu - 1) Try.prog 45 #[.slice A ds.length C, .int .i64 (k : Int)] w fun e w' => e = .returned (.agg #[.int .i64 (ix ds k 0 : Int), .int .i64 (ix ds k 1 : Int), .int .i64 (ix ds k 2 : Int), .int .i64 (ix ds k 3 : Int)]) ∧ Below w.heap.size w w' :=
    fun w hz k hk => indexOf_in (fu - 1) (by omega) w A C ds hS hz k hk w (Below.refl _ _)
  have hc1 := c1.lt
  have hc2 := c2.lt
  have e1 : W.cell? ⟨b1, 0, none⟩ = some (.int .i64 (pr ds : Int)) := (hW.blk c1 h1 (by omega)).cell 0
  generalize ds.length = L at *
  obtain ⟨S, hSe⟩ : ∃ S, pr ds = S := ⟨_, rfl⟩
  rw [hSe] at e1
  have HP4 : Hid (pr ds ≤ 4096) := hP4
  have HSe : Hid (pr ds = S) := hSe
  clear hP4 hSe
  refine callsIn_of_wp Try.func44 rfl trivial ?_ rfl
  simp only [Try.ntmps44, List.size_toArray, List.length_cons, List.length_nil, Nat.reduceAdd, Nat.reduceSub, Array.replicate_succ, Array.replicate_zero, List.push_toArray, List.append_toArray, List.nil_append, List.cons_append]
  gi_wp2
  gi_loopw [6] (fun v wr => ∃ (k : Nat) (pre : List (Nu (pr ds))), k ≤ S ∧ v = .int .i64 (k : Int) ∧ nus pre = List.range k ∧ J pre wr ∧ KR n2 n3 V wr ∧ W.heap.size ≤ wr.heap.size)
    (fun v _ => S - (intOf v).toNat)
  case atStart => exact ⟨0, [], Nat.zero_le _, rfl, rfl, h0, hW, Nat.le_refl _⟩
  case round =>
    obtain ⟨k, pre, hk, rfl, hp, hJs, hK, hWs⟩ := hrel
    by_cases hlt : k < S
    · have hlt' : (k : Int) < (S : Int) := by omega
      have hkS : k < pr ds := by rw [HSe.out]; exact hlt
      have hkw : wrap64 ((k : Int) + 1) = (k : Int) + 1 := wrap_next (Nat.le_trans hkS HP4.out)
      have hl : pre.length < pr ds := by rw [← nus_len, hp, List.length_range]; exact hkS
      have e2 : wr.cell? ⟨b2, 0, none⟩ = some (.slice A L C) := (hK.blk c2 h2 (by omega)).cell 0
      have HIk := HI wr (hK.ints hZ hA (by omega)) k hkS
      have HR : Hid (nus (pre ++ [(⟨k, hkS⟩ : Nu (pr ds))]) = List.range (k + 1)) := by unfold Hid; rw [nus_snoc, hp, List.range_succ]
      have hn3 : n3 ≤ wr.heap.size := by have := hK.1; omega
      have hYk := fun W1 hJ1 => hY pre ⟨k, hkS⟩ W1 hJ1 hl
      dsimp only [encN] at hYk
      clear hp hl HI hY
      gi_wp2_with (gi_at_call 45; refine HIk.mono ?_; rintro e w2 ⟨rfl, hb2⟩; have hJ2 := hJ pre wr w2 none hJs (grown_below hb2) (fun r e => by cases e); obtain ⟨fn, tmps, assign, body, hy, hR⟩ := hYk w2 hJ2; have hK2 : KR n2 n3 V w2 := hK.trans (KR.below hb2 hn3); have hWs2 := Nat.le_trans hWs hb2.size)
      refine hR.mono ?_
      rintro e W3 (⟨rfl, hJ3, hk3⟩ | ⟨rfl, hJx3⟩)
      · gi_wp2
        go_roundw
        case rel => exact ⟨k + 1, _, hlt, by rw [hkw, nat_next], HR.out, hJ3, hK2.trans hk3, Nat.le_trans hWs2 hk3.1⟩
        case measure => rw [hkw]; exact sub_next hlt
      · gi_wp2
        refine bodyPost_ret (results_none rfl _ _ _) rfl ?_
        exact ⟨⟨_, rfl⟩, .inr ⟨_, ⟨k + 1, hkS, HR.out⟩, hJx3⟩⟩
    · obtain rfl : k = S := by omega
      have HR : Hid (nus pre = List.range (pr ds)) := by unfold Hid; rw [hp, HSe.out]
      clear hp
      gi_wp2
      go_end0
      exact ⟨⟨_, rfl⟩, .inl ⟨_, HR.out, hJs⟩⟩
end Go.Proofs.Ytccknfhhmdoffaa

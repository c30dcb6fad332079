/-
  Arrays of 1024 bools of one's own. No condition.
-/
import Derived.Test.YtpjfapibjihbbaaCpI
namespace Go.Proofs.Ytpjfapibjihbbaa
set_option linter.unusedVariables false
open Go.RowKit

/-- Block B: these cells. -/
def Blk (W : World) (B : Nat) (t : TypeId) (cs : Array Value) : Prop := W.heap[B]? = some (.cells cs t (0, 0))
theorem Blk.lt {W : World} {B : Nat} {t : TypeId} {cs : Array Value} (h : Blk W B t cs) : B < W.heap.size := (Array.getElem?_eq_some_iff.1 h).1
theorem Blk.cell {W : World} {B : Nat} {t : TypeId} {cs : Array Value} (h : Blk W B t cs) (k : Nat) : W.cell? ⟨B, k, none⟩ = cs[k]? := by simp [World.cell?, show W.heap[B]? = _ from h]
theorem Blk.frozen {W : World} {B : Nat} {t : TypeId} {cs : Array Value} (h : Blk W B t cs) (k : Nat) : W.frozen? ⟨B, k, none⟩ = false := by simp [World.frozen?, show W.heap[B]? = _ from h]
theorem Blk.new (W : World) (t : TypeId) (cs : Array Value) : Blk (W.alloc (.cells cs t)) W.heap.size t cs := (MapKept.heap_alloc W _).1
theorem Blk.below {W W' : World} {B : Nat} {t : TypeId} {cs : Array Value} (h : Blk W B t cs) (hb : Below W.heap.size W W') : Blk W' B t cs := (hb.block B h.lt).trans h
theorem Blk.set {W : World} {B : Nat} {t : TypeId} {cs : Array Value} (h : Blk W B t cs) (k : Nat) (v : Value) : Blk (W.setCell ⟨B, k, none⟩ v) B t (cs.setIfInBounds k v) := by
  obtain ⟨hlt, hk⟩ := Array.getElem?_eq_some_iff.1 h
  show (W.heap.modify B _)[B]? = _
  rw [Array.getElem?_eq_getElem (by rw [Array.size_modify]; exact hlt), Array.getElem_modify_self, hk]
  rfl
theorem Blk.other {W : World} {B : Nat} {t : TypeId} {cs : Array Value} (h : Blk W B t cs) {B' : Nat} (hne : B ≠ B') (k : Nat) (v : Value) : Blk (W.setCell ⟨B', k, none⟩ v) B t cs :=
  (Below.heap_setCell _ _ _ B hne).trans h
/-- An array of 1024 bools lies there. -/
def BA (w : World) (g : Nat) (f : Nat → Bool) : Prop := ∃ cs, Blk w g 26 cs ∧ cs.size = 1024 ∧ ∀ k, k < 1024 → cs[k]? = some (.bool (f k))
theorem BA.lt {w : World} {g : Nat} {f : Nat → Bool} (h : BA w g f) : g < w.heap.size := by obtain ⟨cs, hb, _⟩ := h; exact hb.lt
theorem BA.below {w w' : World} {g : Nat} {f : Nat → Bool} (h : BA w g f) (hb : Below w.heap.size w w') : BA w' g f := by
  obtain ⟨cs, h1, h2⟩ := h
  exact ⟨cs, h1.below hb, h2⟩
theorem BA.at {w : World} {g : Nat} {f : Nat → Bool} (h : BA w g f) {k : Nat} (hk : k < 1024) : w.cell? ⟨g, k, none⟩ = some (.bool (f k)) ∧ w.frozen? ⟨g, k, none⟩ = false := by
  obtain ⟨cs, h1, h2, h3⟩ := h
  exact ⟨(h1.cell k).trans (h3 k hk), h1.frozen k⟩
theorem BA.put {w : World} {g : Nat} {f : Nat → Bool} (h : BA w g f) (k : Nat) {f' : Nat → Bool} (hf : ∀ j, f' j = if j = k then true else f j) : BA (w.setCell ⟨g, k, none⟩ (.bool true)) g f' := by
  obtain ⟨cs, h1, h2, h3⟩ := h
  refine ⟨_, h1.set k (.bool true), by rw [Array.size_setIfInBounds]; exact h2, fun j hj => ?_⟩
  rw [Array.getElem?_setIfInBounds, hf]
  by_cases e : k = j
  · subst e; rw [if_pos rfl, if_pos rfl, if_pos (by omega)]
  · rw [if_neg e, if_neg (fun e' => e e'.symm), h3 j hj]
theorem BA.other {w : World} {g : Nat} {f : Nat → Bool} (h : BA w g f) {g' : Nat} (hne : g ≠ g') (k : Nat) (v : Value) : BA (w.setCell ⟨g', k, none⟩ v) g f := by
  obtain ⟨cs, h1, h2⟩ := h
  exact ⟨cs, h1.other hne k v, h2⟩
theorem ZAt.atn {w : World} {b o C : Nat} {ds : List Nat} (h : ZAt w (some ⟨b, o, none⟩) C (ints ds)) {i d : Nat} (hd : ds[i]? = some d) : w.cell? ⟨b, o + i, none⟩ = some (.int .i64 (d : Int)) := by
  obtain ⟨b2, o2, hA, _, c⟩ := h.nat hd
  simp only [Option.some.injEq, Addr.mk.injEq, and_true] at hA
  obtain ⟨rfl, rfl⟩ := hA
  exact c
theorem bools_len : Try.prog.arrayLen 26 = 1024 := by kernel_rfl
theorem bools_el : Try.prog.elem 26 = 4 := by kernel_rfl
/-- A place of the array, as the walk has it. -/
theorem bools_at {z : Nat} (hz : z < 1024) (g : Nat) (w : World) : (Instr.indexAt 26 (.pointer (some ⟨g, 0, none⟩)) (.int .i64 (z : Int))).run Try.prog w = .ok (.pointer (some ⟨g, z, none⟩)) w := by
  rw [run_indexAt_array (h := by rw [bools_len, bools_el]; exact Try.underlying26), bools_len, bools_el, if_pos (by omega)]
  simp [Try.sizeOf4, Result.andThen, Addr.add_lit]
theorem zero_bools : ∃ zs : Array Value, (∀ w, (zeroValue 26).run Try.prog w = .ok (.agg zs) w) ∧ zs.size = 1024 ∧ (∀ k, k < 1024 → zs[k]? = some (.bool false)) ∧ ¬ zs = #[] :=
  ⟨Array.replicate 1024 (.bool false), fun w => by kernel_rfl, by simp, fun k hk => by rw [Array.getElem?_replicate, if_pos hk], fun h => by
    have := congrArg Array.size h
    simp at this⟩
/-- What is met among the first K. -/
def met (s : Nat → Nat) (K k : Nat) : Bool := (List.range K).any fun m => s m == k
theorem met_zero (s : Nat → Nat) (k : Nat) : met s 0 k = false := rfl
theorem met_new {s : Nat → Nat} {n K : Nat} (hs : ∀ i j, i < n → j < n → s i = s j → i = j) (hK : K < n) : met s K (s K) = false := by
  unfold met
  rw [List.any_eq_false]
  intro m hm h
  have hm' := List.mem_range.1 hm
  have := hs m K (by omega) hK (by simpa using h)
  omega
theorem met_next (s : Nat → Nat) (K j : Nat) : met s (K + 1) j = if j = s K then true else met s K j := by
  unfold met
  rw [List.range_succ, List.any_append]
  by_cases e : j = s K
  · subst e; rw [if_pos rfl]; simp
  · rw [if_neg e]
    have : (s K == j) = false := beq_false_of_ne fun h => e h.symm
    simp [this]
theorem ba_new (w : World) {zs : Array Value} (h2 : zs.size = 1024) (h3 : ∀ k, k < 1024 → zs[k]? = some (.bool false)) (s : Nat → Nat) : BA (w.alloc (.cells zs 26)) w.heap.size (met s 0) :=
  ⟨zs, Blk.new w _ zs, h2, fun k hk => by rw [h3 k hk, met_zero]⟩
/-- The number at a row and a column, as the walk has it. -/
theorem raw_in {a b n i j z : Nat} (hn : a * b = n) (hn1 : n ≤ 1024) (hi : i < a) (hj : j < b) (hz : (b * i + a * j) % n = z) :
    Int.tmod (wrap64 (wrap64 ((b : Int) * (i : Int)) + wrap64 ((a : Int) * (j : Int)))) (wrap64 ((a : Int) * (b : Int))) = (z : Int) := by
  have h1 : b * i ≤ 1024 := by have := Nat.mul_le_mul_left b (Nat.le_of_lt hi); rw [Nat.mul_comm b a] at this; omega
  have h2 : a * j ≤ 1024 := by have := Nat.mul_le_mul_left a (Nat.le_of_lt hj); omega
  rw [mulW (a := b) (b := i) rfl (by omega), mulW (a := a) (b := j) rfl (by omega), mulW hn (by omega), wrSum h1 h2]
  exact sumM hz
theorem raw_place {b i j K : Nat} (hK : i * b + j = K) (hK1 : K ≤ 1024) : wrap64 (wrap64 ((i : Int) * (b : Int)) + (j : Int)) = (K : Int) := by
  rw [mulW (a := i) (b := b) rfl (by omega), wrSum (by omega) (by omega), ← hK]; rfl
end Go.Proofs.Ytpjfapibjihbbaa

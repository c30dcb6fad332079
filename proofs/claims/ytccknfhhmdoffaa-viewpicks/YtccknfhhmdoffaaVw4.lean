/-
  What meetsItself of a view answers. No condition but that the rows lie there.
-/
import Derived.Test.YtccknfhhmdoffaaVw3
import Derived.Maps.OwnOps
import Derived.Maps.OwnIn
import Derived.Maps.OwnSet
namespace Go.Proofs.Ytccknfhhmdoffaa
set_option linter.unusedVariables false
open Go.RowKit Go.Shelf Go.Maps
attribute [local go_sem] Oper.semAt_some

theorem all_stops (fu : Nat) (hfu : 4 ≤ fu) (b1 b2 n2 : Nat) (A : Option Addr) (C : Nat) (ds : List Nat) (hS : Shp ds) (V : World) (hZ : ZAt V A C (ints ds)) (hA : ∀ b o, A = some ⟨b, o, none⟩ → n2 ≤ b)
    (c1 : Blk V b1 3 #[.int .i64 (pr ds : Int)]) (c2 : Blk V b2 22 #[.slice A ds.length C]) (h1 : n2 ≤ b1) (h2 : n2 ≤ b2) :
    SeqStopsK Fence.wide fu Try.prog 44 #[.pointer (some ⟨b1, 0, none⟩), .pointer (some ⟨b2, 0, none⟩)] (encN ds (S := pr ds)) (KR n2 V.heap.size) (fun ys => nus ys = List.range (pr ds)) (fun pre => ∃ k, k ≤ pr ds ∧ nus pre = List.range k) (pr ds) V :=
  fun l J Jx W hW hJ _ hY h0 => all1_in fu hfu l b1 b2 n2 V.heap.size A C ds hS V rfl hZ hA c1 c2 h1 h2 J Jx hY W (KR.below hW (Nat.le_refl _)) hJ h0
theorem KR.set {n2 n3 : Nat} (W : World) {b : Nat} (hb : b < n2) (k : Nat) (v : Value) : KR n2 n3 W (W.setCell ⟨b, k, none⟩ v) :=
  ⟨(KeepsWalks.setCell W _ v).size, fun j h1 _ => Below.heap_setCell _ _ _ j (by show j ≠ b; omega)⟩

/-! ### A map of ints to counts -/
abbrev keyI (z : Int) : Lit := .int .i64 z
theorem keyI_inj {x y : Int} (h : keyI x = keyI y) : x = y := by simpa [keyI] using h
theorem keyedI : Keyed Try.prog 3 := int_keyed Try.underlying3
theorem wf_I {z : Int} (h : I64 z) : (Lit.int .i64 z).wf = true := by
  obtain ⟨h1, h2⟩ := h
  simp [Lit.wf, IntKind.min, IntKind.max, IntKind.signed, IntKind.bits]; omega
theorem keyOfI {z : Int} (h : I64 z) : keyOf Try.prog 3 (.int .i64 z) = some (keyI z) := keyOf_int_mk Try.underlying3 (wf_I h)
theorem isKeyI (z : Int) : WideAt.IsKeyLit (keyI z) := trivial
def IMap (w : World) (b n : Nat) (c : Int → Nat) : Prop := ∃ D : DataW Unit, w.ownsMap Try.prog 3 (plainElem Try.prog 3) b n D ∧ ∀ z : Int, D.atKey (keyI z) (.lit (.int .i64 0)) = .lit (.int .i64 (c z : Int))
def updI (c : Int → Nat) (q : Int) : Int → Nat := fun r => if r = q then c q + 1 else c r
theorem imap_new (w : World) : IMap (w.alloc (.map #[] 0)) w.heap.size 0 (fun _ => 0) := ⟨.map [], World.ownsMap_made w _ _ _, fun q => rfl⟩
theorem IMap.kept {w w' : World} {b n : Nat} {c : Int → Nat} {row : Option Nat} (h : IMap w b n c) (hg : w.grownBy w' row) (hne : some b ≠ row) : IMap w' b n c := by
  obtain ⟨D, h1, h2⟩ := h
  exact ⟨D, h1.kept hg hne, h2⟩
theorem IMap.alloc {w : World} {b n : Nat} {c : Int → Nat} (h : IMap w b n c) (o : Obj) : IMap (w.alloc o) b n c := h.kept (World.grownBy_alloc w o none) (by simp)
theorem IMap.lt {w : World} {b n : Nat} {c : Int → Nat} (h : IMap w b n c) : b < w.heap.size := by obtain ⟨D, h1, h2⟩ := h; exact h1.lt
theorem IMap.below {w w' : World} {b n : Nat} {c : Int → Nat} (h : IMap w b n c) (hb : Below w.heap.size w w') : IMap w' b n c := h.kept (grown_below hb) (by simp)
theorem IMap.mono {w : World} {b n n' : Nat} {c : Int → Nat} (h : IMap w b n c) (hn : n ≤ n') : IMap w b n' c := by obtain ⟨D, h1, h2⟩ := h; exact ⟨D, h1.mono hn, h2⟩
theorem imap_put {w' : World} {b n : Nat} {c : Int → Nat} {D : DataW Unit} (hD : IsMap D) (ha : ∀ z : Int, D.atKey (keyI z) (.lit (.int .i64 0)) = .lit (.int .i64 (c z : Int))) (q : Int)
    (h : w'.ownsMap Try.prog 3 (plainElem Try.prog 3) b n (D.put (keyI q) (.lit (.int .i64 ((c q + 1 : Nat) : Int))))) : IMap w' b n (updI c q) := by
  refine ⟨_, h, fun r => ?_⟩
  unfold updI
  by_cases e : r = q
  · subst e; rw [if_pos rfl, atKey_put_same hD (isKeyI r)]
  · rw [if_neg e, atKey_put_other (fun e' => e (keyI_inj e')), ha]
theorem cntI {d : DataW Unit} {x e : Nat} {cc : Int} (h1 : d = .lit (.int .i64 cc)) (h2 : d = .lit (.int .i64 (x : Int))) (h3 : x = e) : cc = (e : Int) := by
  rw [h1, h3] at h2; simpa using h2
theorem zeroI (w : World) : (zeroValue 3).run Try.prog w = .ok (.int .i64 0) w := by kernel_rfl
theorem wf_cnt {x : Nat} (h : x ≤ 4294967296) : (Lit.int .i64 ((x : Nat) : Int)).wf = true := by
  simp [Lit.wf, IntKind.min, IntKind.max, IntKind.signed, IntKind.bits]; omega
theorem wf_cnt1 {x : Nat} (h : x + 1 ≤ 4294967296) : (Lit.int .i64 ((x : Int) + 1)).wf = true := wf_cnt (x := x + 1) h
/-- How often each is met. -/
def cn (g : Nat → Int) (l : List Nat) (z : Int) : Nat := (l.map g).count z
theorem cn_snoc (g : Nat → Int) (l : List Nat) (x : Nat) : cn g (l ++ [x]) = updI (cn g l) (g x) := by
  funext z
  show (List.map g (l ++ [x])).count z = if z = g x then (l.map g).count (g x) + 1 else (l.map g).count z
  rw [List.map_append, List.count_append]
  by_cases e : z = g x
  · subst e; simp
  · rw [if_neg e]
    have : List.count z (List.map g [x]) = 0 := by simp [List.count_cons]; exact fun h => absurd h.symm e
    rw [this]; omega
theorem cn_pos {g : Nat → Int} {l : List Nat} {z : Int} (h : 0 < cn g l z) : ∃ m ∈ l, g m = z := by
  have := List.count_pos_iff.1 h
  simpa using this
theorem cn_zero {g : Nat → Int} {l : List Nat} {z : Int} (h : ¬ 0 < cn g l z) : ∀ m ∈ l, g m ≠ z := fun m hm e => h (List.count_pos_iff.2 (by rw [← e]; exact List.mem_map_of_mem hm))
/-- None twice. -/
def Once (g : Nat → Int) (l : List Nat) : Prop := l.Pairwise fun a b => g a ≠ g b
theorem Once.snoc {g : Nat → Int} {l : List Nat} {x : Nat} (h : Once g l) (hx : ∀ m ∈ l, g m ≠ g x) : Once g (l ++ [x]) :=
  List.pairwise_append.2 ⟨h, by simp, fun a ha b hb => by simp at hb; subst hb; exact hx a ha⟩
theorem Once.range {g : Nat → Int} {S : Nat} (h : Once g (List.range S)) {m n : Nat} (hm : m < n) (hn : n < S) : g m ≠ g n := by
  have := List.pairwise_iff_getElem.1 h m n (by simp; omega) (by simp; omega) hm
  simpa using this
theorem nus_last {S : Nat} {ini : List (Nu S)} {last : Nu S} {k : Nat} (h : nus (ini ++ [last]) = List.range k) : last.1 + 1 = k ∧ nus ini = List.range last.1 := by
  rw [nus_snoc] at h
  have h1 := congrArg List.length h
  rw [List.length_append, nus_len, List.length_range] at h1
  have h1' : k = ini.length + 1 := h1.symm
  rw [h1', List.range_succ] at h
  have h2 := List.append_inj_right' h rfl
  have h3 := List.append_inj_left' h rfl
  have h4 : last.1 = ini.length := by simpa using h2
  exact ⟨by omega, by rw [h4]; exact h3⟩

/-- What lies in the function's own boxes. -/
structure MInv (B : Nat) (v : Array Value) (n : Nat) (c : Int → Nat) (W : World) : Prop where
  view : Blk W B 28 v
  res : Blk W (B + 1) 4 #[.bool false]
  map : IMap W (B + 1 + 1) n c
  box : Blk W (B + 1 + 1 + 1) 71 #[.map (some (B + 1 + 1))]
theorem MInv.own {B : Nat} {v : Array Value} {n : Nat} {c : Int → Nat} {N : Nat} (hN : B + 1 + 1 < N) {X Y : World} {row : Option Nat} (h : MInv B v n c X) (hg : X.grownBy Y row) (hr : ∀ r, row = some r → N ≤ r ∧ ∃ o : Obj, X.heap[r]? = some o ∧ o.isCells = false) : MInv B v n c Y :=
  ⟨blk_own (β := Unit) _ _ (fun _ => _) () X Y row h.view hg (fun r e => (hr r e).2), blk_own (β := Unit) _ _ (fun _ => _) () X Y row h.res hg (fun r e => (hr r e).2), h.map.kept hg (fun e => by have := (hr _ e.symm).1; omega), blk_own (β := Unit) _ _ (fun _ => _) () X Y row h.box hg (fun r e => (hr r e).2)⟩
theorem MInv.alloc {B : Nat} {v : Array Value} {n : Nat} {c : Int → Nat} {X : World} (h : MInv B v n c X) (o : Obj) : MInv B v n c (X.alloc o) := ⟨h.view.alloc o, h.res.alloc o, h.map.alloc o, h.box.alloc o⟩
theorem MInv.below {B : Nat} {v : Array Value} {n : Nat} {c : Int → Nat} {X Y : World} (h : MInv B v n c X) (hb : Below X.heap.size X Y) : MInv B v n c Y := ⟨h.view.below hb, h.res.below hb, h.map.below hb, h.box.below hb⟩
theorem MInv.put {B : Nat} {v : Array Value} {n n' : Nat} {c c' : Int → Nat} {X Y : World} (h : MInv B v n c X) (hg : X.grownBy Y (some (B + 1 + 1))) (hm : IMap Y (B + 1 + 1) n' c') : MInv B v n' c' Y :=
  ⟨h.view.kept hg (fun e => by injection e with e; omega), h.res.kept hg (fun e => by injection e with e; omega), hm, h.box.kept hg (fun e => by injection e with e; omega)⟩

set_option maxRecDepth 100000 in
set_option maxHeartbeats 4000000 in
theorem meets_any (W0 : World) (o : Int) (A : Option Addr) (C : Nat) (A' : Option Addr) (C' : Nat) (ds : List Nat) (hS : Shp ds) (hD : ZAt W0 A C (ints ds)) (ss : List Int) (hl : ss.length = ds.length) (hZ : ZAt W0 A' C' ss) (hA : Among o ss ds 4096) (t : Bool) (ht : t = true ↔ Twice o ss ds) :
    AnsB W0 31 #[vw o A ds.length C A' ss.length C'] (.bool t) := by
  intro w hw
  have HAl := all_any W0 A C (ints ds) hD (by rw [ints_len]; have := hS.few; omega)
  have HAu : ∀ {w : World}, Below W0.heap.size W0 w → ∀ {R : Ending → World → Prop}, (∀ b1 b2 A' C' w', Blk w' b1 3 #[.int .i64 (pr ds : Int)] → Blk w' b2 22 #[.slice A' ds.length C'] → ZAt w' A' C' (ints ds) → w.heap.size ≤ b1 → w.heap.size ≤ b2 → (∀ b o, A' = some ⟨b, o, none⟩ → w.heap.size ≤ b) → Below w.heap.size w w' → R (.returned (.func (.func 44) #[] #[.pointer (some ⟨b1, 0, none⟩), .pointer (some ⟨b2, 0, none⟩)])) w') → Calls Try.prog 32 #[.slice A ds.length C] w R := fun {w} hw {R} k => by
    have := HAl w hw
    rw [ints_len] at this
    refine this.mono ?_
    rintro e w' ⟨b1, b2, A', C', rfl, c1, c2, z2, l1, l2, l3, hb⟩
    rw [sizeV_shape hS] at c1
    exact k b1 b2 A' C' w' c1 c2 z2 l1 l2 l3 hb
  have HCe : ∀ n, n < pr ds → AnsB W0 33 #[.agg #[.int .i64 o, .slice A ds.length C, .slice A' ds.length C'], .agg #[.int .i64 (ix ds n 0 : Int), .int .i64 (ix ds n 1 : Int), .int .i64 (ix ds n 2 : Int), .int .i64 (ix ds n 3 : Int)]] (.int .i64 (ce o ss ds n)) := fun n hn => by
    have := cell_any W0 o A ds.length C A' C' ss hZ (by rw [hl]; exact hS.few) (fun j => (ix ds n j : Int)) (by rw [hl]; exact calm_of hS hA (fun j hj => ix_lt hS n hj))
    rw [hl] at this
    exact this
  obtain ⟨g, hg⟩ : ∃ g, ce o ss ds = g := ⟨_, rfl⟩
  have HGb : Hid (∀ n, n < pr ds → I64 (g n)) := fun n hn => by have := hA n hn; rw [hg] at this; unfold I64; omega
  have HT : Hid (∀ m n, m < n → n < pr ds → g m = g n → true = t) := fun m n h1 h2 h3 => (ht.2 ⟨m, n, h1, h2, by rw [hg]; exact h3⟩).symm
  have HF : Hid ((∀ m n, m < n → n < pr ds → g m ≠ g n) → false = t) := fun h => by
    cases t with
    | false => rfl
    | true =>
      obtain ⟨m, n, h1, h2, h3⟩ := ht.1 rfl
      rw [hg] at h3
      exact absurd h3 (h m n h1 h2)
  rw [hg] at HCe
  unfold vw
  rw [hl]
  obtain ⟨L, hL⟩ : ∃ L, ds.length = L := ⟨_, rfl⟩
  obtain ⟨S, hSe⟩ : ∃ S, pr ds = S := ⟨_, rfl⟩
  have HSh : Hid (Shp ds) := hS
  have HSe : Hid (pr ds = S) := hSe
  have HL : Hid (ds.length = L) := hL
  simp only [hL] at HCe
  simp only [hL, hSe] at HAu
  rw [hL]
  clear hS HAl hL hSe hg hl hZ hA ht
  have hmm := @run_makeMap Try.prog
  have hBV : Below w.heap.size w ((((w.alloc (.cells #[.int .i64 o, .slice A L C, .slice A' L C'] 28)).alloc (.cells #[.bool false] 4)).alloc (.map #[] 0)).alloc (.cells #[.map (some (w.heap.size + 1 + 1))] 71)) := bb (bb (bb (below_alloc _ _) (below_alloc _ _)) (below_alloc _ _)) (below_alloc _ _)
  have hw0 := hw.trans (hBV.mono hw.size)
  have hf32 : Fence.wide.fn 32 := trivial
  refine (callsIn_wide (n := 6)).1 ?_
  refine callsIn_of_wp_marks Try.func31 rfl trivial ?_ rfl
  simp only [Try.ntmps31, List.size_toArray, List.length_cons, List.length_nil, Nat.reduceAdd, Nat.reduceSub, Array.replicate_succ, Array.replicate_zero, List.push_toArray, List.append_toArray, List.nil_append, List.cons_append]
  gi_wp2_with (gi_at_call 32; refine callsIn_wide.2 (HAu hw0 fun b4 b5 A2 C2 V c4 c5 hz5 l4 l5 l6 hbV => ?_))
  have b0 := (((Blk.new w 28 #[.int .i64 o, .slice A L C, .slice A' L C']).alloc (.cells #[.bool false] 4)).alloc (.map #[] 0)).alloc (.cells #[.map (some (w.heap.size + 1 + 1))] 71)
  have b1 := ((Blk.new (w.alloc (.cells #[.int .i64 o, .slice A L C, .slice A' L C'] 28)) 4 #[.bool false]).alloc (.map #[] 0)).alloc (.cells #[.map (some (w.heap.size + 1 + 1))] 71)
  have b2 := (imap_new ((w.alloc (.cells #[.int .i64 o, .slice A L C, .slice A' L C'] 28)).alloc (.cells #[.bool false] 4))).alloc (.cells #[.map (some (w.heap.size + 1 + 1))] 71)
  have b3 := Blk.new (((w.alloc (.cells #[.int .i64 o, .slice A L C, .slice A' L C'] 28)).alloc (.cells #[.bool false] 4)).alloc (.map #[] 0)) 71 #[.map (some (w.heap.size + 1 + 1))]
  simp only [World.size_alloc] at b1 b2 b3 l4 l5 l6
  have hI0 : MInv w.heap.size #[.int .i64 o, .slice A L C, .slice A' L C'] 0 (cn g (nus ([] : List (Nu (pr ds))))) V := MInv.below ⟨b0, b1, b2, b3⟩ hbV
  have hVs : w.heap.size + 4 ≤ V.heap.size := by have := hbV.size; simp at this; omega
  have hBwV : Below w.heap.size w V := bb hBV hbV
  have HSeq := all_stops 5 (by omega) b4 b5 (w.heap.size + 1 + 1 + 1 + 1) A2 C2 ds HSh.out V hz5 l6 (by rw [HSe.out]; exact c4) (by rw [HL.out]; exact c5) l4 l5
  clear hz5 l6 c4 c5 HAu b0 b1 b2 b3 hbV hBV hw0
  refine wpIn_rangeFunc_ownH rfl (by omega) (gf := 44) (lb := #[.pointer (some ⟨b4, 0, none⟩), .pointer (some ⟨b5, 0, none⟩)]) rfl trivial (enters_of Try.func44 (by kernel_rfl) rfl)
    HSeq KR.trans (KR.put (Nat.le_refl _)) (Below.refl _ _) (fun _ => rfl)
    (fun pre W => (MInv w.heap.size #[.int .i64 o, .slice A L C, .slice A' L C'] pre.length (cn g (nus pre)) W ∧ Once g (nus pre)) ∧ V.heap.size ≤ W.heap.size ∧ Below w.heap.size w W)
    (fun c pre W => c = .ret ∧ Blk W (w.heap.size + 1) 4 #[.bool true] ∧ (∃ (ini : List (Nu (pr ds))) (last : Nu (pr ds)), pre = ini ++ [last] ∧ ∃ m ∈ nus ini, g m = g last.1) ∧ Below w.heap.size w W)
    ?hI ?hIx ⟨⟨hI0, List.Pairwise.nil⟩, Nat.le_refl _, hBwV⟩
    (fun x a' W => ∃ Bx, V.heap.size ≤ Bx ∧ Blk W Bx 62 #[.int .i64 (ix ds x.1 0 : Int), .int .i64 (ix ds x.1 1 : Int), .int .i64 (ix ds x.1 2 : Int), .int .i64 (ix ds x.1 3 : Int)] ∧ a' = { tmps := #[.agg #[.int .i64 o, .slice A L C, .slice A' L C'], .pointer (some ⟨w.heap.size, 0, none⟩), .pointer (some ⟨w.heap.size + 1, 0, none⟩), .pointer (some ⟨w.heap.size + 1 + 1 + 1, 0, none⟩), undef, .pointer (some ⟨Bx, 0, none⟩), undef, .map (some (w.heap.size + 1 + 1)), .pointer (some ⟨w.heap.size, 1, none⟩), .slice A L C, .func (.func 44) #[] #[.pointer (some ⟨b4, 0, none⟩), .pointer (some ⟨b5, 0, none⟩)], .int .i64 (x.1 : Int), .agg #[.int .i64 (ix ds x.1 0 : Int), .int .i64 (ix ds x.1 1 : Int), .int .i64 (ix ds x.1 2 : Int), .int .i64 (ix ds x.1 3 : Int)], undef, undef, undef, undef, undef, undef, undef, undef, undef, undef, undef], defers := [] })
    ?hAx ?assign ?body ?done ?stop
  case hI => exact OwnFrom.and (OwnFrom.and (fun s X Y row hs hg hr => hs.own (by omega) hg hr) (ownFrom_pure _ _)) (OwnFrom.and (fun s X Y row hs hg hr => Nat.le_trans hs hg.size) (ownFrom_below (Nat.le_refl _) hBwV.size))
  case hIx =>
    rintro c s X Y row ⟨h1, h2, h3, h4⟩ hg hr
    exact ⟨h1, blk_own (β := Unit) _ _ (fun _ => _) () X Y row h2 hg (fun r e => (hr r e).2), h3, ownFrom_below (β := Unit) (Nat.le_refl _) hBwV.size () X Y row h4 hg hr⟩
  case hAx =>
    rintro x a' _ X Y row ⟨Bx, h1, h2, h3⟩ hg hr
    exact ⟨Bx, h1, blk_own (β := Unit) _ _ (fun _ => _) () X Y row h2 hg (fun r e => (hr r e).2), h3⟩
  case assign =>
    rintro l pre x W K ⟨⟨hi, hn⟩, hsz, hB⟩ hK
    gi_wp2
    exact hK _ _ ((KeepsOthers.alloc _ _).from _) (KR.below (below_alloc _ _) hsz) ⟨⟨hi.alloc _, hn⟩, by rw [World.size_alloc]; omega, hB.alloc hB.size _⟩ ⟨W.heap.size, hsz, Blk.new W _ _, rfl⟩
  case body =>
    rintro l pre x a' W hl ⟨r, hr⟩ ⟨⟨hi, hn⟩, hsz, hB⟩ ⟨Bx, hBx, bX, rfl⟩ hlt
    have hd1 : 1 ≤ 6 - 1 - 1 := by omega
    have hf33 : (Fence.wide.inRound l).fn 33 := trivial
    have hf33' : Fence.wide.fn 33 := trivial
    have e0 : W.cell? ⟨w.heap.size, 0, none⟩ = some (.int .i64 o) := hi.view.cell 0
    have e1 : W.cell? ⟨w.heap.size, 1, none⟩ = some (.slice A L C) := hi.view.cell 1
    have e2 : W.cell? ⟨w.heap.size, 2, none⟩ = some (.slice A' L C') := hi.view.cell 2
    have g0 : W.cell? ⟨Bx, 0, none⟩ = some (.int .i64 (ix ds x.1 0 : Int)) := bX.cell 0
    have g1 : W.cell? ⟨Bx, 1, none⟩ = some (.int .i64 (ix ds x.1 1 : Int)) := bX.cell 1
    have g2 : W.cell? ⟨Bx, 2, none⟩ = some (.int .i64 (ix ds x.1 2 : Int)) := bX.cell 2
    have g3 : W.cell? ⟨Bx, 3, none⟩ = some (.int .i64 (ix ds x.1 3 : Int)) := bX.cell 3
    have HX := HCe x.1 x.2
    have hWW : Below W0.heap.size W0 W := hw.trans (hB.mono hw.size)
    have HKQ : Hid (keyOf Try.prog 3 (.int .i64 (g x.1)) = some (keyI (g x.1))) := keyOfI (HGb.out x.1 x.2)
    have HN : Hid (cn g (nus (pre ++ [x])) = updI (cn g (nus pre)) (g x.1)) := by unfold Hid; rw [nus_snoc, cn_snoc]
    have HLn : Hid ((pre ++ [x]).length = pre.length + 1) := by unfold Hid; simp
    have hp4 : pre.length < 4096 := Nat.lt_of_lt_of_le hlt HSh.out.max
    have HNM : Hid (pre.length < maxLen) := by unfold Hid maxLen; omega
    have HO : Hid (¬ 0 < cn g (nus pre) (g x.1) → Once g (nus (pre ++ [x]))) := fun h => by rw [nus_snoc]; exact Once.snoc hn (cn_zero h)
    have HD2 : Hid (0 < cn g (nus pre) (g x.1) → ∃ (ini : List (Nu (pr ds))) (last : Nu (pr ds)), pre ++ [x] = ini ++ [last] ∧ ∃ m ∈ nus ini, g m = g last.1) := fun h => ⟨pre, x, rfl, cn_pos h⟩
    have hcl : cn g (nus pre) (g x.1) ≤ pre.length := by
      unfold cn
      refine Nat.le_trans List.count_le_length ?_
      rw [List.length_map, nus_len]; exact Nat.le_refl _
    have Hi : Hid (MInv w.heap.size #[.int .i64 o, .slice A L C, .slice A' L C'] pre.length (cn g (nus pre)) W) := hi
    have HB : Hid (Below w.heap.size w W) := hB
    have Hsz : Hid (V.heap.size ≤ W.heap.size) := hsz
    have hwe : Hid (cn g (nus pre) (g x.1) + 1 ≤ 4294967296) := by unfold Hid; omega
    obtain ⟨c, hc⟩ : ∃ c, cn g (nus pre) = c := ⟨_, rfl⟩
    rw [hc] at HN HO HD2 Hi hwe
    obtain ⟨z, hz⟩ : ∃ z, g x.1 = z := ⟨_, rfl⟩
    rw [hz] at HN HO HD2 HX HKQ hwe
    obtain ⟨pl, hpl⟩ : ∃ pl, pre.length = pl := ⟨_, rfl⟩
    rw [hpl] at HLn HNM Hi
    obtain ⟨ec, hec⟩ : ∃ ec, c z = ec := ⟨_, rfl⟩
    have HE : Hid (c z = ec) := hec
    rw [hec] at HO HD2 hwe
    clear hi hn bX HSeq hI0 hBwV hcl hp4 hlt hc hz hpl hec hB hsz HCe
    by_cases hec : 0 < ec
    · have hec' : (0 : Int) < (ec : Int) := by omega
      gi_wp2_with (first
        | (gi_at_call 33; refine (CallsIn.inRound l (callsIn_wide.2 (HX _ hWW))).mono ?_; rintro e w7 ⟨rfl, hb7⟩; have j3 : w7.cell? ⟨w.heap.size + 1 + 1 + 1, 0, none⟩ = some (.map (some (w.heap.size + 1 + 1))) := (Hi.out.box.below hb7).cell 0; have j1 : w7.cell? ⟨w.heap.size + 1, 0, none⟩ = some (.bool false) := (Hi.out.res.below hb7).cell 0; have i1 := (Hi.out.res.below hb7).frozen 0; obtain ⟨D, hown, ha⟩ := Hi.out.map.below hb7; have HA : Hid (∀ z : Int, D.atKey (keyI z) (.lit (.int .i64 0)) = .lit (.int .i64 (c z : Int))) := ha; clear ha)
        | (gi_at_lookup; refine wpListIn_lookup_own_int _ rfl _ _ 71 rfl 3 3 .i64 keyedI Try.underlying71 Try.underlying3 (zeroI _) (w.heap.size + 1 + 1) pl _ rfl hown _ _ rfl HKQ.out ?_; intro cc hat hwc; obtain rfl := cntI hat (HA.out z) HE.out; clear hat hwc)
        | (gi_at_mapUpdate; refine wpListIn_mapUpdate_own _ rfl _ _ _ 71 rfl 3 3 keyedI Try.underlying71 _ (w.heap.size + 1 + 1) pl _ rfl hown HNM.out _ _ _ rfl rfl HKQ.out _ [] (plainElem_int Try.underlying3 (wf_cnt1 hwe.out)) ?_; intro w8 hown1 hgrow1))
      refine ⟨((KeepsOthers.of_grownBy (grown_below hb7) (fun j o e => by cases e)).trans (KeepsOthers.setCell _ _ _)).from _, rfl, (Hi.out.res.below hb7).set 0 _, HD2.out hec, (bthen HB.out (Nat.le_refl _) hb7).setCell (p := ⟨w.heap.size + 1, 0, none⟩) (Nat.le_succ _) _⟩
    · have hec' : ¬ (0 : Int) < (ec : Int) := by omega
      obtain rfl : ec = 0 := by omega
      gi_wp2_with (first
        | (gi_at_call 33; refine (CallsIn.inRound l (callsIn_wide.2 (HX _ hWW))).mono ?_; rintro e w7 ⟨rfl, hb7⟩; have j3 : w7.cell? ⟨w.heap.size + 1 + 1 + 1, 0, none⟩ = some (.map (some (w.heap.size + 1 + 1))) := (Hi.out.box.below hb7).cell 0; have j1 : w7.cell? ⟨w.heap.size + 1, 0, none⟩ = some (.bool false) := (Hi.out.res.below hb7).cell 0; have i1 := (Hi.out.res.below hb7).frozen 0; obtain ⟨D, hown, ha⟩ := Hi.out.map.below hb7; have HA : Hid (∀ z : Int, D.atKey (keyI z) (.lit (.int .i64 0)) = .lit (.int .i64 (c z : Int))) := ha; clear ha)
        | (gi_at_lookup; refine wpListIn_lookup_own_int _ rfl _ _ 71 rfl 3 3 .i64 keyedI Try.underlying71 Try.underlying3 (zeroI _) (w.heap.size + 1 + 1) pl _ rfl hown _ _ rfl HKQ.out ?_; intro cc hat hwc; obtain rfl := cntI hat (HA.out z) HE.out; clear hat hwc)
        | (gi_at_mapUpdate; refine wpListIn_mapUpdate_own _ rfl _ _ _ 71 rfl 3 3 keyedI Try.underlying71 _ (w.heap.size + 1 + 1) pl _ rfl hown HNM.out _ _ _ rfl rfl HKQ.out _ [] (plainElem_int Try.underlying3 (wf_cnt1 hwe.out)) ?_; intro w8 hown1 hgrow1))
      have HM2 : IMap w8 (w.heap.size + 1 + 1) (pl + 1) (updI c z) := imap_put hown.isMap HA.out z (by rw [HE.out]; exact hown1)
      have hsz8 : V.heap.size ≤ w8.heap.size := Nat.le_trans (Nat.le_trans Hsz.out hb7.size) hgrow1.size
      have hk8 : KR (w.heap.size + 1 + 1 + 1 + 1) V.heap.size W w8 := (KR.below hb7 Hsz.out).trans ⟨hgrow1.size, fun b h1 h2 => hgrow1.block b (by have := hb7.size; have := Hsz.out; omega) (fun e => by injection e with e; omega)⟩
      refine ⟨((KeepsOthers.of_grownBy (grown_below hb7) (fun j o e => by cases e)).from _).trans (KeepsFrom.of_grownBy hgrow1 (fun j e => by injection e with e; omega)), hk8, ⟨?_, HO.out hec⟩, hsz8, ?_⟩
      · rw [HN.out, HLn.out]; exact (Hi.out.below hb7).put hgrow1 HM2
      · exact (bthen HB.out (Nat.le_refl _) hb7).grown hgrow1 (by have := HB.out.size; have := hb7.size; omega) (fun k e => by injection e with e; omega)
  case done =>
    rintro D ys W hD hys ⟨⟨hi, hn⟩, hsz, hB⟩ hK
    have HR : Hid (false = t) := HF.out fun m n h1 h2 => by rw [hys] at hn; exact hn.range h1 h2
    have e1 : W.cell? ⟨w.heap.size + 1, 0, none⟩ = some (.bool false) := hi.res.cell 0
    have f1 := hi.res.frozen 0
    have C1 : Hid (Blk W (w.heap.size + 1) 4 #[.bool false]) := hi.res
    clear HSeq hI0 hi hn
    gi_wp2
    have hK' := (KeepsOthers.setCell W ⟨w.heap.size + 1, 0, none⟩ (.bool false)).same D _ hK rfl
    refine ⟨by simp, .inl ⟨_, _, rfl, run_takeDeferred hK', ?_⟩⟩
    have cY := ((C1.out.set 0 (.bool false)).kept (grownBy_putObj' _ D (.deferred none)) (fun e => by injection e with e; omega)).cell 0
    simp at cY
    refine ⟨.bool false, ?_, by rw [← HR.out], (hB.setCell (p := ⟨w.heap.size + 1, 0, none⟩) (Nat.le_succ _) _).trans (belowK_b (w := w) (Nat.le_refl _) _ D _ _ (by omega) hK' rfl rfl)⟩
    simp [results, Try.results31, go_sem, cY]
  case stop =>
    rintro D c pre W hD ⟨k, hk, hpre⟩ ⟨rfl, h2, ⟨ini, last, rfl, m, hm, hgm⟩, hB⟩ hK
    obtain ⟨h3, h4⟩ := nus_last hpre
    rw [h4] at hm
    have HR : Hid (true = t) := HT.out m last.1 (by simpa using hm) last.2 hgm
    clear HSeq hI0
    gi_wp2
    refine ⟨by simp, .inl ⟨_, _, rfl, run_takeDeferred hK, ?_⟩⟩
    have cY := (h2.kept (grownBy_putObj' _ D (.deferred none)) (fun e => by injection e with e; omega)).cell 0
    simp at cY
    refine ⟨.bool true, ?_, by rw [← HR.out], hB.trans (belowK_b (w := w) (Nat.le_refl _) _ D _ _ (by omega) hK rfl rfl)⟩
    simp [results, Try.results31, go_sem, cY]
end Go.Proofs.Ytccknfhhmdoffaa

/-
  ViewPicks: the whole. No condition but that the rows lie there.
-/
import Derived.Test.YtccknfhhmdoffaaVl11
namespace Go.Proofs.Ytccknfhhmdoffaa
set_option linter.unusedVariables false
open Go.RowKit

theorem picks_law (W : World) (o : Int) (A : Option Addr) (C : Nat) (A' : Option Addr) (C' : Nat) (zs ss : List Int) (hD : ZAt W A C zs) (hZ : ZAt W A' C' ss) (k : Int) (_ : I64 k) (i : Int) (_ : I64 i) : AnsB W 8 #[vw o A zs.length C A' ss.length C', .int .i64 k, .int .i64 i] (.bool true) := by
  cases hg : gtB zs.length ss.length with
  | true => exact picks_great W o A _ C A' _ C' k i hg
  | false =>
    obtain ⟨e, he⟩ := chk_any o zs ss 4096
    have HR := rcheck_any W o A C A' C' zs ss hD hZ 4096 e he
    by_cases h0 : e = 0
    · subst h0
      obtain ⟨ds, rfl, hO⟩ := he.ok rfl
      by_cases hk : 0 ≤ k ∧ k < ((ints ds).length : Int)
      · obtain ⟨j, rfl⟩ := Int.eq_ofNat_of_zero_le hk.1
        have hj : j < ds.length := by have := hk.2; rw [ints_len] at this; omega
        have hd : ds[j]? = some ds[j] := List.getElem?_eq_getElem hj
        have hcap := hD.cap
        rw [ints_len] at hg hcap ⊢
        rw [hO.len] at hg ⊢
        by_cases hi : 0 ≤ i ∧ i < (ds[j] : Int)
        · obtain ⟨a, rfl⟩ := Int.eq_ofNat_of_zero_le hi.1
          by_cases hC : C = j + 1
          · obtain rfl : C = ds.length := by omega
            exact picks_last W o A A' C' ds ss hD hZ hO j _ hd hg a (by omega) hC.symm
          · exact picks_good W o A C A' C' ds ss hD hZ hO j _ hd hg a (by omega) hC
        · exact picks_bad W o A C A' C' ds ss hD hZ hO j _ hd hg i hi
      · have hc : caE 0 (ints ds).length k = 10 := by
          unfold caE
          rw [if_pos rfl, if_neg (by simp [axB]; omega)]
        have HP := pick_err W o A C A' C' (ints ds) ss hD hZ 0 he k i (by rw [hc]; omega)
        rw [hc] at HP
        by_cases hk0 : k < 0
        · exact picks_axis1 W o A _ C A' _ C' k i hg hk0 HP HR
        · exact picks_axis2 W o A _ C A' _ C' k i hg hk0 (by omega) HP HR
    · have hc : caE e zs.length k = e := by unfold caE; rw [if_neg h0]
      have HP := pick_err W o A C A' C' zs ss hD hZ e he k i (by rw [hc]; exact h0)
      rw [hc] at HP
      exact picks_err W o A _ C A' _ C' k i hg e h0 HP HR
end Go.Proofs.Ytccknfhhmdoffaa

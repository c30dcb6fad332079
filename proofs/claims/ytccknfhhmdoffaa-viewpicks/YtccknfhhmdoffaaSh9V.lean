/-
  What shape.indexOf answers. No condition but that a shape lies there.
-/
import Derived.Test.YtccknfhhmdoffaaSh8
namespace Go.Proofs.Ytccknfhhmdoffaa
set_option linter.unusedVariables false
open Go.RowKit Go.Shelf

theorem indexOf_any (W : World) (A : Option Addr) (C : Nat) (ds : List Nat) (hS : Shp ds) (hZ : ZAt W A C (ints ds)) (n : Nat) (hn : n < pr ds) : AnsB W 45 #[.slice A ds.length C, .int .i64 (n : Int)] (ixV fun j => (ix ds n j : Int)) :=
  fun w hw => callsIn_wide.1 (indexOf_in 3 (by omega) W A C ds hS hZ n hn w hw)

end Go.Proofs.Ytccknfhhmdoffaa

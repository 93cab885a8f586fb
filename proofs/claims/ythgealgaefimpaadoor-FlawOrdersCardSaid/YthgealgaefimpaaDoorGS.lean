/-
  FlawOrders for any argument.
-/
import Derived.Test.YthgealgaefimpaaDoorGQ
import Derived.Test.YthgealgaefimpaaDoorGZ
namespace Go.Proofs.YthgealgaefimpaaDoor
open Go.RowKit
open Pl
theorem orders_any (o : Nat × Nat × Option Addr × Nat × Nat) (w : World) (hT : StrTab w) (h0 : 0 < w.heap.size) (ho : o.1 < 256 ∧ o.2.1 < 256 ∧ o.2.2.2.1 ≤ maxLen ∧ TrisAt w w.heap.size (.slice o.2.2.1 o.2.2.2.1 o.2.2.2.2) o.2.2.2.1) :
    Calls Tryd.prog 9 #[.agg #[.int .u8 (o.1 : Nat), .int .u8 (o.2.1 : Nat), .slice o.2.2.1 o.2.2.2.1 o.2.2.2.2]] w fun e w' => e = .returned (.bool true) ∧ Below w.heap.size w w' :=
  Orders_any o.1 o.2.1 o.2.2.1 o.2.2.2.1 o.2.2.2.2 w hT h0 ho.1 ho.2.1 ho.2.2.2 ho.2.2.1
end Go.Proofs.YthgealgaefimpaaDoor

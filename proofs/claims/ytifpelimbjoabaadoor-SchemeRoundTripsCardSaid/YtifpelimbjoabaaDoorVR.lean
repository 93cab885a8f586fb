/-
  SchemeRoundTrips for any two raw schemes.
-/
import Derived.Test.YtifpelimbjoabaaDoorVQ
namespace Go.Proofs.YtifpelimbjoabaaDoor
open Go.ChangeShapes Go.WideShapes Go.ChangeAt Go.RowKit Go.ChangeMaps

theorem rounds_any (o q : Int × Int × Option Addr × Nat × Nat) (m : Int) (w : World) (hT : StrTab w) (hP : PowTab w) (hm : MaxVar w m) (h0 : 0 < w.heap.size) (hg : 2 < w.heap.size)
    (ho : (0 ≤ o.1 ∧ o.1 ≤ 255) ∧ (0 ≤ o.2.1 ∧ o.2.1 ≤ 255) ∧ o.2.2.2.1 ≤ maxLen ∧ RawsAt w w.heap.size (.slice o.2.2.1 o.2.2.2.1 o.2.2.2.2) o.2.2.2.1)
    (hq : (0 ≤ q.1 ∧ q.1 ≤ 255) ∧ (0 ≤ q.2.1 ∧ q.2.1 ≤ 255) ∧ q.2.2.2.1 ≤ maxLen ∧ RawsAt w w.heap.size (.slice q.2.2.1 q.2.2.2.1 q.2.2.2.2) q.2.2.2.1) :
    Calls Tryd.prog 4 #[.agg #[.int .u8 o.1, .int .u8 o.2.1, .slice o.2.2.1 o.2.2.2.1 o.2.2.2.2], .agg #[.int .u8 q.1, .int .u8 q.2.1, .slice q.2.2.1 q.2.2.2.1 q.2.2.2.2]] w fun e w' => e = .returned (.bool true) ∧ Below w.heap.size w w' :=
  Rounds_any o.1 o.2.1 q.1 q.2.1 m o.2.2.1 q.2.2.1 o.2.2.2.1 o.2.2.2.2 q.2.2.2.1 q.2.2.2.2 w hT hP hm h0 hg ho.1 ho.2.1 hq.1 hq.2.1 ho.2.2.2 ho.2.2.1 hq.2.2.2 hq.2.2.1
end Go.Proofs.YtifpelimbjoabaaDoor

/-
  The forms' test of an event.
-/
import Derived.Test.YtmioocmjlbjfpaaDoorH
namespace Go.Proofs.YtmioocmjlbjfpaaDoor
open Go.RowKit
open Pl

/-- Does an event with these fields fit a form with these spans? -/
def fitsB (k1 k2 p1 p2 t1 t2 n1 n2 s1 s2 : Int) (keys : List UInt8) (ps : List (Int × Int)) (text : List UInt8) (n l : Int) : Bool :=
  hasB k1 k2 ((B keys).size : Int) && (hasB p1 p2 (ps.length : Int) && (hasB t1 t2 ((B text).size : Int) && (hasB n1 n2 n && (hasB s1 s2 l && (lettersB keys && (incB keys && (lettersB text && insideB ps)))))))
theorem PtsAt.into {w W0 W : World} {v : Value} {ps : List (Int × Int)} (h : PtsAt w w.heap.size v ps) (h0 : Below w.heap.size w W0) (hb : Below W0.heap.size W0 W) : PtsAt W W.heap.size v ps :=
  (h.below (h0.trans (hb.mono h0.size))).up (Nat.le_trans h0.size hb.size)
theorem letters_is (l : List UInt8) (r : Bool) (h : lettersB l = r) (w : World) :
    Calls Tryd.prog 53 #[.string (B l)] w fun e w' => e = .returned (.bool r) ∧ Below w.heap.size w w' := by
  subst h; exact letters_any (B l) w
theorem increasing_is (l : List UInt8) (r : Bool) (hl : lettersB l = true) (h : incB l = r) (w : World) :
    Calls Tryd.prog 54 #[.string (B l)] w fun e w' => e = .returned (.bool r) ∧ Below w.heap.size w w' := by
  subst h; exact increasing_any (B l) w hl
theorem inside_is (v : Value) (ps : List (Int × Int)) (r : Bool) (h : insideB ps = r) (w : World) (hp : PtsAt w w.heap.size v ps) (hl : ps.length ≤ maxLen) :
    Calls Tryd.prog 55 #[v] w fun e w' => e = .returned (.bool r) ∧ Below w.heap.size w w' := by
  subst h; exact inside_any v ps w hp hl

set_option maxHeartbeats 4000000 in
set_option maxRecDepth 100000 in
theorem fits_case0 (nm : ByteArray) (k1 k2 p1 p2 t1 t2 n1 n2 s1 s2 : Int) (wr rd : Nat) (kd : Int) (keys : List UInt8) (va : Option Addr) (vc : Nat) (ps : List (Int × Int)) (text : List UInt8) (n l : Int) (w : World) (h1 : hasB k1 k2 ((B keys).size : Int) = false) :
    Calls Tryd.prog 44 #[.agg #[.string nm, .int .i64 k1, .int .i64 k2, .int .i64 p1, .int .i64 p2, .int .i64 t1, .int .i64 t2, .int .i64 n1, .int .i64 n2, .int .i64 s1, .int .i64 s2, .func (.func wr) #[] #[], .func (.func rd) #[] #[]], .agg #[.int .i64 kd, .string (B keys), .slice va ps.length vc, .string (B text), .int .i64 n, .int .i64 l]] w fun e w' => e = .returned (.bool false) ∧ Below w.heap.size w w' := by
  have h0 : Below w.heap.size w ((w.alloc (.cells #[.string nm, .int .i64 k1, .int .i64 k2, .int .i64 p1, .int .i64 p2, .int .i64 t1, .int .i64 t2, .int .i64 n1, .int .i64 n2, .int .i64 s1, .int .i64 s2, .func (.func wr) #[] #[], .func (.func rd) #[] #[]] 62)).alloc (.cells #[.int .i64 kd, .string (B keys), .slice va ps.length vc, .string (B text), .int .i64 n, .int .i64 l] 31)) := ((Below.refl _ _).alloc (Nat.le_refl _) _).alloc (by simp) _
  have HB := Lib.hid (Below.refl ((w.alloc (.cells #[.string nm, .int .i64 k1, .int .i64 k2, .int .i64 p1, .int .i64 p2, .int .i64 t1, .int .i64 t2, .int .i64 n1, .int .i64 n2, .int .i64 s1, .int .i64 s2, .func (.func wr) #[] #[], .func (.func rd) #[] #[]] 62)).alloc (.cells #[.int .i64 kd, .string (B keys), .slice va ps.length vc, .string (B text), .int .i64 n, .int .i64 l] 31)).heap.size ((w.alloc (.cells #[.string nm, .int .i64 k1, .int .i64 k2, .int .i64 p1, .int .i64 p2, .int .i64 t1, .int .i64 t2, .int .i64 n1, .int .i64 n2, .int .i64 s1, .int .i64 s2, .func (.func wr) #[] #[], .func (.func rd) #[] #[]] 62)).alloc (.cells #[.int .i64 kd, .string (B keys), .slice va ps.length vc, .string (B text), .int .i64 n, .int .i64 l] 31)))
  have H0 := Lib.hid h0
  clear h0
  have C1 := fun w => Lib.hid (has_is k1 k2 ((B keys).size : Int) false h1 w)
  clear h1
  go_enter Tryd.func44, Tryd.ntmps44
  go_wp2_with fail
  refine ((C1 _).out).mono ?_
  rintro e x1 ⟨rfl, hb⟩
  have HB1 := Lib.hid (HB.out.trans (hb.mono HB.out.size))
  clear HB hb C1
  have hc1 := (bcell HB1.out).1
  go_wp2_with fail
  go_ret
  exact ⟨rfl, H0.out.trans (HB1.out.mono H0.out.size)⟩

set_option maxHeartbeats 4000000 in
set_option maxRecDepth 100000 in
theorem fits_case1 (nm : ByteArray) (k1 k2 p1 p2 t1 t2 n1 n2 s1 s2 : Int) (wr rd : Nat) (kd : Int) (keys : List UInt8) (va : Option Addr) (vc : Nat) (ps : List (Int × Int)) (text : List UInt8) (n l : Int) (w : World) (h1 : hasB k1 k2 ((B keys).size : Int) = true) (h2 : hasB p1 p2 (ps.length : Int) = false) :
    Calls Tryd.prog 44 #[.agg #[.string nm, .int .i64 k1, .int .i64 k2, .int .i64 p1, .int .i64 p2, .int .i64 t1, .int .i64 t2, .int .i64 n1, .int .i64 n2, .int .i64 s1, .int .i64 s2, .func (.func wr) #[] #[], .func (.func rd) #[] #[]], .agg #[.int .i64 kd, .string (B keys), .slice va ps.length vc, .string (B text), .int .i64 n, .int .i64 l]] w fun e w' => e = .returned (.bool false) ∧ Below w.heap.size w w' := by
  have h0 : Below w.heap.size w ((w.alloc (.cells #[.string nm, .int .i64 k1, .int .i64 k2, .int .i64 p1, .int .i64 p2, .int .i64 t1, .int .i64 t2, .int .i64 n1, .int .i64 n2, .int .i64 s1, .int .i64 s2, .func (.func wr) #[] #[], .func (.func rd) #[] #[]] 62)).alloc (.cells #[.int .i64 kd, .string (B keys), .slice va ps.length vc, .string (B text), .int .i64 n, .int .i64 l] 31)) := ((Below.refl _ _).alloc (Nat.le_refl _) _).alloc (by simp) _
  have HB := Lib.hid (Below.refl ((w.alloc (.cells #[.string nm, .int .i64 k1, .int .i64 k2, .int .i64 p1, .int .i64 p2, .int .i64 t1, .int .i64 t2, .int .i64 n1, .int .i64 n2, .int .i64 s1, .int .i64 s2, .func (.func wr) #[] #[], .func (.func rd) #[] #[]] 62)).alloc (.cells #[.int .i64 kd, .string (B keys), .slice va ps.length vc, .string (B text), .int .i64 n, .int .i64 l] 31)).heap.size ((w.alloc (.cells #[.string nm, .int .i64 k1, .int .i64 k2, .int .i64 p1, .int .i64 p2, .int .i64 t1, .int .i64 t2, .int .i64 n1, .int .i64 n2, .int .i64 s1, .int .i64 s2, .func (.func wr) #[] #[], .func (.func rd) #[] #[]] 62)).alloc (.cells #[.int .i64 kd, .string (B keys), .slice va ps.length vc, .string (B text), .int .i64 n, .int .i64 l] 31)))
  have H0 := Lib.hid h0
  clear h0
  have C1 := fun w => Lib.hid (has_is k1 k2 ((B keys).size : Int) true h1 w)
  have C2 := fun w => Lib.hid (has_is p1 p2 (ps.length : Int) false h2 w)
  clear h1 h2
  go_enter Tryd.func44, Tryd.ntmps44
  go_wp2_with fail
  refine ((C1 _).out).mono ?_
  rintro e x1 ⟨rfl, hb⟩
  have HB1 := Lib.hid (HB.out.trans (hb.mono HB.out.size))
  clear HB hb C1
  have hc1 := (bcell HB1.out).1
  go_wp2_with fail
  refine ((C2 _).out).mono ?_
  rintro e x2 ⟨rfl, hb⟩
  have HB2 := Lib.hid (HB1.out.trans (hb.mono HB1.out.size))
  clear HB1 hb hc1 C2
  have hc2 := (bcell HB2.out).1
  go_wp2_with fail
  go_ret
  exact ⟨rfl, H0.out.trans (HB2.out.mono H0.out.size)⟩

set_option maxHeartbeats 4000000 in
set_option maxRecDepth 100000 in
theorem fits_case2 (nm : ByteArray) (k1 k2 p1 p2 t1 t2 n1 n2 s1 s2 : Int) (wr rd : Nat) (kd : Int) (keys : List UInt8) (va : Option Addr) (vc : Nat) (ps : List (Int × Int)) (text : List UInt8) (n l : Int) (w : World) (h1 : hasB k1 k2 ((B keys).size : Int) = true) (h2 : hasB p1 p2 (ps.length : Int) = true) (h3 : hasB t1 t2 ((B text).size : Int) = false) :
    Calls Tryd.prog 44 #[.agg #[.string nm, .int .i64 k1, .int .i64 k2, .int .i64 p1, .int .i64 p2, .int .i64 t1, .int .i64 t2, .int .i64 n1, .int .i64 n2, .int .i64 s1, .int .i64 s2, .func (.func wr) #[] #[], .func (.func rd) #[] #[]], .agg #[.int .i64 kd, .string (B keys), .slice va ps.length vc, .string (B text), .int .i64 n, .int .i64 l]] w fun e w' => e = .returned (.bool false) ∧ Below w.heap.size w w' := by
  have h0 : Below w.heap.size w ((w.alloc (.cells #[.string nm, .int .i64 k1, .int .i64 k2, .int .i64 p1, .int .i64 p2, .int .i64 t1, .int .i64 t2, .int .i64 n1, .int .i64 n2, .int .i64 s1, .int .i64 s2, .func (.func wr) #[] #[], .func (.func rd) #[] #[]] 62)).alloc (.cells #[.int .i64 kd, .string (B keys), .slice va ps.length vc, .string (B text), .int .i64 n, .int .i64 l] 31)) := ((Below.refl _ _).alloc (Nat.le_refl _) _).alloc (by simp) _
  have HB := Lib.hid (Below.refl ((w.alloc (.cells #[.string nm, .int .i64 k1, .int .i64 k2, .int .i64 p1, .int .i64 p2, .int .i64 t1, .int .i64 t2, .int .i64 n1, .int .i64 n2, .int .i64 s1, .int .i64 s2, .func (.func wr) #[] #[], .func (.func rd) #[] #[]] 62)).alloc (.cells #[.int .i64 kd, .string (B keys), .slice va ps.length vc, .string (B text), .int .i64 n, .int .i64 l] 31)).heap.size ((w.alloc (.cells #[.string nm, .int .i64 k1, .int .i64 k2, .int .i64 p1, .int .i64 p2, .int .i64 t1, .int .i64 t2, .int .i64 n1, .int .i64 n2, .int .i64 s1, .int .i64 s2, .func (.func wr) #[] #[], .func (.func rd) #[] #[]] 62)).alloc (.cells #[.int .i64 kd, .string (B keys), .slice va ps.length vc, .string (B text), .int .i64 n, .int .i64 l] 31)))
  have H0 := Lib.hid h0
  clear h0
  have C1 := fun w => Lib.hid (has_is k1 k2 ((B keys).size : Int) true h1 w)
  have C2 := fun w => Lib.hid (has_is p1 p2 (ps.length : Int) true h2 w)
  have C3 := fun w => Lib.hid (has_is t1 t2 ((B text).size : Int) false h3 w)
  clear h1 h2 h3
  go_enter Tryd.func44, Tryd.ntmps44
  go_wp2_with fail
  refine ((C1 _).out).mono ?_
  rintro e x1 ⟨rfl, hb⟩
  have HB1 := Lib.hid (HB.out.trans (hb.mono HB.out.size))
  clear HB hb C1
  have hc1 := (bcell HB1.out).1
  go_wp2_with fail
  refine ((C2 _).out).mono ?_
  rintro e x2 ⟨rfl, hb⟩
  have HB2 := Lib.hid (HB1.out.trans (hb.mono HB1.out.size))
  clear HB1 hb hc1 C2
  have hc2 := (bcell HB2.out).1
  go_wp2_with fail
  refine ((C3 _).out).mono ?_
  rintro e x3 ⟨rfl, hb⟩
  have HB3 := Lib.hid (HB2.out.trans (hb.mono HB2.out.size))
  clear HB2 hb hc2 C3
  have hc3 := (bcell HB3.out).1
  go_wp2_with fail
  go_ret
  exact ⟨rfl, H0.out.trans (HB3.out.mono H0.out.size)⟩

set_option maxHeartbeats 4000000 in
set_option maxRecDepth 100000 in
theorem fits_case3 (nm : ByteArray) (k1 k2 p1 p2 t1 t2 n1 n2 s1 s2 : Int) (wr rd : Nat) (kd : Int) (keys : List UInt8) (va : Option Addr) (vc : Nat) (ps : List (Int × Int)) (text : List UInt8) (n l : Int) (w : World) (h1 : hasB k1 k2 ((B keys).size : Int) = true) (h2 : hasB p1 p2 (ps.length : Int) = true) (h3 : hasB t1 t2 ((B text).size : Int) = true) (h4 : hasB n1 n2 n = false) :
    Calls Tryd.prog 44 #[.agg #[.string nm, .int .i64 k1, .int .i64 k2, .int .i64 p1, .int .i64 p2, .int .i64 t1, .int .i64 t2, .int .i64 n1, .int .i64 n2, .int .i64 s1, .int .i64 s2, .func (.func wr) #[] #[], .func (.func rd) #[] #[]], .agg #[.int .i64 kd, .string (B keys), .slice va ps.length vc, .string (B text), .int .i64 n, .int .i64 l]] w fun e w' => e = .returned (.bool false) ∧ Below w.heap.size w w' := by
  have h0 : Below w.heap.size w ((w.alloc (.cells #[.string nm, .int .i64 k1, .int .i64 k2, .int .i64 p1, .int .i64 p2, .int .i64 t1, .int .i64 t2, .int .i64 n1, .int .i64 n2, .int .i64 s1, .int .i64 s2, .func (.func wr) #[] #[], .func (.func rd) #[] #[]] 62)).alloc (.cells #[.int .i64 kd, .string (B keys), .slice va ps.length vc, .string (B text), .int .i64 n, .int .i64 l] 31)) := ((Below.refl _ _).alloc (Nat.le_refl _) _).alloc (by simp) _
  have HB := Lib.hid (Below.refl ((w.alloc (.cells #[.string nm, .int .i64 k1, .int .i64 k2, .int .i64 p1, .int .i64 p2, .int .i64 t1, .int .i64 t2, .int .i64 n1, .int .i64 n2, .int .i64 s1, .int .i64 s2, .func (.func wr) #[] #[], .func (.func rd) #[] #[]] 62)).alloc (.cells #[.int .i64 kd, .string (B keys), .slice va ps.length vc, .string (B text), .int .i64 n, .int .i64 l] 31)).heap.size ((w.alloc (.cells #[.string nm, .int .i64 k1, .int .i64 k2, .int .i64 p1, .int .i64 p2, .int .i64 t1, .int .i64 t2, .int .i64 n1, .int .i64 n2, .int .i64 s1, .int .i64 s2, .func (.func wr) #[] #[], .func (.func rd) #[] #[]] 62)).alloc (.cells #[.int .i64 kd, .string (B keys), .slice va ps.length vc, .string (B text), .int .i64 n, .int .i64 l] 31)))
  have H0 := Lib.hid h0
  clear h0
  have C1 := fun w => Lib.hid (has_is k1 k2 ((B keys).size : Int) true h1 w)
  have C2 := fun w => Lib.hid (has_is p1 p2 (ps.length : Int) true h2 w)
  have C3 := fun w => Lib.hid (has_is t1 t2 ((B text).size : Int) true h3 w)
  have C4 := fun w => Lib.hid (has_is n1 n2 n false h4 w)
  clear h1 h2 h3 h4
  go_enter Tryd.func44, Tryd.ntmps44
  go_wp2_with fail
  refine ((C1 _).out).mono ?_
  rintro e x1 ⟨rfl, hb⟩
  have HB1 := Lib.hid (HB.out.trans (hb.mono HB.out.size))
  clear HB hb C1
  have hc1 := (bcell HB1.out).1
  go_wp2_with fail
  refine ((C2 _).out).mono ?_
  rintro e x2 ⟨rfl, hb⟩
  have HB2 := Lib.hid (HB1.out.trans (hb.mono HB1.out.size))
  clear HB1 hb hc1 C2
  have hc2 := (bcell HB2.out).1
  go_wp2_with fail
  refine ((C3 _).out).mono ?_
  rintro e x3 ⟨rfl, hb⟩
  have HB3 := Lib.hid (HB2.out.trans (hb.mono HB2.out.size))
  clear HB2 hb hc2 C3
  have hc3 := (bcell HB3.out).1
  go_wp2_with fail
  refine ((C4 _).out).mono ?_
  rintro e x4 ⟨rfl, hb⟩
  have HB4 := Lib.hid (HB3.out.trans (hb.mono HB3.out.size))
  clear HB3 hb hc3 C4
  have hc4 := (bcell HB4.out).1
  go_wp2_with fail
  go_ret
  exact ⟨rfl, H0.out.trans (HB4.out.mono H0.out.size)⟩

set_option maxHeartbeats 4000000 in
set_option maxRecDepth 100000 in
theorem fits_case4 (nm : ByteArray) (k1 k2 p1 p2 t1 t2 n1 n2 s1 s2 : Int) (wr rd : Nat) (kd : Int) (keys : List UInt8) (va : Option Addr) (vc : Nat) (ps : List (Int × Int)) (text : List UInt8) (n l : Int) (w : World) (h1 : hasB k1 k2 ((B keys).size : Int) = true) (h2 : hasB p1 p2 (ps.length : Int) = true) (h3 : hasB t1 t2 ((B text).size : Int) = true) (h4 : hasB n1 n2 n = true) (h5 : hasB s1 s2 l = false) :
    Calls Tryd.prog 44 #[.agg #[.string nm, .int .i64 k1, .int .i64 k2, .int .i64 p1, .int .i64 p2, .int .i64 t1, .int .i64 t2, .int .i64 n1, .int .i64 n2, .int .i64 s1, .int .i64 s2, .func (.func wr) #[] #[], .func (.func rd) #[] #[]], .agg #[.int .i64 kd, .string (B keys), .slice va ps.length vc, .string (B text), .int .i64 n, .int .i64 l]] w fun e w' => e = .returned (.bool false) ∧ Below w.heap.size w w' := by
  have h0 : Below w.heap.size w ((w.alloc (.cells #[.string nm, .int .i64 k1, .int .i64 k2, .int .i64 p1, .int .i64 p2, .int .i64 t1, .int .i64 t2, .int .i64 n1, .int .i64 n2, .int .i64 s1, .int .i64 s2, .func (.func wr) #[] #[], .func (.func rd) #[] #[]] 62)).alloc (.cells #[.int .i64 kd, .string (B keys), .slice va ps.length vc, .string (B text), .int .i64 n, .int .i64 l] 31)) := ((Below.refl _ _).alloc (Nat.le_refl _) _).alloc (by simp) _
  have HB := Lib.hid (Below.refl ((w.alloc (.cells #[.string nm, .int .i64 k1, .int .i64 k2, .int .i64 p1, .int .i64 p2, .int .i64 t1, .int .i64 t2, .int .i64 n1, .int .i64 n2, .int .i64 s1, .int .i64 s2, .func (.func wr) #[] #[], .func (.func rd) #[] #[]] 62)).alloc (.cells #[.int .i64 kd, .string (B keys), .slice va ps.length vc, .string (B text), .int .i64 n, .int .i64 l] 31)).heap.size ((w.alloc (.cells #[.string nm, .int .i64 k1, .int .i64 k2, .int .i64 p1, .int .i64 p2, .int .i64 t1, .int .i64 t2, .int .i64 n1, .int .i64 n2, .int .i64 s1, .int .i64 s2, .func (.func wr) #[] #[], .func (.func rd) #[] #[]] 62)).alloc (.cells #[.int .i64 kd, .string (B keys), .slice va ps.length vc, .string (B text), .int .i64 n, .int .i64 l] 31)))
  have H0 := Lib.hid h0
  clear h0
  have C1 := fun w => Lib.hid (has_is k1 k2 ((B keys).size : Int) true h1 w)
  have C2 := fun w => Lib.hid (has_is p1 p2 (ps.length : Int) true h2 w)
  have C3 := fun w => Lib.hid (has_is t1 t2 ((B text).size : Int) true h3 w)
  have C4 := fun w => Lib.hid (has_is n1 n2 n true h4 w)
  have C5 := fun w => Lib.hid (has_is s1 s2 l false h5 w)
  clear h1 h2 h3 h4 h5
  go_enter Tryd.func44, Tryd.ntmps44
  go_wp2_with fail
  refine ((C1 _).out).mono ?_
  rintro e x1 ⟨rfl, hb⟩
  have HB1 := Lib.hid (HB.out.trans (hb.mono HB.out.size))
  clear HB hb C1
  have hc1 := (bcell HB1.out).1
  go_wp2_with fail
  refine ((C2 _).out).mono ?_
  rintro e x2 ⟨rfl, hb⟩
  have HB2 := Lib.hid (HB1.out.trans (hb.mono HB1.out.size))
  clear HB1 hb hc1 C2
  have hc2 := (bcell HB2.out).1
  go_wp2_with fail
  refine ((C3 _).out).mono ?_
  rintro e x3 ⟨rfl, hb⟩
  have HB3 := Lib.hid (HB2.out.trans (hb.mono HB2.out.size))
  clear HB2 hb hc2 C3
  have hc3 := (bcell HB3.out).1
  go_wp2_with fail
  refine ((C4 _).out).mono ?_
  rintro e x4 ⟨rfl, hb⟩
  have HB4 := Lib.hid (HB3.out.trans (hb.mono HB3.out.size))
  clear HB3 hb hc3 C4
  have hc4 := (bcell HB4.out).1
  go_wp2_with fail
  refine ((C5 _).out).mono ?_
  rintro e x5 ⟨rfl, hb⟩
  have HB5 := Lib.hid (HB4.out.trans (hb.mono HB4.out.size))
  clear HB4 hb hc4 C5
  have hc5 := (bcell HB5.out).1
  go_wp2_with fail
  go_ret
  exact ⟨rfl, H0.out.trans (HB5.out.mono H0.out.size)⟩

set_option maxHeartbeats 4000000 in
set_option maxRecDepth 100000 in
theorem fits_case5 (nm : ByteArray) (k1 k2 p1 p2 t1 t2 n1 n2 s1 s2 : Int) (wr rd : Nat) (kd : Int) (keys : List UInt8) (va : Option Addr) (vc : Nat) (ps : List (Int × Int)) (text : List UInt8) (n l : Int) (w : World) (h1 : hasB k1 k2 ((B keys).size : Int) = true) (h2 : hasB p1 p2 (ps.length : Int) = true) (h3 : hasB t1 t2 ((B text).size : Int) = true) (h4 : hasB n1 n2 n = true) (h5 : hasB s1 s2 l = true) (h6 : lettersB keys = false) :
    Calls Tryd.prog 44 #[.agg #[.string nm, .int .i64 k1, .int .i64 k2, .int .i64 p1, .int .i64 p2, .int .i64 t1, .int .i64 t2, .int .i64 n1, .int .i64 n2, .int .i64 s1, .int .i64 s2, .func (.func wr) #[] #[], .func (.func rd) #[] #[]], .agg #[.int .i64 kd, .string (B keys), .slice va ps.length vc, .string (B text), .int .i64 n, .int .i64 l]] w fun e w' => e = .returned (.bool false) ∧ Below w.heap.size w w' := by
  have h0 : Below w.heap.size w ((w.alloc (.cells #[.string nm, .int .i64 k1, .int .i64 k2, .int .i64 p1, .int .i64 p2, .int .i64 t1, .int .i64 t2, .int .i64 n1, .int .i64 n2, .int .i64 s1, .int .i64 s2, .func (.func wr) #[] #[], .func (.func rd) #[] #[]] 62)).alloc (.cells #[.int .i64 kd, .string (B keys), .slice va ps.length vc, .string (B text), .int .i64 n, .int .i64 l] 31)) := ((Below.refl _ _).alloc (Nat.le_refl _) _).alloc (by simp) _
  have HB := Lib.hid (Below.refl ((w.alloc (.cells #[.string nm, .int .i64 k1, .int .i64 k2, .int .i64 p1, .int .i64 p2, .int .i64 t1, .int .i64 t2, .int .i64 n1, .int .i64 n2, .int .i64 s1, .int .i64 s2, .func (.func wr) #[] #[], .func (.func rd) #[] #[]] 62)).alloc (.cells #[.int .i64 kd, .string (B keys), .slice va ps.length vc, .string (B text), .int .i64 n, .int .i64 l] 31)).heap.size ((w.alloc (.cells #[.string nm, .int .i64 k1, .int .i64 k2, .int .i64 p1, .int .i64 p2, .int .i64 t1, .int .i64 t2, .int .i64 n1, .int .i64 n2, .int .i64 s1, .int .i64 s2, .func (.func wr) #[] #[], .func (.func rd) #[] #[]] 62)).alloc (.cells #[.int .i64 kd, .string (B keys), .slice va ps.length vc, .string (B text), .int .i64 n, .int .i64 l] 31)))
  have H0 := Lib.hid h0
  clear h0
  have C1 := fun w => Lib.hid (has_is k1 k2 ((B keys).size : Int) true h1 w)
  have C2 := fun w => Lib.hid (has_is p1 p2 (ps.length : Int) true h2 w)
  have C3 := fun w => Lib.hid (has_is t1 t2 ((B text).size : Int) true h3 w)
  have C4 := fun w => Lib.hid (has_is n1 n2 n true h4 w)
  have C5 := fun w => Lib.hid (has_is s1 s2 l true h5 w)
  have C6 := fun w => Lib.hid (letters_is keys false h6 w)
  clear h1 h2 h3 h4 h5 h6
  go_enter Tryd.func44, Tryd.ntmps44
  go_wp2_with fail
  refine ((C1 _).out).mono ?_
  rintro e x1 ⟨rfl, hb⟩
  have HB1 := Lib.hid (HB.out.trans (hb.mono HB.out.size))
  clear HB hb C1
  have hc1 := (bcell HB1.out).1
  go_wp2_with fail
  refine ((C2 _).out).mono ?_
  rintro e x2 ⟨rfl, hb⟩
  have HB2 := Lib.hid (HB1.out.trans (hb.mono HB1.out.size))
  clear HB1 hb hc1 C2
  have hc2 := (bcell HB2.out).1
  go_wp2_with fail
  refine ((C3 _).out).mono ?_
  rintro e x3 ⟨rfl, hb⟩
  have HB3 := Lib.hid (HB2.out.trans (hb.mono HB2.out.size))
  clear HB2 hb hc2 C3
  have hc3 := (bcell HB3.out).1
  go_wp2_with fail
  refine ((C4 _).out).mono ?_
  rintro e x4 ⟨rfl, hb⟩
  have HB4 := Lib.hid (HB3.out.trans (hb.mono HB3.out.size))
  clear HB3 hb hc3 C4
  have hc4 := (bcell HB4.out).1
  go_wp2_with fail
  refine ((C5 _).out).mono ?_
  rintro e x5 ⟨rfl, hb⟩
  have HB5 := Lib.hid (HB4.out.trans (hb.mono HB4.out.size))
  clear HB4 hb hc4 C5
  have hc5 := (bcell HB5.out).1
  go_wp2_with fail
  refine ((C6 _).out).mono ?_
  rintro e x6 ⟨rfl, hb⟩
  have HB6 := Lib.hid (HB5.out.trans (hb.mono HB5.out.size))
  clear HB5 hb hc5 C6
  have hc6 := (bcell HB6.out).1
  go_wp2_with fail
  go_ret
  exact ⟨rfl, H0.out.trans (HB6.out.mono H0.out.size)⟩

set_option maxHeartbeats 4000000 in
set_option maxRecDepth 100000 in
theorem fits_case6 (nm : ByteArray) (k1 k2 p1 p2 t1 t2 n1 n2 s1 s2 : Int) (wr rd : Nat) (kd : Int) (keys : List UInt8) (va : Option Addr) (vc : Nat) (ps : List (Int × Int)) (text : List UInt8) (n l : Int) (w : World) (h1 : hasB k1 k2 ((B keys).size : Int) = true) (h2 : hasB p1 p2 (ps.length : Int) = true) (h3 : hasB t1 t2 ((B text).size : Int) = true) (h4 : hasB n1 n2 n = true) (h5 : hasB s1 s2 l = true) (h6 : lettersB keys = true) (h7 : incB keys = false) :
    Calls Tryd.prog 44 #[.agg #[.string nm, .int .i64 k1, .int .i64 k2, .int .i64 p1, .int .i64 p2, .int .i64 t1, .int .i64 t2, .int .i64 n1, .int .i64 n2, .int .i64 s1, .int .i64 s2, .func (.func wr) #[] #[], .func (.func rd) #[] #[]], .agg #[.int .i64 kd, .string (B keys), .slice va ps.length vc, .string (B text), .int .i64 n, .int .i64 l]] w fun e w' => e = .returned (.bool false) ∧ Below w.heap.size w w' := by
  have h0 : Below w.heap.size w ((w.alloc (.cells #[.string nm, .int .i64 k1, .int .i64 k2, .int .i64 p1, .int .i64 p2, .int .i64 t1, .int .i64 t2, .int .i64 n1, .int .i64 n2, .int .i64 s1, .int .i64 s2, .func (.func wr) #[] #[], .func (.func rd) #[] #[]] 62)).alloc (.cells #[.int .i64 kd, .string (B keys), .slice va ps.length vc, .string (B text), .int .i64 n, .int .i64 l] 31)) := ((Below.refl _ _).alloc (Nat.le_refl _) _).alloc (by simp) _
  have HB := Lib.hid (Below.refl ((w.alloc (.cells #[.string nm, .int .i64 k1, .int .i64 k2, .int .i64 p1, .int .i64 p2, .int .i64 t1, .int .i64 t2, .int .i64 n1, .int .i64 n2, .int .i64 s1, .int .i64 s2, .func (.func wr) #[] #[], .func (.func rd) #[] #[]] 62)).alloc (.cells #[.int .i64 kd, .string (B keys), .slice va ps.length vc, .string (B text), .int .i64 n, .int .i64 l] 31)).heap.size ((w.alloc (.cells #[.string nm, .int .i64 k1, .int .i64 k2, .int .i64 p1, .int .i64 p2, .int .i64 t1, .int .i64 t2, .int .i64 n1, .int .i64 n2, .int .i64 s1, .int .i64 s2, .func (.func wr) #[] #[], .func (.func rd) #[] #[]] 62)).alloc (.cells #[.int .i64 kd, .string (B keys), .slice va ps.length vc, .string (B text), .int .i64 n, .int .i64 l] 31)))
  have H0 := Lib.hid h0
  clear h0
  have C1 := fun w => Lib.hid (has_is k1 k2 ((B keys).size : Int) true h1 w)
  have C2 := fun w => Lib.hid (has_is p1 p2 (ps.length : Int) true h2 w)
  have C3 := fun w => Lib.hid (has_is t1 t2 ((B text).size : Int) true h3 w)
  have C4 := fun w => Lib.hid (has_is n1 n2 n true h4 w)
  have C5 := fun w => Lib.hid (has_is s1 s2 l true h5 w)
  have C6 := fun w => Lib.hid (letters_is keys true h6 w)
  have C7 := fun w => Lib.hid (increasing_is keys false h6 h7 w)
  clear h1 h2 h3 h4 h5 h6 h7
  go_enter Tryd.func44, Tryd.ntmps44
  go_wp2_with fail
  refine ((C1 _).out).mono ?_
  rintro e x1 ⟨rfl, hb⟩
  have HB1 := Lib.hid (HB.out.trans (hb.mono HB.out.size))
  clear HB hb C1
  have hc1 := (bcell HB1.out).1
  go_wp2_with fail
  refine ((C2 _).out).mono ?_
  rintro e x2 ⟨rfl, hb⟩
  have HB2 := Lib.hid (HB1.out.trans (hb.mono HB1.out.size))
  clear HB1 hb hc1 C2
  have hc2 := (bcell HB2.out).1
  go_wp2_with fail
  refine ((C3 _).out).mono ?_
  rintro e x3 ⟨rfl, hb⟩
  have HB3 := Lib.hid (HB2.out.trans (hb.mono HB2.out.size))
  clear HB2 hb hc2 C3
  have hc3 := (bcell HB3.out).1
  go_wp2_with fail
  refine ((C4 _).out).mono ?_
  rintro e x4 ⟨rfl, hb⟩
  have HB4 := Lib.hid (HB3.out.trans (hb.mono HB3.out.size))
  clear HB3 hb hc3 C4
  have hc4 := (bcell HB4.out).1
  go_wp2_with fail
  refine ((C5 _).out).mono ?_
  rintro e x5 ⟨rfl, hb⟩
  have HB5 := Lib.hid (HB4.out.trans (hb.mono HB4.out.size))
  clear HB4 hb hc4 C5
  have hc5 := (bcell HB5.out).1
  go_wp2_with fail
  refine ((C6 _).out).mono ?_
  rintro e x6 ⟨rfl, hb⟩
  have HB6 := Lib.hid (HB5.out.trans (hb.mono HB5.out.size))
  clear HB5 hb hc5 C6
  have hc6 := (bcell HB6.out).1
  go_wp2_with fail
  refine ((C7 _).out).mono ?_
  rintro e x7 ⟨rfl, hb⟩
  have HB7 := Lib.hid (HB6.out.trans (hb.mono HB6.out.size))
  clear HB6 hb hc6 C7
  have hc7 := (bcell HB7.out).1
  go_wp2_with fail
  go_ret
  exact ⟨rfl, H0.out.trans (HB7.out.mono H0.out.size)⟩

set_option maxHeartbeats 4000000 in
set_option maxRecDepth 100000 in
theorem fits_case7 (nm : ByteArray) (k1 k2 p1 p2 t1 t2 n1 n2 s1 s2 : Int) (wr rd : Nat) (kd : Int) (keys : List UInt8) (va : Option Addr) (vc : Nat) (ps : List (Int × Int)) (text : List UInt8) (n l : Int) (w : World) (h1 : hasB k1 k2 ((B keys).size : Int) = true) (h2 : hasB p1 p2 (ps.length : Int) = true) (h3 : hasB t1 t2 ((B text).size : Int) = true) (h4 : hasB n1 n2 n = true) (h5 : hasB s1 s2 l = true) (h6 : lettersB keys = true) (h7 : incB keys = true) (h8 : lettersB text = false) :
    Calls Tryd.prog 44 #[.agg #[.string nm, .int .i64 k1, .int .i64 k2, .int .i64 p1, .int .i64 p2, .int .i64 t1, .int .i64 t2, .int .i64 n1, .int .i64 n2, .int .i64 s1, .int .i64 s2, .func (.func wr) #[] #[], .func (.func rd) #[] #[]], .agg #[.int .i64 kd, .string (B keys), .slice va ps.length vc, .string (B text), .int .i64 n, .int .i64 l]] w fun e w' => e = .returned (.bool false) ∧ Below w.heap.size w w' := by
  have h0 : Below w.heap.size w ((w.alloc (.cells #[.string nm, .int .i64 k1, .int .i64 k2, .int .i64 p1, .int .i64 p2, .int .i64 t1, .int .i64 t2, .int .i64 n1, .int .i64 n2, .int .i64 s1, .int .i64 s2, .func (.func wr) #[] #[], .func (.func rd) #[] #[]] 62)).alloc (.cells #[.int .i64 kd, .string (B keys), .slice va ps.length vc, .string (B text), .int .i64 n, .int .i64 l] 31)) := ((Below.refl _ _).alloc (Nat.le_refl _) _).alloc (by simp) _
  have HB := Lib.hid (Below.refl ((w.alloc (.cells #[.string nm, .int .i64 k1, .int .i64 k2, .int .i64 p1, .int .i64 p2, .int .i64 t1, .int .i64 t2, .int .i64 n1, .int .i64 n2, .int .i64 s1, .int .i64 s2, .func (.func wr) #[] #[], .func (.func rd) #[] #[]] 62)).alloc (.cells #[.int .i64 kd, .string (B keys), .slice va ps.length vc, .string (B text), .int .i64 n, .int .i64 l] 31)).heap.size ((w.alloc (.cells #[.string nm, .int .i64 k1, .int .i64 k2, .int .i64 p1, .int .i64 p2, .int .i64 t1, .int .i64 t2, .int .i64 n1, .int .i64 n2, .int .i64 s1, .int .i64 s2, .func (.func wr) #[] #[], .func (.func rd) #[] #[]] 62)).alloc (.cells #[.int .i64 kd, .string (B keys), .slice va ps.length vc, .string (B text), .int .i64 n, .int .i64 l] 31)))
  have H0 := Lib.hid h0
  clear h0
  have C1 := fun w => Lib.hid (has_is k1 k2 ((B keys).size : Int) true h1 w)
  have C2 := fun w => Lib.hid (has_is p1 p2 (ps.length : Int) true h2 w)
  have C3 := fun w => Lib.hid (has_is t1 t2 ((B text).size : Int) true h3 w)
  have C4 := fun w => Lib.hid (has_is n1 n2 n true h4 w)
  have C5 := fun w => Lib.hid (has_is s1 s2 l true h5 w)
  have C6 := fun w => Lib.hid (letters_is keys true h6 w)
  have C7 := fun w => Lib.hid (increasing_is keys true h6 h7 w)
  have C8 := fun w => Lib.hid (letters_is text false h8 w)
  clear h1 h2 h3 h4 h5 h6 h7 h8
  go_enter Tryd.func44, Tryd.ntmps44
  go_wp2_with fail
  refine ((C1 _).out).mono ?_
  rintro e x1 ⟨rfl, hb⟩
  have HB1 := Lib.hid (HB.out.trans (hb.mono HB.out.size))
  clear HB hb C1
  have hc1 := (bcell HB1.out).1
  go_wp2_with fail
  refine ((C2 _).out).mono ?_
  rintro e x2 ⟨rfl, hb⟩
  have HB2 := Lib.hid (HB1.out.trans (hb.mono HB1.out.size))
  clear HB1 hb hc1 C2
  have hc2 := (bcell HB2.out).1
  go_wp2_with fail
  refine ((C3 _).out).mono ?_
  rintro e x3 ⟨rfl, hb⟩
  have HB3 := Lib.hid (HB2.out.trans (hb.mono HB2.out.size))
  clear HB2 hb hc2 C3
  have hc3 := (bcell HB3.out).1
  go_wp2_with fail
  refine ((C4 _).out).mono ?_
  rintro e x4 ⟨rfl, hb⟩
  have HB4 := Lib.hid (HB3.out.trans (hb.mono HB3.out.size))
  clear HB3 hb hc3 C4
  have hc4 := (bcell HB4.out).1
  go_wp2_with fail
  refine ((C5 _).out).mono ?_
  rintro e x5 ⟨rfl, hb⟩
  have HB5 := Lib.hid (HB4.out.trans (hb.mono HB4.out.size))
  clear HB4 hb hc4 C5
  have hc5 := (bcell HB5.out).1
  go_wp2_with fail
  refine ((C6 _).out).mono ?_
  rintro e x6 ⟨rfl, hb⟩
  have HB6 := Lib.hid (HB5.out.trans (hb.mono HB5.out.size))
  clear HB5 hb hc5 C6
  have hc6 := (bcell HB6.out).1
  go_wp2_with fail
  refine ((C7 _).out).mono ?_
  rintro e x7 ⟨rfl, hb⟩
  have HB7 := Lib.hid (HB6.out.trans (hb.mono HB6.out.size))
  clear HB6 hb hc6 C7
  have hc7 := (bcell HB7.out).1
  go_wp2_with fail
  refine ((C8 _).out).mono ?_
  rintro e x8 ⟨rfl, hb⟩
  have HB8 := Lib.hid (HB7.out.trans (hb.mono HB7.out.size))
  clear HB7 hb hc7 C8
  have hc8 := (bcell HB8.out).1
  go_wp2_with fail
  go_ret
  exact ⟨rfl, H0.out.trans (HB8.out.mono H0.out.size)⟩

set_option maxHeartbeats 4000000 in
set_option maxRecDepth 100000 in
theorem fits_case8 (nm : ByteArray) (k1 k2 p1 p2 t1 t2 n1 n2 s1 s2 : Int) (wr rd : Nat) (kd : Int) (keys : List UInt8) (va : Option Addr) (vc : Nat) (ps : List (Int × Int)) (text : List UInt8) (n l : Int) (w : World) (h1 : hasB k1 k2 ((B keys).size : Int) = true) (h2 : hasB p1 p2 (ps.length : Int) = true) (h3 : hasB t1 t2 ((B text).size : Int) = true) (h4 : hasB n1 n2 n = true) (h5 : hasB s1 s2 l = true) (h6 : lettersB keys = true) (h7 : incB keys = true) (h8 : lettersB text = true) (h9 : insideB ps = false) (hP : PtsAt w w.heap.size (.slice va ps.length vc) ps) (hl : ps.length ≤ maxLen) :
    Calls Tryd.prog 44 #[.agg #[.string nm, .int .i64 k1, .int .i64 k2, .int .i64 p1, .int .i64 p2, .int .i64 t1, .int .i64 t2, .int .i64 n1, .int .i64 n2, .int .i64 s1, .int .i64 s2, .func (.func wr) #[] #[], .func (.func rd) #[] #[]], .agg #[.int .i64 kd, .string (B keys), .slice va ps.length vc, .string (B text), .int .i64 n, .int .i64 l]] w fun e w' => e = .returned (.bool false) ∧ Below w.heap.size w w' := by
  have h0 : Below w.heap.size w ((w.alloc (.cells #[.string nm, .int .i64 k1, .int .i64 k2, .int .i64 p1, .int .i64 p2, .int .i64 t1, .int .i64 t2, .int .i64 n1, .int .i64 n2, .int .i64 s1, .int .i64 s2, .func (.func wr) #[] #[], .func (.func rd) #[] #[]] 62)).alloc (.cells #[.int .i64 kd, .string (B keys), .slice va ps.length vc, .string (B text), .int .i64 n, .int .i64 l] 31)) := ((Below.refl _ _).alloc (Nat.le_refl _) _).alloc (by simp) _
  have HB := Lib.hid (Below.refl ((w.alloc (.cells #[.string nm, .int .i64 k1, .int .i64 k2, .int .i64 p1, .int .i64 p2, .int .i64 t1, .int .i64 t2, .int .i64 n1, .int .i64 n2, .int .i64 s1, .int .i64 s2, .func (.func wr) #[] #[], .func (.func rd) #[] #[]] 62)).alloc (.cells #[.int .i64 kd, .string (B keys), .slice va ps.length vc, .string (B text), .int .i64 n, .int .i64 l] 31)).heap.size ((w.alloc (.cells #[.string nm, .int .i64 k1, .int .i64 k2, .int .i64 p1, .int .i64 p2, .int .i64 t1, .int .i64 t2, .int .i64 n1, .int .i64 n2, .int .i64 s1, .int .i64 s2, .func (.func wr) #[] #[], .func (.func rd) #[] #[]] 62)).alloc (.cells #[.int .i64 kd, .string (B keys), .slice va ps.length vc, .string (B text), .int .i64 n, .int .i64 l] 31)))
  have H0 := Lib.hid h0
  clear h0
  have C1 := fun w => Lib.hid (has_is k1 k2 ((B keys).size : Int) true h1 w)
  have C2 := fun w => Lib.hid (has_is p1 p2 (ps.length : Int) true h2 w)
  have C3 := fun w => Lib.hid (has_is t1 t2 ((B text).size : Int) true h3 w)
  have C4 := fun w => Lib.hid (has_is n1 n2 n true h4 w)
  have C5 := fun w => Lib.hid (has_is s1 s2 l true h5 w)
  have C6 := fun w => Lib.hid (letters_is keys true h6 w)
  have C7 := fun w => Lib.hid (increasing_is keys true h6 h7 w)
  have C8 := fun w => Lib.hid (letters_is text true h8 w)
  have C9 := fun w hp => Lib.hid (inside_is (.slice va ps.length vc) ps false h9 w hp hl)
  have HP := Lib.hid hP
  clear h1 h2 h3 h4 h5 h6 h7 h8 h9 hP hl
  go_enter Tryd.func44, Tryd.ntmps44
  go_wp2_with fail
  refine ((C1 _).out).mono ?_
  rintro e x1 ⟨rfl, hb⟩
  have HB1 := Lib.hid (HB.out.trans (hb.mono HB.out.size))
  clear HB hb C1
  have hc1 := (bcell HB1.out).1
  go_wp2_with fail
  refine ((C2 _).out).mono ?_
  rintro e x2 ⟨rfl, hb⟩
  have HB2 := Lib.hid (HB1.out.trans (hb.mono HB1.out.size))
  clear HB1 hb hc1 C2
  have hc2 := (bcell HB2.out).1
  go_wp2_with fail
  refine ((C3 _).out).mono ?_
  rintro e x3 ⟨rfl, hb⟩
  have HB3 := Lib.hid (HB2.out.trans (hb.mono HB2.out.size))
  clear HB2 hb hc2 C3
  have hc3 := (bcell HB3.out).1
  go_wp2_with fail
  refine ((C4 _).out).mono ?_
  rintro e x4 ⟨rfl, hb⟩
  have HB4 := Lib.hid (HB3.out.trans (hb.mono HB3.out.size))
  clear HB3 hb hc3 C4
  have hc4 := (bcell HB4.out).1
  go_wp2_with fail
  refine ((C5 _).out).mono ?_
  rintro e x5 ⟨rfl, hb⟩
  have HB5 := Lib.hid (HB4.out.trans (hb.mono HB4.out.size))
  clear HB4 hb hc4 C5
  have hc5 := (bcell HB5.out).1
  go_wp2_with fail
  refine ((C6 _).out).mono ?_
  rintro e x6 ⟨rfl, hb⟩
  have HB6 := Lib.hid (HB5.out.trans (hb.mono HB5.out.size))
  clear HB5 hb hc5 C6
  have hc6 := (bcell HB6.out).1
  go_wp2_with fail
  refine ((C7 _).out).mono ?_
  rintro e x7 ⟨rfl, hb⟩
  have HB7 := Lib.hid (HB6.out.trans (hb.mono HB6.out.size))
  clear HB6 hb hc6 C7
  have hc7 := (bcell HB7.out).1
  go_wp2_with fail
  refine ((C8 _).out).mono ?_
  rintro e x8 ⟨rfl, hb⟩
  have HB8 := Lib.hid (HB7.out.trans (hb.mono HB7.out.size))
  clear HB7 hb hc7 C8
  have hc8 := (bcell HB8.out).1
  go_wp2_with fail
  refine ((C9 _ (HP.out.into H0.out HB8.out)).out).mono ?_
  rintro e x9 ⟨rfl, hb⟩
  have HB9 := Lib.hid (HB8.out.trans (hb.mono HB8.out.size))
  clear HB8 hb hc8 C9
  have hc9 := (bcell HB9.out).1
  go_wp2_with fail
  go_ret
  exact ⟨rfl, H0.out.trans (HB9.out.mono H0.out.size)⟩

set_option maxHeartbeats 4000000 in
set_option maxRecDepth 100000 in
theorem fits_case9 (nm : ByteArray) (k1 k2 p1 p2 t1 t2 n1 n2 s1 s2 : Int) (wr rd : Nat) (kd : Int) (keys : List UInt8) (va : Option Addr) (vc : Nat) (ps : List (Int × Int)) (text : List UInt8) (n l : Int) (w : World) (h1 : hasB k1 k2 ((B keys).size : Int) = true) (h2 : hasB p1 p2 (ps.length : Int) = true) (h3 : hasB t1 t2 ((B text).size : Int) = true) (h4 : hasB n1 n2 n = true) (h5 : hasB s1 s2 l = true) (h6 : lettersB keys = true) (h7 : incB keys = true) (h8 : lettersB text = true) (h9 : insideB ps = true) (hP : PtsAt w w.heap.size (.slice va ps.length vc) ps) (hl : ps.length ≤ maxLen) :
    Calls Tryd.prog 44 #[.agg #[.string nm, .int .i64 k1, .int .i64 k2, .int .i64 p1, .int .i64 p2, .int .i64 t1, .int .i64 t2, .int .i64 n1, .int .i64 n2, .int .i64 s1, .int .i64 s2, .func (.func wr) #[] #[], .func (.func rd) #[] #[]], .agg #[.int .i64 kd, .string (B keys), .slice va ps.length vc, .string (B text), .int .i64 n, .int .i64 l]] w fun e w' => e = .returned (.bool true) ∧ Below w.heap.size w w' := by
  have h0 : Below w.heap.size w ((w.alloc (.cells #[.string nm, .int .i64 k1, .int .i64 k2, .int .i64 p1, .int .i64 p2, .int .i64 t1, .int .i64 t2, .int .i64 n1, .int .i64 n2, .int .i64 s1, .int .i64 s2, .func (.func wr) #[] #[], .func (.func rd) #[] #[]] 62)).alloc (.cells #[.int .i64 kd, .string (B keys), .slice va ps.length vc, .string (B text), .int .i64 n, .int .i64 l] 31)) := ((Below.refl _ _).alloc (Nat.le_refl _) _).alloc (by simp) _
  have HB := Lib.hid (Below.refl ((w.alloc (.cells #[.string nm, .int .i64 k1, .int .i64 k2, .int .i64 p1, .int .i64 p2, .int .i64 t1, .int .i64 t2, .int .i64 n1, .int .i64 n2, .int .i64 s1, .int .i64 s2, .func (.func wr) #[] #[], .func (.func rd) #[] #[]] 62)).alloc (.cells #[.int .i64 kd, .string (B keys), .slice va ps.length vc, .string (B text), .int .i64 n, .int .i64 l] 31)).heap.size ((w.alloc (.cells #[.string nm, .int .i64 k1, .int .i64 k2, .int .i64 p1, .int .i64 p2, .int .i64 t1, .int .i64 t2, .int .i64 n1, .int .i64 n2, .int .i64 s1, .int .i64 s2, .func (.func wr) #[] #[], .func (.func rd) #[] #[]] 62)).alloc (.cells #[.int .i64 kd, .string (B keys), .slice va ps.length vc, .string (B text), .int .i64 n, .int .i64 l] 31)))
  have H0 := Lib.hid h0
  clear h0
  have C1 := fun w => Lib.hid (has_is k1 k2 ((B keys).size : Int) true h1 w)
  have C2 := fun w => Lib.hid (has_is p1 p2 (ps.length : Int) true h2 w)
  have C3 := fun w => Lib.hid (has_is t1 t2 ((B text).size : Int) true h3 w)
  have C4 := fun w => Lib.hid (has_is n1 n2 n true h4 w)
  have C5 := fun w => Lib.hid (has_is s1 s2 l true h5 w)
  have C6 := fun w => Lib.hid (letters_is keys true h6 w)
  have C7 := fun w => Lib.hid (increasing_is keys true h6 h7 w)
  have C8 := fun w => Lib.hid (letters_is text true h8 w)
  have C9 := fun w hp => Lib.hid (inside_is (.slice va ps.length vc) ps true h9 w hp hl)
  have HP := Lib.hid hP
  clear h1 h2 h3 h4 h5 h6 h7 h8 h9 hP hl
  go_enter Tryd.func44, Tryd.ntmps44
  go_wp2_with fail
  refine ((C1 _).out).mono ?_
  rintro e x1 ⟨rfl, hb⟩
  have HB1 := Lib.hid (HB.out.trans (hb.mono HB.out.size))
  clear HB hb C1
  have hc1 := (bcell HB1.out).1
  go_wp2_with fail
  refine ((C2 _).out).mono ?_
  rintro e x2 ⟨rfl, hb⟩
  have HB2 := Lib.hid (HB1.out.trans (hb.mono HB1.out.size))
  clear HB1 hb hc1 C2
  have hc2 := (bcell HB2.out).1
  go_wp2_with fail
  refine ((C3 _).out).mono ?_
  rintro e x3 ⟨rfl, hb⟩
  have HB3 := Lib.hid (HB2.out.trans (hb.mono HB2.out.size))
  clear HB2 hb hc2 C3
  have hc3 := (bcell HB3.out).1
  go_wp2_with fail
  refine ((C4 _).out).mono ?_
  rintro e x4 ⟨rfl, hb⟩
  have HB4 := Lib.hid (HB3.out.trans (hb.mono HB3.out.size))
  clear HB3 hb hc3 C4
  have hc4 := (bcell HB4.out).1
  go_wp2_with fail
  refine ((C5 _).out).mono ?_
  rintro e x5 ⟨rfl, hb⟩
  have HB5 := Lib.hid (HB4.out.trans (hb.mono HB4.out.size))
  clear HB4 hb hc4 C5
  have hc5 := (bcell HB5.out).1
  go_wp2_with fail
  refine ((C6 _).out).mono ?_
  rintro e x6 ⟨rfl, hb⟩
  have HB6 := Lib.hid (HB5.out.trans (hb.mono HB5.out.size))
  clear HB5 hb hc5 C6
  have hc6 := (bcell HB6.out).1
  go_wp2_with fail
  refine ((C7 _).out).mono ?_
  rintro e x7 ⟨rfl, hb⟩
  have HB7 := Lib.hid (HB6.out.trans (hb.mono HB6.out.size))
  clear HB6 hb hc6 C7
  have hc7 := (bcell HB7.out).1
  go_wp2_with fail
  refine ((C8 _).out).mono ?_
  rintro e x8 ⟨rfl, hb⟩
  have HB8 := Lib.hid (HB7.out.trans (hb.mono HB7.out.size))
  clear HB7 hb hc7 C8
  have hc8 := (bcell HB8.out).1
  go_wp2_with fail
  refine ((C9 _ (HP.out.into H0.out HB8.out)).out).mono ?_
  rintro e x9 ⟨rfl, hb⟩
  have HB9 := Lib.hid (HB8.out.trans (hb.mono HB8.out.size))
  clear HB8 hb hc8 C9
  have hc9 := (bcell HB9.out).1
  go_wp2_with fail
  go_ret
  exact ⟨rfl, H0.out.trans (HB9.out.mono H0.out.size)⟩

end Go.Proofs.YtmioocmjlbjfpaaDoor

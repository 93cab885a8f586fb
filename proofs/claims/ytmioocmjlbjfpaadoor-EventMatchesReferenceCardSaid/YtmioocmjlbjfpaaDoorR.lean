/-
  The reference's Same.
-/
import Derived.Test.YtmioocmjlbjfpaaDoorO
namespace Go.Proofs.YtmioocmjlbjfpaaDoor
open Go.RowKit
open Pl

def sameB (a b : Ev) : Bool := (a.kind == b.kind) && (((B a.keys).toList == (B b.keys).toList) && (ptsEq a.p b.p && (((B a.text).toList == (B b.text).toList) && ((a.n == b.n) && (a.l == b.l)))))
theorem sameB_refl (a : Ev) : sameB a a = true := by simp [sameB, ptsEq]

set_option maxHeartbeats 1000000 in
set_option maxRecDepth 100000 in
theorem same_case0 (ka : Int) (ya : List UInt8) (aa : Option Addr) (ca : Nat) (pa : List (Int × Int)) (ta : List UInt8) (na la : Int) (kb : Int) (yb : List UInt8) (ab : Option Addr) (cb : Nat) (pb : List (Int × Int)) (tb : List UInt8) (nb lb : Int) (w : World)  (h1 : (ka == kb) = false) :
    Calls Tryd.prog 9 #[.agg #[.int .i64 ka, .string (B ya), .slice aa pa.length ca, .string (B ta), .int .i64 na, .int .i64 la], .agg #[.int .i64 kb, .string (B yb), .slice ab pb.length cb, .string (B tb), .int .i64 nb, .int .i64 lb]] w fun e w' => e = .returned (.bool false) ∧ Below w.heap.size w w' := by
  have h0 : Below w.heap.size w ((w.alloc (.cells #[.int .i64 ka, .string (B ya), .slice aa pa.length ca, .string (B ta), .int .i64 na, .int .i64 la] 31)).alloc (.cells #[.int .i64 kb, .string (B yb), .slice ab pb.length cb, .string (B tb), .int .i64 nb, .int .i64 lb] 31)) := ((Below.refl _ _).alloc (Nat.le_refl _) _).alloc (by simp) _
  have H0 := Lib.hid h0
  clear h0
  go_enter Tryd.func9, Tryd.ntmps9
  go_wp2_with fail
  go_ret
  exact ⟨rfl, H0.out⟩

set_option maxHeartbeats 1000000 in
set_option maxRecDepth 100000 in
theorem same_case1 (ka : Int) (ya : List UInt8) (aa : Option Addr) (ca : Nat) (pa : List (Int × Int)) (ta : List UInt8) (na la : Int) (kb : Int) (yb : List UInt8) (ab : Option Addr) (cb : Nat) (pb : List (Int × Int)) (tb : List UInt8) (nb lb : Int) (w : World)  (h1 : (ka == kb) = true) (h2 : ((B ya).toList == (B yb).toList) = false) :
    Calls Tryd.prog 9 #[.agg #[.int .i64 ka, .string (B ya), .slice aa pa.length ca, .string (B ta), .int .i64 na, .int .i64 la], .agg #[.int .i64 kb, .string (B yb), .slice ab pb.length cb, .string (B tb), .int .i64 nb, .int .i64 lb]] w fun e w' => e = .returned (.bool false) ∧ Below w.heap.size w w' := by
  have h0 : Below w.heap.size w ((w.alloc (.cells #[.int .i64 ka, .string (B ya), .slice aa pa.length ca, .string (B ta), .int .i64 na, .int .i64 la] 31)).alloc (.cells #[.int .i64 kb, .string (B yb), .slice ab pb.length cb, .string (B tb), .int .i64 nb, .int .i64 lb] 31)) := ((Below.refl _ _).alloc (Nat.le_refl _) _).alloc (by simp) _
  have H0 := Lib.hid h0
  clear h0
  go_enter Tryd.func9, Tryd.ntmps9
  go_wp2_with fail
  go_ret
  exact ⟨rfl, H0.out⟩

set_option maxHeartbeats 1000000 in
set_option maxRecDepth 100000 in
theorem same_case2 (ka : Int) (ya : List UInt8) (aa : Option Addr) (ca : Nat) (pa : List (Int × Int)) (ta : List UInt8) (na la : Int) (kb : Int) (yb : List UInt8) (ab : Option Addr) (cb : Nat) (pb : List (Int × Int)) (tb : List UInt8) (nb lb : Int) (w : World) (hP : PtsAt w w.heap.size (.slice aa pa.length ca) pa) (hQ : PtsAt w w.heap.size (.slice ab pb.length cb) pb) (hm : pa.length ≤ maxLen) (h1 : (ka == kb) = true) (h2 : ((B ya).toList == (B yb).toList) = true) (h3 : ptsEq pa pb = false) :
    Calls Tryd.prog 9 #[.agg #[.int .i64 ka, .string (B ya), .slice aa pa.length ca, .string (B ta), .int .i64 na, .int .i64 la], .agg #[.int .i64 kb, .string (B yb), .slice ab pb.length cb, .string (B tb), .int .i64 nb, .int .i64 lb]] w fun e w' => e = .returned (.bool false) ∧ Below w.heap.size w w' := by
  have h0 : Below w.heap.size w ((w.alloc (.cells #[.int .i64 ka, .string (B ya), .slice aa pa.length ca, .string (B ta), .int .i64 na, .int .i64 la] 31)).alloc (.cells #[.int .i64 kb, .string (B yb), .slice ab pb.length cb, .string (B tb), .int .i64 nb, .int .i64 lb] 31)) := ((Below.refl _ _).alloc (Nat.le_refl _) _).alloc (by simp) _
  have C := fun w hp hq => Lib.hid (Points_is (.slice aa pa.length ca) (.slice ab pb.length cb) pa pb false h3 w hp hq hm)
  have HP := Lib.hid ((hP.below h0).up h0.size)
  have HQ := Lib.hid ((hQ.below h0).up h0.size)
  clear h3 hP hQ hm
  have H0 := Lib.hid h0
  clear h0
  go_enter Tryd.func9, Tryd.ntmps9
  go_wp2_with fail
  refine ((C _ HP.out HQ.out).out).mono ?_
  rintro e x1 ⟨rfl, hb⟩
  obtain ⟨hc, hf⟩ := bcell hb
  have HB := Lib.hid (H0.out.trans (hb.mono H0.out.size))
  clear hb C HP HQ hf
  go_wp2_with fail
  go_ret
  exact ⟨rfl, HB.out⟩

set_option maxHeartbeats 1000000 in
set_option maxRecDepth 100000 in
theorem same_case3 (ka : Int) (ya : List UInt8) (aa : Option Addr) (ca : Nat) (pa : List (Int × Int)) (ta : List UInt8) (na la : Int) (kb : Int) (yb : List UInt8) (ab : Option Addr) (cb : Nat) (pb : List (Int × Int)) (tb : List UInt8) (nb lb : Int) (w : World) (hP : PtsAt w w.heap.size (.slice aa pa.length ca) pa) (hQ : PtsAt w w.heap.size (.slice ab pb.length cb) pb) (hm : pa.length ≤ maxLen) (h1 : (ka == kb) = true) (h2 : ((B ya).toList == (B yb).toList) = true) (h3 : ptsEq pa pb = true) (h4 : ((B ta).toList == (B tb).toList) = false) :
    Calls Tryd.prog 9 #[.agg #[.int .i64 ka, .string (B ya), .slice aa pa.length ca, .string (B ta), .int .i64 na, .int .i64 la], .agg #[.int .i64 kb, .string (B yb), .slice ab pb.length cb, .string (B tb), .int .i64 nb, .int .i64 lb]] w fun e w' => e = .returned (.bool false) ∧ Below w.heap.size w w' := by
  have h0 : Below w.heap.size w ((w.alloc (.cells #[.int .i64 ka, .string (B ya), .slice aa pa.length ca, .string (B ta), .int .i64 na, .int .i64 la] 31)).alloc (.cells #[.int .i64 kb, .string (B yb), .slice ab pb.length cb, .string (B tb), .int .i64 nb, .int .i64 lb] 31)) := ((Below.refl _ _).alloc (Nat.le_refl _) _).alloc (by simp) _
  have C := fun w hp hq => Lib.hid (Points_is (.slice aa pa.length ca) (.slice ab pb.length cb) pa pb true h3 w hp hq hm)
  have HP := Lib.hid ((hP.below h0).up h0.size)
  have HQ := Lib.hid ((hQ.below h0).up h0.size)
  clear h3 hP hQ hm
  have H0 := Lib.hid h0
  clear h0
  go_enter Tryd.func9, Tryd.ntmps9
  go_wp2_with fail
  refine ((C _ HP.out HQ.out).out).mono ?_
  rintro e x1 ⟨rfl, hb⟩
  obtain ⟨hc, hf⟩ := bcell hb
  have HB := Lib.hid (H0.out.trans (hb.mono H0.out.size))
  clear hb C HP HQ hf
  go_wp2_with fail
  go_ret
  exact ⟨rfl, HB.out⟩

set_option maxHeartbeats 1000000 in
set_option maxRecDepth 100000 in
theorem same_case4 (ka : Int) (ya : List UInt8) (aa : Option Addr) (ca : Nat) (pa : List (Int × Int)) (ta : List UInt8) (na la : Int) (kb : Int) (yb : List UInt8) (ab : Option Addr) (cb : Nat) (pb : List (Int × Int)) (tb : List UInt8) (nb lb : Int) (w : World) (hP : PtsAt w w.heap.size (.slice aa pa.length ca) pa) (hQ : PtsAt w w.heap.size (.slice ab pb.length cb) pb) (hm : pa.length ≤ maxLen) (h1 : (ka == kb) = true) (h2 : ((B ya).toList == (B yb).toList) = true) (h3 : ptsEq pa pb = true) (h4 : ((B ta).toList == (B tb).toList) = true) (h5 : (na == nb) = false) :
    Calls Tryd.prog 9 #[.agg #[.int .i64 ka, .string (B ya), .slice aa pa.length ca, .string (B ta), .int .i64 na, .int .i64 la], .agg #[.int .i64 kb, .string (B yb), .slice ab pb.length cb, .string (B tb), .int .i64 nb, .int .i64 lb]] w fun e w' => e = .returned (.bool false) ∧ Below w.heap.size w w' := by
  have h0 : Below w.heap.size w ((w.alloc (.cells #[.int .i64 ka, .string (B ya), .slice aa pa.length ca, .string (B ta), .int .i64 na, .int .i64 la] 31)).alloc (.cells #[.int .i64 kb, .string (B yb), .slice ab pb.length cb, .string (B tb), .int .i64 nb, .int .i64 lb] 31)) := ((Below.refl _ _).alloc (Nat.le_refl _) _).alloc (by simp) _
  have C := fun w hp hq => Lib.hid (Points_is (.slice aa pa.length ca) (.slice ab pb.length cb) pa pb true h3 w hp hq hm)
  have HP := Lib.hid ((hP.below h0).up h0.size)
  have HQ := Lib.hid ((hQ.below h0).up h0.size)
  clear h3 hP hQ hm
  have H0 := Lib.hid h0
  clear h0
  go_enter Tryd.func9, Tryd.ntmps9
  go_wp2_with fail
  refine ((C _ HP.out HQ.out).out).mono ?_
  rintro e x1 ⟨rfl, hb⟩
  obtain ⟨hc, hf⟩ := bcell hb
  have HB := Lib.hid (H0.out.trans (hb.mono H0.out.size))
  clear hb C HP HQ hf
  go_wp2_with fail
  go_ret
  exact ⟨rfl, HB.out⟩

set_option maxHeartbeats 1000000 in
set_option maxRecDepth 100000 in
theorem same_case5 (ka : Int) (ya : List UInt8) (aa : Option Addr) (ca : Nat) (pa : List (Int × Int)) (ta : List UInt8) (na la : Int) (kb : Int) (yb : List UInt8) (ab : Option Addr) (cb : Nat) (pb : List (Int × Int)) (tb : List UInt8) (nb lb : Int) (w : World) (hP : PtsAt w w.heap.size (.slice aa pa.length ca) pa) (hQ : PtsAt w w.heap.size (.slice ab pb.length cb) pb) (hm : pa.length ≤ maxLen) (h1 : (ka == kb) = true) (h2 : ((B ya).toList == (B yb).toList) = true) (h3 : ptsEq pa pb = true) (h4 : ((B ta).toList == (B tb).toList) = true) (h5 : (na == nb) = true) (h6 : (la == lb) = false) :
    Calls Tryd.prog 9 #[.agg #[.int .i64 ka, .string (B ya), .slice aa pa.length ca, .string (B ta), .int .i64 na, .int .i64 la], .agg #[.int .i64 kb, .string (B yb), .slice ab pb.length cb, .string (B tb), .int .i64 nb, .int .i64 lb]] w fun e w' => e = .returned (.bool false) ∧ Below w.heap.size w w' := by
  have h0 : Below w.heap.size w ((w.alloc (.cells #[.int .i64 ka, .string (B ya), .slice aa pa.length ca, .string (B ta), .int .i64 na, .int .i64 la] 31)).alloc (.cells #[.int .i64 kb, .string (B yb), .slice ab pb.length cb, .string (B tb), .int .i64 nb, .int .i64 lb] 31)) := ((Below.refl _ _).alloc (Nat.le_refl _) _).alloc (by simp) _
  have C := fun w hp hq => Lib.hid (Points_is (.slice aa pa.length ca) (.slice ab pb.length cb) pa pb true h3 w hp hq hm)
  have HP := Lib.hid ((hP.below h0).up h0.size)
  have HQ := Lib.hid ((hQ.below h0).up h0.size)
  clear h3 hP hQ hm
  have H0 := Lib.hid h0
  clear h0
  go_enter Tryd.func9, Tryd.ntmps9
  go_wp2_with fail
  refine ((C _ HP.out HQ.out).out).mono ?_
  rintro e x1 ⟨rfl, hb⟩
  obtain ⟨hc, hf⟩ := bcell hb
  have HB := Lib.hid (H0.out.trans (hb.mono H0.out.size))
  clear hb C HP HQ hf
  go_wp2_with fail
  go_ret
  exact ⟨rfl, HB.out⟩

set_option maxHeartbeats 1000000 in
set_option maxRecDepth 100000 in
theorem same_case6 (ka : Int) (ya : List UInt8) (aa : Option Addr) (ca : Nat) (pa : List (Int × Int)) (ta : List UInt8) (na la : Int) (kb : Int) (yb : List UInt8) (ab : Option Addr) (cb : Nat) (pb : List (Int × Int)) (tb : List UInt8) (nb lb : Int) (w : World) (hP : PtsAt w w.heap.size (.slice aa pa.length ca) pa) (hQ : PtsAt w w.heap.size (.slice ab pb.length cb) pb) (hm : pa.length ≤ maxLen) (h1 : (ka == kb) = true) (h2 : ((B ya).toList == (B yb).toList) = true) (h3 : ptsEq pa pb = true) (h4 : ((B ta).toList == (B tb).toList) = true) (h5 : (na == nb) = true) (h6 : (la == lb) = true) :
    Calls Tryd.prog 9 #[.agg #[.int .i64 ka, .string (B ya), .slice aa pa.length ca, .string (B ta), .int .i64 na, .int .i64 la], .agg #[.int .i64 kb, .string (B yb), .slice ab pb.length cb, .string (B tb), .int .i64 nb, .int .i64 lb]] w fun e w' => e = .returned (.bool true) ∧ Below w.heap.size w w' := by
  have h0 : Below w.heap.size w ((w.alloc (.cells #[.int .i64 ka, .string (B ya), .slice aa pa.length ca, .string (B ta), .int .i64 na, .int .i64 la] 31)).alloc (.cells #[.int .i64 kb, .string (B yb), .slice ab pb.length cb, .string (B tb), .int .i64 nb, .int .i64 lb] 31)) := ((Below.refl _ _).alloc (Nat.le_refl _) _).alloc (by simp) _
  have C := fun w hp hq => Lib.hid (Points_is (.slice aa pa.length ca) (.slice ab pb.length cb) pa pb true h3 w hp hq hm)
  have HP := Lib.hid ((hP.below h0).up h0.size)
  have HQ := Lib.hid ((hQ.below h0).up h0.size)
  clear h3 hP hQ hm
  have H0 := Lib.hid h0
  clear h0
  go_enter Tryd.func9, Tryd.ntmps9
  go_wp2_with fail
  refine ((C _ HP.out HQ.out).out).mono ?_
  rintro e x1 ⟨rfl, hb⟩
  obtain ⟨hc, hf⟩ := bcell hb
  have HB := Lib.hid (H0.out.trans (hb.mono H0.out.size))
  clear hb C HP HQ hf
  go_wp2_with fail
  go_ret
  exact ⟨rfl, HB.out⟩

theorem same_any (ka : Int) (ya : List UInt8) (aa : Option Addr) (ca : Nat) (pa : List (Int × Int)) (ta : List UInt8) (na la : Int) (kb : Int) (yb : List UInt8) (ab : Option Addr) (cb : Nat) (pb : List (Int × Int)) (tb : List UInt8) (nb lb : Int) (w : World) (hP : PtsAt w w.heap.size (.slice aa pa.length ca) pa) (hQ : PtsAt w w.heap.size (.slice ab pb.length cb) pb) (hm : pa.length ≤ maxLen) :
    Calls Tryd.prog 9 #[.agg #[.int .i64 ka, .string (B ya), .slice aa pa.length ca, .string (B ta), .int .i64 na, .int .i64 la], .agg #[.int .i64 kb, .string (B yb), .slice ab pb.length cb, .string (B tb), .int .i64 nb, .int .i64 lb]] w fun e w' => e = .returned (.bool (sameB ⟨ka, ya, pa, ta, na, la⟩ ⟨kb, yb, pb, tb, nb, lb⟩)) ∧ Below w.heap.size w w' := by
  unfold sameB
  dsimp only
  cases h1 : (ka == kb) with
  | false => exact same_case0 ka ya aa ca pa ta na la kb yb ab cb pb tb nb lb w h1
  | true =>
  cases h2 : ((B ya).toList == (B yb).toList) with
  | false => exact same_case1 ka ya aa ca pa ta na la kb yb ab cb pb tb nb lb w h1 h2
  | true =>
  cases h3 : ptsEq pa pb with
  | false => exact same_case2 ka ya aa ca pa ta na la kb yb ab cb pb tb nb lb w hP hQ hm h1 h2 h3
  | true =>
  cases h4 : ((B ta).toList == (B tb).toList) with
  | false => exact same_case3 ka ya aa ca pa ta na la kb yb ab cb pb tb nb lb w hP hQ hm h1 h2 h3 h4
  | true =>
  cases h5 : (na == nb) with
  | false => exact same_case4 ka ya aa ca pa ta na la kb yb ab cb pb tb nb lb w hP hQ hm h1 h2 h3 h4 h5
  | true =>
  cases h6 : (la == lb) with
  | false => exact same_case5 ka ya aa ca pa ta na la kb yb ab cb pb tb nb lb w hP hQ hm h1 h2 h3 h4 h5 h6
  | true =>
  exact same_case6 ka ya aa ca pa ta na la kb yb ab cb pb tb nb lb w hP hQ hm h1 h2 h3 h4 h5 h6

end Go.Proofs.YtmioocmjlbjfpaaDoor

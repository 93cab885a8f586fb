/-
  The laws' examples.
-/
import Derived.Test.YtadaijepalhohaaAU
namespace Go.Proofs.Ytadaijepalhohaa
open Go.RowKit
open Pl

def exS : Sl := ⟨1, 2, 2, 3, [⟨97, 101, 1⟩]⟩
def exO : Sl := ⟨1, 2, 2, 3, [⟨97, 101, 1⟩, ⟨101, 97, 2⟩]⟩
theorem exBd : Bd exS := ⟨⟨by decide, by decide, by decide, by decide, by decide⟩, by decide, by decide, by decide, by decide⟩
theorem d1 : D exS [97, 98] [98, 97] = 1 := by simp [D_cons, D_nil, D_end, swB, putC, firstC, Al.has, exS] <;> rfl
theorem d2 : D exS [97, 98] [101, 98] = 1 := by simp [D_cons, D_nil, D_end, swB, putC, firstC, Al.has, exS] <;> rfl
theorem d3 : D exS [97, 98] [99, 98] = 3 := by simp [D_cons, D_nil, D_end, swB, putC, firstC, Al.has, exS] <;> rfl
theorem d4 : D exS [97, 98] [97] = 2 := by simp [D_cons, D_nil, D_end, swB, putC, firstC, Al.has, exS] <;> rfl
theorem d5 : D exS [97, 98] [97, 98, 99] = 2 := by simp [D_cons, D_nil, D_end, swB, putC, firstC, Al.has, exS] <;> rfl
theorem d6 : D exS [] [] = 0 := by simp [D_nil]
theorem d7 : D exS [97, 98, 99] [97, 98] = 2 := by simp [D_cons, D_nil, D_end, swB, putC, firstC, Al.has, exS] <;> rfl
theorem d8 : D exS [97, 98] [97, 98] = 0 := by simp [D_cons, D_nil, D_end, swB, putC, firstC, Al.has, exS] <;> rfl
theorem d9 : D exS [98, 97] [97, 98] = 1 := by simp [D_cons, D_nil, D_end, swB, putC, firstC, Al.has, exS] <;> rfl
theorem d10 : D exS [122, 122] [97, 98] = 6 := by simp [D_cons, D_nil, D_end, swB, putC, firstC, Al.has, exS] <;> rfl
theorem d11 : D exS [97] [97] = 0 := D_self exBd.pos _
theorem near1 {R : List Fd} (h : SortOf (nearL exS [97, 98] 2 [[97, 98, 99], [97, 98], [98, 97], [122, 122]] 4) R) : R = [⟨1, 0⟩, ⟨2, 1⟩, ⟨0, 2⟩] := by
  have e : nearL exS [97, 98] 2 [[97, 98, 99], [97, 98], [98, 97], [122, 122]] 4 = [⟨0, 2⟩, ⟨1, 0⟩, ⟨2, 1⟩] := by
    simp [nearL, List.zipIdx_cons, d7, d8, d9, d10]
  rw [e] at h
  refine sorted_eq h.2.2 ?_ fun x => ?_
  · simp [ltF]
  · rw [h.2.1 x]
    simp only [List.mem_cons, List.not_mem_nil, or_false]
    constructor
    · rintro (h | h | h) <;> simp [h]
    · rintro (h | h | h) <;> simp [h]
theorem near2 {R : List Fd} (h : SortOf (nearL exS [97] (-1) [[97]] 1) R) : R = [] := by
  have e : nearL exS [97] (-1) [[97]] 1 = [] := by
    simp [nearL, List.zipIdx_cons, d11]
  rw [e] at h
  exact List.length_eq_zero_iff.1 h.1
theorem slCells {W : World} {b : Nat} {t : TypeId} {c0 c1 c2 c3 c4 : Value} (h : Blk W b t [c0, c1, c2, c3, c4]) : W.cell? ⟨b, 0, none⟩ = some c0 ∧ W.cell? ⟨b, 1, none⟩ = some c1 ∧ W.cell? ⟨b, 2, none⟩ = some c2 ∧ W.cell? ⟨b, 3, none⟩ = some c3 ∧ W.cell? ⟨b, 4, none⟩ = some c4 := ⟨h.cell 0, h.cell 1, h.cell 2, h.cell 3, h.cell 4⟩
theorem v1 : validS exS = true := by decide
theorem v2 : validS exO = false := by decide
theorem v3 : validS ⟨0, 0, 0, 0, []⟩ = false := by decide
set_option maxHeartbeats 2000000 in
set_option maxRecDepth 100000 in
theorem San_any (w : World) : Calls Try.prog 11 #[] w fun e w' => e = .returned (.bool true) ∧ Below w.heap.size w w' := by
  go_enter Try.func11, Try.ntmps11
  have HB0 := Lib.hid (show Below w.heap.size w ((((w.alloc (.cells #[.int .u8 97, .int .u8 101, .int .i64 1] 46)).alloc (.cells #[.int .i64 1, .int .i64 2, .int .i64 2, .int .i64 3, .slice (some ⟨w.heap.size, 0, none⟩) 1 1] 32)).alloc (.cells #[.int .i64 1, .int .i64 2, .int .i64 2, .int .i64 3, .slice (some ⟨w.heap.size + 1 + 1 + 1, 0, none⟩) 2 2] 32)).alloc (.cells #[.int .u8 97, .int .u8 101, .int .i64 1, .int .u8 101, .int .u8 97, .int .i64 2] 46)) from
    ((((Below.refl _ _).alloc (Nat.le_refl _) _).alloc (by simp) _).alloc (by simp; omega) _).alloc (by simp; omega) _)
  have hA := Lib.hid ((((Blk.new w 46 [.int .u8 97, .int .u8 101, .int .i64 1]).alloc (.cells #[.int .i64 1, .int .i64 2, .int .i64 2, .int .i64 3, .slice (some ⟨w.heap.size, 0, none⟩) 1 1] 32)).alloc (.cells #[.int .i64 1, .int .i64 2, .int .i64 2, .int .i64 3, .slice (some ⟨w.heap.size + 1 + 1 + 1, 0, none⟩) 2 2] 32)).alloc (.cells #[.int .u8 97, .int .u8 101, .int .i64 1, .int .u8 101, .int .u8 97, .int .i64 2] 46))
  have hL := ((Blk.new (w.alloc (.cells #[.int .u8 97, .int .u8 101, .int .i64 1] 46)) 32 [.int .i64 1, .int .i64 2, .int .i64 2, .int .i64 3, .slice (some ⟨w.heap.size, 0, none⟩) 1 1]).alloc (.cells #[.int .i64 1, .int .i64 2, .int .i64 2, .int .i64 3, .slice (some ⟨w.heap.size + 1 + 1 + 1, 0, none⟩) 2 2] 32)).alloc (.cells #[.int .u8 97, .int .u8 101, .int .i64 1, .int .u8 101, .int .u8 97, .int .i64 2] 46)
  rw [World.size_alloc] at hL
  have hO := (Blk.new ((w.alloc (.cells #[.int .u8 97, .int .u8 101, .int .i64 1] 46)).alloc (.cells #[.int .i64 1, .int .i64 2, .int .i64 2, .int .i64 3, .slice (some ⟨w.heap.size, 0, none⟩) 1 1] 32)) 32 [.int .i64 1, .int .i64 2, .int .i64 2, .int .i64 3, .slice (some ⟨w.heap.size + 1 + 1 + 1, 0, none⟩) 2 2]).alloc (.cells #[.int .u8 97, .int .u8 101, .int .i64 1, .int .u8 101, .int .u8 97, .int .i64 2] 46)
  rw [World.size_alloc, World.size_alloc] at hO
  have hQ := Blk.new (((w.alloc (.cells #[.int .u8 97, .int .u8 101, .int .i64 1] 46)).alloc (.cells #[.int .i64 1, .int .i64 2, .int .i64 2, .int .i64 3, .slice (some ⟨w.heap.size, 0, none⟩) 1 1] 32)).alloc (.cells #[.int .i64 1, .int .i64 2, .int .i64 2, .int .i64 3, .slice (some ⟨w.heap.size + 1 + 1 + 1, 0, none⟩) 2 2] 32)) 46 [.int .u8 97, .int .u8 101, .int .i64 1, .int .u8 101, .int .u8 97, .int .i64 2]
  rw [World.size_alloc, World.size_alloc, World.size_alloc] at hQ
  have hL := Lib.hid hL
  have hO := Lib.hid hO
  have hQ := Lib.hid hQ
  go_upto_region 4 with fail
  generalize hgw : (((w.alloc _).alloc _).alloc _).alloc _ = x4 at *
  generalize hgg : w.heap.size = g0 at *
  have hgz := Lib.hid hgg
  clear hgw hgg
  have XA := fun (W : World) (h : Below x4.heap.size x4 W) => (show AlsAt W W.heap.size (.slice (some ⟨g0, 0, none⟩) exS.alike.length 1) exS.alike from ⟨_, _, rfl, fun _ => ⟨g0, 0, rfl, (hA.out.below h).lt, fun i hi => by
    obtain rfl : i = 0 := by
      have : exS.alike.length = 1 := rfl
      omega
    exact ⟨(hA.out.below h).cell 0, (hA.out.below h).cell 1, (hA.out.below h).cell 2⟩⟩⟩)
  have XO := fun (W : World) (h : Below x4.heap.size x4 W) => (show AlsAt W W.heap.size (.slice (some ⟨g0 + 1 + 1 + 1, 0, none⟩) exO.alike.length 2) exO.alike from ⟨_, _, rfl, fun _ => ⟨_, 0, rfl, (hQ.out.below h).lt, fun i hi => by
    have hl : exO.alike.length = 2 := rfl
    rcases (show i = 0 ∨ i = 1 by omega) with rfl | rfl
    · exact ⟨(hQ.out.below h).cell 0, (hQ.out.below h).cell 1, (hQ.out.below h).cell 2⟩
    · exact ⟨(hQ.out.below h).cell 3, (hQ.out.below h).cell 4, (hQ.out.below h).cell 5⟩⟩⟩)
  have CL := fun (W : World) (h : Below x4.heap.size x4 W) => (hL.out.below h)
  have CO := fun (W : World) (h : Below x4.heap.size x4 W) => (hO.out.below h)
  have q0 := hL.out.cell 0
  have q1 := hL.out.cell 1
  have q2 := hL.out.cell 2
  have q3 := hL.out.cell 3
  have q4 := hL.out.cell 4
  simp only [List.getElem?_cons_succ, List.getElem?_cons_zero] at q0 q1 q2 q3 q4
  have ws4 := Blk.new x4 9 [.string ⟨#[97, 98, 99]⟩, .string ⟨#[97, 98]⟩, .string ⟨#[98, 97]⟩, .string ⟨#[122, 122]⟩]
  have b5 := (Below.refl x4.heap.size x4).alloc (Nat.le_refl _) (.cells #[.string ⟨#[97, 98, 99]⟩, .string ⟨#[97, 98]⟩, .string ⟨#[98, 97]⟩, .string ⟨#[122, 122]⟩] 9)
  have CN : Calls Try.prog 18 #[.agg #[.int .i64 1, .int .i64 2, .int .i64 2, .int .i64 3, .slice (some ⟨g0, 0, none⟩) 1 1], .string ⟨#[97, 98]⟩, .slice (some ⟨x4.heap.size, 0, none⟩) 4 4, .int .i64 2] (x4.alloc (.cells #[.string ⟨#[97, 98, 99]⟩, .string ⟨#[97, 98]⟩, .string ⟨#[98, 97]⟩, .string ⟨#[122, 122]⟩] 9)) fun e w' => (∃ v R, e = .returned v ∧ SortOf (nearL exS [97, 98] 2 [[97, 98, 99], [97, 98], [98, 97], [122, 122]] 4) R ∧ FdsAt w' w'.heap.size v R) ∧ Below (x4.alloc (.cells #[.string ⟨#[97, 98, 99]⟩, .string ⟨#[97, 98]⟩, .string ⟨#[98, 97]⟩, .string ⟨#[122, 122]⟩] 9)).heap.size (x4.alloc (.cells #[.string ⟨#[97, 98, 99]⟩, .string ⟨#[97, 98]⟩, .string ⟨#[98, 97]⟩, .string ⟨#[122, 122]⟩] 9)) w' :=
    Nearest_any exS exBd (some ⟨g0, 0, none⟩) 1 [97, 98] [[97, 98, 99], [97, 98], [98, 97], [122, 122]] (some ⟨x4.heap.size, 0, none⟩) 4 2 _ (XA _ b5) (by decide) (by decide) ⟨_, _, rfl, fun _ => ⟨x4.heap.size, 0, rfl, ws4.lt, fun i hi => by
      have hi4 : i < 4 := hi
      rcases (show i = 0 ∨ i = 1 ∨ i = 2 ∨ i = 3 by omega) with rfl | rfl | rfl | rfl
      · exact ws4.cell 0
      · exact ws4.cell 1
      · exact ws4.cell 2
      · exact ws4.cell 3⟩⟩ (by decide) (by decide)
  have B5 := Lib.hid b5
  have CN := Lib.hid CN
  clear ws4 b5
  go_wp2_with fail
  refine CN.out.mono ?_
  rintro e w5 ⟨⟨nv, R, rfl, hR, hf⟩, hb⟩
  obtain rfl := near1 hR
  have BB5 := Lib.hid (B5.out.trans (hb.mono B5.out.size))
  have NF5 := Lib.hid hf
  obtain ⟨na, nc, rfl, -⟩ := hf
  clear hR hb CN B5 q0 q1 q2 q3 q4
  obtain ⟨q0, q1, q2, q3, q4⟩ := slCells (CL w5 BB5.out)
  have CD : Calls Try.prog 15 #[.agg #[.int .i64 1, .int .i64 2, .int .i64 2, .int .i64 3, .slice (some ⟨g0, 0, none⟩) 1 1], .string ⟨#[98, 97]⟩, .string ⟨#[97, 98]⟩] w5 fun e w' => e = .returned (.int .i64 1) ∧ Below w5.heap.size w5 w' := by
    have h := Distance_any exS exBd (some ⟨g0, 0, none⟩) 1 [98, 97] [97, 98] w5 (XA w5 BB5.out) (by decide) (by decide) (by decide)
    rw [d1] at h
    exact h
  have CD := Lib.hid CD
  go_wp2_with fail
  refine CD.out.mono ?_
  rintro e w6 ⟨rfl, hb⟩
  have BB6 := Lib.hid (BB5.out.trans (hb.mono BB5.out.size))
  have NF6 := Lib.hid (NF5.out.on hb)
  clear hb CD q0 q1 q2 q3 q4 NF5 BB5
  obtain ⟨q0, q1, q2, q3, q4⟩ := slCells (CL w6 BB6.out)
  have CD : Calls Try.prog 15 #[.agg #[.int .i64 1, .int .i64 2, .int .i64 2, .int .i64 3, .slice (some ⟨g0, 0, none⟩) 1 1], .string ⟨#[101, 98]⟩, .string ⟨#[97, 98]⟩] w6 fun e w' => e = .returned (.int .i64 1) ∧ Below w6.heap.size w6 w' := by
    have h := Distance_any exS exBd (some ⟨g0, 0, none⟩) 1 [101, 98] [97, 98] w6 (XA w6 BB6.out) (by decide) (by decide) (by decide)
    rw [d2] at h
    exact h
  have CD := Lib.hid CD
  go_wp2_with fail
  refine CD.out.mono ?_
  rintro e w7 ⟨rfl, hb⟩
  have BB7 := Lib.hid (BB6.out.trans (hb.mono BB6.out.size))
  have NF7 := Lib.hid (NF6.out.on hb)
  clear hb CD q0 q1 q2 q3 q4 NF6 BB6
  obtain ⟨q0, q1, q2, q3, q4⟩ := slCells (CL w7 BB7.out)
  have CD : Calls Try.prog 15 #[.agg #[.int .i64 1, .int .i64 2, .int .i64 2, .int .i64 3, .slice (some ⟨g0, 0, none⟩) 1 1], .string ⟨#[99, 98]⟩, .string ⟨#[97, 98]⟩] w7 fun e w' => e = .returned (.int .i64 3) ∧ Below w7.heap.size w7 w' := by
    have h := Distance_any exS exBd (some ⟨g0, 0, none⟩) 1 [99, 98] [97, 98] w7 (XA w7 BB7.out) (by decide) (by decide) (by decide)
    rw [d3] at h
    exact h
  have CD := Lib.hid CD
  go_wp2_with fail
  refine CD.out.mono ?_
  rintro e w8 ⟨rfl, hb⟩
  have BB8 := Lib.hid (BB7.out.trans (hb.mono BB7.out.size))
  have NF8 := Lib.hid (NF7.out.on hb)
  clear hb CD q0 q1 q2 q3 q4 NF7 BB7
  obtain ⟨q0, q1, q2, q3, q4⟩ := slCells (CL w8 BB8.out)
  have CD : Calls Try.prog 15 #[.agg #[.int .i64 1, .int .i64 2, .int .i64 2, .int .i64 3, .slice (some ⟨g0, 0, none⟩) 1 1], .string ⟨#[97]⟩, .string ⟨#[97, 98]⟩] w8 fun e w' => e = .returned (.int .i64 2) ∧ Below w8.heap.size w8 w' := by
    have h := Distance_any exS exBd (some ⟨g0, 0, none⟩) 1 [97] [97, 98] w8 (XA w8 BB8.out) (by decide) (by decide) (by decide)
    rw [d4] at h
    exact h
  have CD := Lib.hid CD
  go_wp2_with fail
  refine CD.out.mono ?_
  rintro e w9 ⟨rfl, hb⟩
  have BB9 := Lib.hid (BB8.out.trans (hb.mono BB8.out.size))
  have NF9 := Lib.hid (NF8.out.on hb)
  clear hb CD q0 q1 q2 q3 q4 NF8 BB8
  obtain ⟨q0, q1, q2, q3, q4⟩ := slCells (CL w9 BB9.out)
  have CD : Calls Try.prog 15 #[.agg #[.int .i64 1, .int .i64 2, .int .i64 2, .int .i64 3, .slice (some ⟨g0, 0, none⟩) 1 1], .string ⟨#[97, 98, 99]⟩, .string ⟨#[97, 98]⟩] w9 fun e w' => e = .returned (.int .i64 2) ∧ Below w9.heap.size w9 w' := by
    have h := Distance_any exS exBd (some ⟨g0, 0, none⟩) 1 [97, 98, 99] [97, 98] w9 (XA w9 BB9.out) (by decide) (by decide) (by decide)
    rw [d5] at h
    exact h
  have CD := Lib.hid CD
  go_wp2_with fail
  refine CD.out.mono ?_
  rintro e w10 ⟨rfl, hb⟩
  have BB10 := Lib.hid (BB9.out.trans (hb.mono BB9.out.size))
  have NF10 := Lib.hid (NF9.out.on hb)
  clear hb CD q0 q1 q2 q3 q4 NF9 BB9
  obtain ⟨q0, q1, q2, q3, q4⟩ := slCells (CL w10 BB10.out)
  have CD : Calls Try.prog 15 #[.agg #[.int .i64 1, .int .i64 2, .int .i64 2, .int .i64 3, .slice (some ⟨g0, 0, none⟩) 1 1], .string ⟨#[]⟩, .string ⟨#[]⟩] w10 fun e w' => e = .returned (.int .i64 0) ∧ Below w10.heap.size w10 w' := by
    have h := Distance_any exS exBd (some ⟨g0, 0, none⟩) 1 [] [] w10 (XA w10 BB10.out) (by decide) (by decide) (by decide)
    rw [d6] at h
    exact h
  have CD := Lib.hid CD
  go_wp2_with fail
  refine CD.out.mono ?_
  rintro e w11 ⟨rfl, hb⟩
  have BB11 := Lib.hid (BB10.out.trans (hb.mono BB10.out.size))
  have NF11 := Lib.hid (NF10.out.on hb)
  clear hb CD q0 q1 q2 q3 q4 NF10 BB10
  have ls := Blk.new w11 57 [.int .i64 1, .int .i64 0, .int .i64 2, .int .i64 1, .int .i64 0, .int .i64 2]
  have b12 := (Below.refl w11.heap.size w11).alloc (Nat.le_refl _) (.cells #[.int .i64 1, .int .i64 0, .int .i64 2, .int .i64 1, .int .i64 0, .int .i64 2] 57)
  have CS : Calls Try.prog 17 #[.slice na 3 nc, .slice (some ⟨w11.heap.size, 0, none⟩) 3 3] (w11.alloc (.cells #[.int .i64 1, .int .i64 0, .int .i64 2, .int .i64 1, .int .i64 0, .int .i64 2] 57)) fun e w' => e = .returned (.bool true) ∧ Below (w11.alloc (.cells #[.int .i64 1, .int .i64 0, .int .i64 2, .int .i64 1, .int .i64 0, .int .i64 2] 57)).heap.size (w11.alloc (.cells #[.int .i64 1, .int .i64 0, .int .i64 2, .int .i64 1, .int .i64 0, .int .i64 2] 57)) w' :=
    Same_any [⟨1, 0⟩, ⟨2, 1⟩, ⟨0, 2⟩] [⟨1, 0⟩, ⟨2, 1⟩, ⟨0, 2⟩] na (some ⟨w11.heap.size, 0, none⟩) nc 3 _ (NF11.out.on b12) ⟨_, _, rfl, fun _ => ⟨w11.heap.size, 0, rfl, ls.lt, fun i hi => by
      have hi3 : i < 3 := hi
      rcases (show i = 0 ∨ i = 1 ∨ i = 2 by omega) with rfl | rfl | rfl
      · exact ⟨ls.cell 0, ls.cell 1⟩
      · exact ⟨ls.cell 2, ls.cell 3⟩
      · exact ⟨ls.cell 4, ls.cell 5⟩⟩⟩ (by decide)
  have B12 := Lib.hid (BB11.out.trans (b12.mono BB11.out.size))
  have CS := Lib.hid CS
  clear ls b12
  go_wp2_with fail
  refine CS.out.mono ?_
  rintro e w12 ⟨rfl, hb⟩
  have BB12 := Lib.hid (B12.out.trans (hb.mono B12.out.size))
  clear hb CS B12 NF11 BB11
  obtain ⟨q0, q1, q2, q3, q4⟩ := slCells (CL w12 BB12.out)
  have CV : Calls Try.prog 20 #[.agg #[.int .i64 1, .int .i64 2, .int .i64 2, .int .i64 3, .slice (some ⟨g0, 0, none⟩) 1 1]] w12 fun e w' => e = .returned (.bool true) ∧ Below w12.heap.size w12 w' := by
    have h := Valid_any exS (some ⟨g0, 0, none⟩) 1 w12 (XA w12 BB12.out) (by decide) (by decide)
    rw [v1] at h
    exact h
  have CV := Lib.hid CV
  go_wp2_with fail
  refine CV.out.mono ?_
  rintro e w13 ⟨rfl, hb⟩
  have BB13 := Lib.hid (BB12.out.trans (hb.mono BB12.out.size))
  clear hb CV q0 q1 q2 q3 q4 BB12
  obtain ⟨q0, q1, q2, q3, q4⟩ := slCells (CO w13 BB13.out)
  have CV : Calls Try.prog 20 #[.agg #[.int .i64 1, .int .i64 2, .int .i64 2, .int .i64 3, .slice (some ⟨g0 + 1 + 1 + 1, 0, none⟩) 2 2]] w13 fun e w' => e = .returned (.bool false) ∧ Below w13.heap.size w13 w' := by
    have h := Valid_any exO (some ⟨g0 + 1 + 1 + 1, 0, none⟩) 2 w13 (XO w13 BB13.out) (by decide) (by decide)
    rw [v2] at h
    exact h
  have CV := Lib.hid CV
  go_wp2_with fail
  refine CV.out.mono ?_
  rintro e w14 ⟨rfl, hb⟩
  have BB14 := Lib.hid (BB13.out.trans (hb.mono BB13.out.size))
  clear hb CV q0 q1 q2 q3 q4 BB13
  have CV : Calls Try.prog 20 #[.agg #[.int .i64 0, .int .i64 0, .int .i64 0, .int .i64 0, .slice none 0 0]] w14 fun e w' => e = .returned (.bool false) ∧ Below w14.heap.size w14 w' := by
    have h := Valid_any ⟨0, 0, 0, 0, []⟩ none 0 w14 ⟨none, 0, rfl, fun h => absurd h (Nat.lt_irrefl _)⟩ (by decide) (by decide)
    rw [v3] at h
    exact h
  have CV := Lib.hid CV
  go_wp2_with fail
  refine CV.out.mono ?_
  rintro e w15 ⟨rfl, hb⟩
  have BB15 := Lib.hid (BB14.out.trans (hb.mono BB14.out.size))
  clear hb CV BB14
  obtain ⟨q0, q1, q2, q3, q4⟩ := slCells (CL w15 BB15.out)
  have ws1 := Blk.new w15 9 [.string ⟨#[97]⟩]
  have b16 := (Below.refl w15.heap.size w15).alloc (Nat.le_refl _) (.cells #[.string ⟨#[97]⟩] 9)
  have CN : Calls Try.prog 18 #[.agg #[.int .i64 1, .int .i64 2, .int .i64 2, .int .i64 3, .slice (some ⟨g0, 0, none⟩) 1 1], .string ⟨#[97]⟩, .slice (some ⟨w15.heap.size, 0, none⟩) 1 1, .int .i64 (-1)] (w15.alloc (.cells #[.string ⟨#[97]⟩] 9)) fun e w' => (∃ v R, e = .returned v ∧ SortOf (nearL exS [97] (-1) [[97]] 1) R ∧ FdsAt w' w'.heap.size v R) ∧ Below (w15.alloc (.cells #[.string ⟨#[97]⟩] 9)).heap.size (w15.alloc (.cells #[.string ⟨#[97]⟩] 9)) w' :=
    Nearest_any exS exBd (some ⟨g0, 0, none⟩) 1 [97] [[97]] (some ⟨w15.heap.size, 0, none⟩) 1 (-1) _ (XA _ (BB15.out.trans (b16.mono BB15.out.size))) (by decide) (by decide) ⟨_, _, rfl, fun _ => ⟨w15.heap.size, 0, rfl, ws1.lt, fun i hi => by
      obtain rfl : i = 0 := by
        have : i < 1 := hi
        omega
      exact ws1.cell 0⟩⟩ (by decide) (by decide)
  have B16 := Lib.hid (BB15.out.trans (b16.mono BB15.out.size))
  have CN := Lib.hid CN
  clear ws1 b16
  go_wp2_with fail
  refine CN.out.mono ?_
  rintro e w17 ⟨⟨nv, R, rfl, hR, hf⟩, hb⟩
  obtain rfl := near2 hR
  have BB17 := Lib.hid (HB0.out.trans ((B16.out.trans (hb.mono B16.out.size)).mono (hgz.out ▸ HB0.out.size)))
  obtain ⟨na2, nc2, rfl, -⟩ := hf
  clear hR hb CN B16 q0 q1 q2 q3 q4 BB15
  go_wp2_with fail
  go_ret
  exact ⟨rfl, by rw [hgz.out]; exact BB17.out⟩
end Go.Proofs.Ytadaijepalhohaa

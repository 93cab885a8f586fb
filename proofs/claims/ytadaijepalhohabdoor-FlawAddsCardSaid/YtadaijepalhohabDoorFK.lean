/-
  Which chain comes before: slices.Compare, cmp.Or, flaw.before.
-/
import Derived.Test.YtadaijepalhohabDoorFJ
namespace Go.Proofs.YtadaijepalhohabDoor
open Go.RowKit
open Pl

/-- Two lists compared, number by number. -/
def cmpL : List Int → List Int → Int
  | [], [] => 0
  | [], _ :: _ => -1
  | _ :: _, [] => 1
  | x :: r, y :: s => if Lib.compareInt x y = 0 then cmpL r s else Lib.compareInt x y
theorem cmpL_end (xs ys : List Int) (h : xs = []) : cmpL xs ys = if 0 < ys.length then -1 else 0 := by
  subst h
  cases ys <;> simp [cmpL]
theorem cmpL_one (xs ys : List Int) (h : xs ≠ []) (h2 : ys = []) : cmpL xs ys = 1 := by
  subst h2
  cases xs with
  | nil => exact absurd rfl h
  | cons _ _ => rfl
theorem cmpL_drop (xs ys : List Int) (i : Nat) (h1 : i < xs.length) (h2 : i < ys.length) : cmpL (xs.drop i) (ys.drop i) = if Lib.compareInt xs[i] ys[i] = 0 then cmpL (xs.drop (i + 1)) (ys.drop (i + 1)) else Lib.compareInt xs[i] ys[i] := by
  rw [List.drop_eq_getElem_cons h1, List.drop_eq_getElem_cons h2]; rfl

set_option maxHeartbeats 1000000 in
set_option maxRecDepth 100000 in
theorem SCompare_any (xs ys : List Int) (a b : Option Addr) (c d : Nat) (w : World) (hx : NumsAt w w.heap.size (.slice a xs.length c) xs) (hy : NumsAt w w.heap.size (.slice b ys.length d) ys) (hl : xs.length ≤ maxLen) :
    Calls Tryd.prog 51 #[.slice a xs.length c, .slice b ys.length d] w fun e w' => e = .returned (.int .i64 (cmpL xs ys)) ∧ Below w.heap.size w w' := by
  unfold maxLen at hl
  have HX := Lib.hid hx
  have HY := Lib.hid hy
  clear hx hy
  go_enter Tryd.func51, Tryd.ntmps51
  go_wp2_with fail
  go_loopw [11] (fun iv wr => ∃ i : Nat, iv = .int .i64 (i : Nat) ∧ i ≤ xs.length ∧ i ≤ ys.length ∧ cmpL xs ys = cmpL (xs.drop i) (ys.drop i) ∧ Below w.heap.size w wr) (fun iv _ => xs.length - (intOf iv).toNat)
  case atStart => exact ⟨0, rfl, Nat.zero_le _, Nat.zero_le _, rfl, Below.refl _ _⟩
  case round =>
    obtain ⟨i, rfl, hi, hiy, ht, hb⟩ := hrel
    have HB := Lib.hid hb
    have HT := Lib.hid ht
    clear hb ht
    have i0 : (0 : Int) ≤ (i : Int) := by omega
    by_cases h1 : (i : Int) < (xs.length : Int)
    · have hix : i < xs.length := by omega
      obtain ⟨a', c', hv, hP⟩ := HX.out.on HB.out
      obtain ⟨rfl, -⟩ : a = a' ∧ c = c' := by simpa using hv
      obtain ⟨b1, o1, ha, -, hc⟩ := hP (by omega)
      subst ha
      have p1 := hc i hix
      obtain ⟨x, hxe⟩ : ∃ x, x = xs[i] := ⟨_, rfl⟩
      rw [← hxe] at p1
      by_cases h2 : i < ys.length
      · obtain ⟨a'', c'', hv', hP'⟩ := HY.out.on HB.out
        obtain ⟨rfl, -⟩ : b = a'' ∧ d = c'' := by simpa using hv'
        obtain ⟨b2, o2, ha', -, hc'⟩ := hP' (by omega)
        subst ha'
        have p2 := hc' i h2
        obtain ⟨y, hye⟩ : ∃ y, y = ys[i] := ⟨_, rfl⟩
        rw [← hye] at p2
        have h2i : (i : Int) < (ys.length : Int) := by omega
        have HD := cmpL_drop xs ys i hix h2
        rw [← hxe, ← hye] at HD
        have h2n : ¬ (ys.length : Int) ≤ (i : Int) := by omega
        obtain ⟨z, hz⟩ : ∃ z, z = Lib.compareInt x y := ⟨_, rfl⟩
        have CC := fun W => Lib.hid (Tryd.cmp_Compare_int x y W)
        rw [← hz] at HD CC
        by_cases h3 : z = 0
        · rw [if_pos h3] at HD
          have HN := Lib.hid (HT.out.trans HD)
          have hz0 : (z != 0) = false := by simpa using h3
          clear hc hc' hP hP' hv hv' hxe hye HD hz h3
          go_wp2_with fail
          refine ((CC _).out).mono ?_
          rintro e W2 ⟨rfl, rfl⟩
          go_wp2_with fail
          go_roundw
          case rel => exact ⟨i + 1, by go_num, by omega, by omega, HN.out, HB.out⟩
          case measure => simp [intOf]; omega
        · rw [if_neg h3] at HD
          have HN := Lib.hid (HT.out.trans HD)
          have hz0 : (z != 0) = true := by simpa using h3
          clear hc hc' hP hP' hv hv' hxe hye HD hz h3
          go_wp2_with fail
          refine ((CC _).out).mono ?_
          rintro e W2 ⟨rfl, rfl⟩
          go_wp2_with fail
          go_ret
          exact ⟨by rw [HN.out]; rfl, HB.out⟩
      · have h2n : (ys.length : Int) ≤ (i : Int) := by omega
        have HN := Lib.hid (show cmpL xs ys = 1 by
          rw [HT.out]
          exact cmpL_one _ _ (by intro e; have := congrArg List.length e; simp at this; omega) (List.drop_eq_nil_of_le (by omega)))
        clear hc hP hv hxe
        go_wp2_with fail
        go_ret
        exact ⟨by rw [HN.out]; rfl, HB.out⟩
    · have HN := HT.out.trans (cmpL_end _ _ (List.drop_eq_nil_of_le (by omega)))
      by_cases h4 : (xs.length : Int) < (ys.length : Int)
      · rw [if_pos (by rw [List.length_drop]; omega)] at HN
        have HE := Lib.hid HN
        clear HN
        go_wp2_with fail
        go_ret
        exact ⟨by rw [HE.out]; rfl, HB.out⟩
      · rw [if_neg (by rw [List.length_drop]; omega)] at HN
        have HE := Lib.hid HN
        clear HN
        go_wp2_with fail
        go_ret
        exact ⟨by rw [HE.out]; rfl, HB.out⟩
set_option maxHeartbeats 1000000 in
set_option maxRecDepth 100000 in
theorem CmpOr_any (x y q : Int) (hq : Hid (q = if x = 0 then y else x)) (g : Nat) (w : World) (h0 : w.cell? ⟨g, 0, none⟩ = some (.int .i64 x)) (h1 : w.cell? ⟨g, 1, none⟩ = some (.int .i64 y)) :
    Calls Tryd.prog 49 #[.slice (some ⟨g, 0, none⟩) 2 2] w fun e w' => e = .returned (.int .i64 q) ∧ Below w.heap.size w w' := by
  have HE := Lib.hid (show ∀ v : Int, (if x = 0 then y else x) = v → (.returned (.int .i64 v) : Ending) = .returned (.int .i64 q) from fun v h => by rw [hq.out, h])
  clear hq
  have HC := Lib.hid (⟨h0, h1⟩ : _ ∧ _)
  clear h0 h1
  go_enter Tryd.func49, Tryd.ntmps49
  go_wp2_with fail
  go_loopw [8] (fun iv wr => ∃ i : Nat, iv = .int .i64 (i : Nat) ∧ i ≤ 2 ∧ (0 < i → x = 0) ∧ (1 < i → y = 0) ∧ wr = w) (fun iv _ => 2 - (intOf iv).toNat)
  case atStart => exact ⟨0, rfl, Nat.zero_le _, fun h => absurd h (by omega), fun h => absurd h (by omega), rfl⟩
  case round =>
    obtain ⟨i, rfl, hi, hx, hy, rfl⟩ := hrel
    obtain ⟨c0, c1⟩ := HC.out
    rcases (show i = 0 ∨ i = 1 ∨ i = 2 by omega) with rfl | rfl | rfl
    · clear hx hy
      by_cases h : x = 0
      · have hz : (x != 0) = false := by simpa using h
        have HH := Lib.hid h
        clear h
        go_wp2_with fail
        go_roundw
        case rel => exact ⟨1, by go_num, by omega, fun _ => HH.out, fun h => absurd h (by omega), by first | rfl | trivial⟩
        case measure => simp [intOf]
      · have hz : (x != 0) = true := by simpa using h
        have HF := Lib.hid (HE.out x (if_neg h))
        clear h
        go_wp2_with fail
        go_ret
        exact ⟨HF.out, Below.refl _ _⟩
    · have HX0 := Lib.hid (hx (by omega))
      clear hx hy
      by_cases h : y = 0
      · have hz : (y != 0) = false := by simpa using h
        have HH := Lib.hid h
        clear h
        go_wp2_with fail
        go_roundw
        case rel => exact ⟨2, by go_num, by omega, fun _ => HX0.out, fun _ => HH.out, by first | rfl | trivial⟩
        case measure => simp [intOf]
      · have hz : (y != 0) = true := by simpa using h
        have HF := Lib.hid (HE.out y (if_pos HX0.out))
        clear h
        go_wp2_with fail
        go_ret
        exact ⟨HF.out, Below.refl _ _⟩
    · have HF := Lib.hid (HE.out 0 (by rw [if_pos (hx (by omega)), hy (by omega)]))
      clear hx hy
      go_wp2_with fail
      go_ret
      exact ⟨HF.out, Below.refl _ _⟩
/-- Whether a chain comes before another one. -/
def befB (xs ys : List Int) : Bool := decide ((if Lib.compareInt (xs.length : Int) (ys.length : Int) = 0 then cmpL xs ys else Lib.compareInt (xs.length : Int) (ys.length : Int)) < 0)
set_option maxHeartbeats 1000000 in
set_option maxRecDepth 100000 in
theorem Before_any (xs ys : List Int) (a b : Option Addr) (c d : Nat) (w : World) (hx : NumsAt w w.heap.size (.slice a xs.length c) xs) (hy : NumsAt w w.heap.size (.slice b ys.length d) ys) (hl : xs.length ≤ maxLen) :
    Calls Tryd.prog 40 #[.slice a xs.length c, .slice b ys.length d] w fun e w' => e = .returned (.bool (befB xs ys)) ∧ Below w.heap.size w w' := by
  have CL := fun W => Lib.hid (Tryd.cmp_Compare_int (xs.length : Int) (ys.length : Int) W)
  have CS := Lib.hid (SCompare_any xs ys a b c d w hx hy hl)
  have HE := Lib.hid (show befB xs ys = decide ((if Lib.compareInt (xs.length : Int) (ys.length : Int) = 0 then cmpL xs ys else Lib.compareInt (xs.length : Int) (ys.length : Int)) < 0) from rfl)
  clear hx hy
  go_enter Tryd.func40, Tryd.ntmps40
  go_wp2_with fail
  refine ((CL _).out).mono ?_
  rintro e w1 ⟨rfl, rfl⟩
  go_wp2_with fail
  refine (CS.out).mono ?_
  rintro e w2 ⟨rfl, hb⟩
  obtain ⟨z, hz⟩ : ∃ z, z = Lib.compareInt (xs.length : Int) (ys.length : Int) := ⟨_, rfl⟩
  obtain ⟨u, hu⟩ : ∃ u, u = cmpL xs ys := ⟨_, rfl⟩
  rw [← hz, ← hu] at HE
  rw [← hz, ← hu]
  have HBL := Lib.hid (hb.alloc hb.size (.cells #[.int .i64 z, .int .i64 u] 3))
  have hh := heap_alloc_new w2 (.cells #[.int .i64 z, .int .i64 u] 3)
  have k0 : (w2.alloc (.cells #[.int .i64 z, .int .i64 u] 3)).cell? ⟨w2.heap.size, 0, none⟩ = some (.int .i64 z) := by simp only [World.cell?, hh]; rfl
  have k1 : (w2.alloc (.cells #[.int .i64 z, .int .i64 u] 3)).cell? ⟨w2.heap.size, 1, none⟩ = some (.int .i64 u) := by simp only [World.cell?, hh]; rfl
  obtain ⟨q, hq⟩ : ∃ q, q = if z = 0 then u else z := ⟨_, rfl⟩
  rw [← hq] at HE
  have CO := Lib.hid (CmpOr_any z u q (Lib.hid hq) w2.heap.size _ k0 k1)
  clear hb CL CS hz hu k0 k1 hq hh
  go_wp2_with fail
  refine (CO.out).mono ?_
  rintro e w3 ⟨rfl, hb⟩
  have HB3 := Lib.hid (HBL.out.trans (hb.mono HBL.out.size))
  clear hb HBL CO
  go_wp2_with fail
  go_ret
  exact ⟨by rw [HE.out]; rfl, HB3.out⟩
end Go.Proofs.YtadaijepalhohabDoor

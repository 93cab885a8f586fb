/-
  The law's own examples answer true.
-/
import Derived.Test.YtnbiedijofdjhaaDoorSW
namespace Go.Proofs.YtnbiedijofdjhaaDoor
open Go.RowKit
open Pl

abbrev tx26 : List UInt8 := [115, 99, 104, 101, 109, 101, 32, 50, 32, 51, 10, 114, 117, 108, 101, 32, 48, 32, 49, 32, 107, 32, 45, 32, 55, 10]
abbrev ka : Rl := ⟨0, 0, [107, 97], [75], 5⟩
abbrev kr : Rl := ⟨0, 1, [107], [], 7⟩
theorem f_one : ChkIs 1 1 [ka] 1 0 := Or.inr (Or.inr ⟨by decide, rfl, rfl, by decide⟩)
theorem f_two : ChkIs 2 3 [kr] 1 0 := Or.inr (Or.inr ⟨by decide, rfl, rfl, by decide⟩)
theorem f_kk : ChkIs 1 1 [ka, ka] 1 20 := Or.inr (Or.inl ⟨by decide, 1, by decide, rfl, rfl, by decide, by decide⟩)
theorem f_no : ChkIs 1 2 [] (-1) 20 := Or.inl ⟨by decide, rfl, rfl⟩
theorem f_to : ChkIs 1 1 [⟨0, 1, [], [], 0⟩] 0 20 := Or.inr (Or.inl ⟨by decide, 0, by decide, rfl, rfl, by decide, by decide⟩)
theorem f_nine : ChkIs 9 1 [] (-1) 20 := Or.inl ⟨by decide, rfl, rfl⟩
theorem r_tx : readW tx26 = some (2, 3, [kr], true) := by decide
theorem r_short : readW [115, 99, 104, 101, 109, 101, 32, 50, 32, 51, 10, 114, 117, 108, 101, 32, 48, 32, 49, 32, 107, 32, 45, 10] = some (2, 3, [], false) := by decide
theorem r_nil : readW [] = none := by decide
theorem r_nine : readW [115, 99, 104, 101, 109, 101, 32, 57, 32, 49, 10] = some (9, 1, [], true) := by decide
theorem dec1 (n : Nat) (h : n < 10) : Lib.decDigits n = [UInt8.ofNat (48 + n)] := by rw [Lib.decDigits, dif_pos h]
theorem p_two : printS 2 3 [kr] = tx26 := by
  simp only [printS, headS, ruleS, kr, List.flatMap_cons, List.flatMap_nil]
  rw [show (2 : Int).toNat = 2 from rfl, show (3 : Int).toNat = 3 from rfl, show (0 : Int).toNat = 0 from rfl, show (1 : Int).toNat = 1 from rfl, show (7 : Int).toNat = 7 from rfl, dec1 2 (by decide), dec1 3 (by decide), dec1 0 (by decide), dec1 1 (by decide), dec1 7 (by decide)]
  decide
theorem v_two : validB 2 3 [kr] = true := by decide

theorem rlsAt_one {W : World} {b c : Nat} {r : Rl} (h : RlBlock W b r) : RlsAt W W.heap.size (.slice (some ⟨b, 0, none⟩) [r].length c) [r] := by
  refine ⟨_, _, rfl, fun _ => ⟨b, 0, rfl, lt_of_heap h, fun i hi => ?_⟩⟩
  obtain rfl : i = 0 := by simp at hi; omega
  obtain ⟨h0, h1, h2, h3, h4⟩ := h.cells
  exact ⟨h0, h1, h2, h3, h4⟩
theorem rlsAt_nil (W : World) : RlsAt W W.heap.size (.slice none ([] : List Rl).length 0) [] := ⟨none, 0, rfl, fun h => absurd h (Nat.lt_irrefl 0)⟩
theorem rlsAt_two (w : World) (r : Rl) (cs : Array Value) (h : cs = #[.int .i64 r.src, .int .i64 r.dst, .string (B r.inp), .string (B r.out), .int .i64 r.cost, .int .i64 r.src, .int .i64 r.dst, .string (B r.inp), .string (B r.out), .int .i64 r.cost]) : RlsAt (w.alloc (.cells cs 29)) (w.alloc (.cells cs 29)).heap.size (.slice (some ⟨w.heap.size, 0, none⟩) [r, r].length 2) [r, r] := by
  subst h
  refine ⟨_, _, rfl, fun _ => ⟨w.heap.size, 0, rfl, by rw [World.size_alloc]; omega, fun i hi => ?_⟩⟩
  rw [cell_new, cell_new, cell_new, cell_new, cell_new]
  have : i = 0 ∨ i = 1 := by simp at hi; omega
  rcases this with rfl | rfl
  · exact ⟨rfl, rfl, rfl, rfl, rfl⟩
  · exact ⟨rfl, rfl, rfl, rfl, rfl⟩
theorem rl_new (w : World) (r : Rl) (cs : Array Value) (h : cs = #[.int .i64 r.src, .int .i64 r.dst, .string (B r.inp), .string (B r.out), .int .i64 r.cost]) : RlBlock (w.alloc (.cells cs 29)) w.heap.size r := by
  subst h; exact heap_alloc_new w _
theorem lay5 (w : World) : RlBlock (((((w.alloc (.cells #[.int .i64 0, .int .i64 0, .string ⟨#[107, 97]⟩, .string ⟨#[75]⟩, .int .i64 5] 29)).alloc (.cells #[.int .i64 0, .int .i64 0, .string ⟨#[107, 97]⟩, .string ⟨#[75]⟩, .int .i64 5] 29)).alloc (.cells #[.int .i64 1, .int .u8 1, .slice (some ⟨w.heap.size + 1, 0, none⟩) 1 1] 24)).alloc (.cells #[.int .i64 0, .int .i64 1, .string ⟨#[107]⟩, .string ⟨#[]⟩, .int .i64 7] 29)).alloc (.cells #[.int .i64 2, .int .u8 3, .slice (some ⟨w.heap.size + 1 + 1 + 1, 0, none⟩) 1 1] 24)) w.heap.size ka ∧ RlBlock (((((w.alloc (.cells #[.int .i64 0, .int .i64 0, .string ⟨#[107, 97]⟩, .string ⟨#[75]⟩, .int .i64 5] 29)).alloc (.cells #[.int .i64 0, .int .i64 0, .string ⟨#[107, 97]⟩, .string ⟨#[75]⟩, .int .i64 5] 29)).alloc (.cells #[.int .i64 1, .int .u8 1, .slice (some ⟨w.heap.size + 1, 0, none⟩) 1 1] 24)).alloc (.cells #[.int .i64 0, .int .i64 1, .string ⟨#[107]⟩, .string ⟨#[]⟩, .int .i64 7] 29)).alloc (.cells #[.int .i64 2, .int .u8 3, .slice (some ⟨w.heap.size + 1 + 1 + 1, 0, none⟩) 1 1] 24)) (w.heap.size + 1) ka ∧ SchBlock (((((w.alloc (.cells #[.int .i64 0, .int .i64 0, .string ⟨#[107, 97]⟩, .string ⟨#[75]⟩, .int .i64 5] 29)).alloc (.cells #[.int .i64 0, .int .i64 0, .string ⟨#[107, 97]⟩, .string ⟨#[75]⟩, .int .i64 5] 29)).alloc (.cells #[.int .i64 1, .int .u8 1, .slice (some ⟨w.heap.size + 1, 0, none⟩) 1 1] 24)).alloc (.cells #[.int .i64 0, .int .i64 1, .string ⟨#[107]⟩, .string ⟨#[]⟩, .int .i64 7] 29)).alloc (.cells #[.int .i64 2, .int .u8 3, .slice (some ⟨w.heap.size + 1 + 1 + 1, 0, none⟩) 1 1] 24)) (w.heap.size + 1 + 1) (.int .i64 1) (.int .u8 1) (.slice (some ⟨w.heap.size + 1, 0, none⟩) 1 1) ∧
    RlBlock (((((w.alloc (.cells #[.int .i64 0, .int .i64 0, .string ⟨#[107, 97]⟩, .string ⟨#[75]⟩, .int .i64 5] 29)).alloc (.cells #[.int .i64 0, .int .i64 0, .string ⟨#[107, 97]⟩, .string ⟨#[75]⟩, .int .i64 5] 29)).alloc (.cells #[.int .i64 1, .int .u8 1, .slice (some ⟨w.heap.size + 1, 0, none⟩) 1 1] 24)).alloc (.cells #[.int .i64 0, .int .i64 1, .string ⟨#[107]⟩, .string ⟨#[]⟩, .int .i64 7] 29)).alloc (.cells #[.int .i64 2, .int .u8 3, .slice (some ⟨w.heap.size + 1 + 1 + 1, 0, none⟩) 1 1] 24)) (w.heap.size + 1 + 1 + 1) kr ∧ SchBlock (((((w.alloc (.cells #[.int .i64 0, .int .i64 0, .string ⟨#[107, 97]⟩, .string ⟨#[75]⟩, .int .i64 5] 29)).alloc (.cells #[.int .i64 0, .int .i64 0, .string ⟨#[107, 97]⟩, .string ⟨#[75]⟩, .int .i64 5] 29)).alloc (.cells #[.int .i64 1, .int .u8 1, .slice (some ⟨w.heap.size + 1, 0, none⟩) 1 1] 24)).alloc (.cells #[.int .i64 0, .int .i64 1, .string ⟨#[107]⟩, .string ⟨#[]⟩, .int .i64 7] 29)).alloc (.cells #[.int .i64 2, .int .u8 3, .slice (some ⟨w.heap.size + 1 + 1 + 1, 0, none⟩) 1 1] 24)) (w.heap.size + 1 + 1 + 1 + 1) (.int .i64 2) (.int .u8 3) (.slice (some ⟨w.heap.size + 1 + 1 + 1, 0, none⟩) 1 1) ∧ Below w.heap.size w (((((w.alloc (.cells #[.int .i64 0, .int .i64 0, .string ⟨#[107, 97]⟩, .string ⟨#[75]⟩, .int .i64 5] 29)).alloc (.cells #[.int .i64 0, .int .i64 0, .string ⟨#[107, 97]⟩, .string ⟨#[75]⟩, .int .i64 5] 29)).alloc (.cells #[.int .i64 1, .int .u8 1, .slice (some ⟨w.heap.size + 1, 0, none⟩) 1 1] 24)).alloc (.cells #[.int .i64 0, .int .i64 1, .string ⟨#[107]⟩, .string ⟨#[]⟩, .int .i64 7] 29)).alloc (.cells #[.int .i64 2, .int .u8 3, .slice (some ⟨w.heap.size + 1 + 1 + 1, 0, none⟩) 1 1] 24)) := by
  have e1 : (w.alloc (.cells #[.int .i64 0, .int .i64 0, .string ⟨#[107, 97]⟩, .string ⟨#[75]⟩, .int .i64 5] 29)).heap.size = w.heap.size + 1 := World.size_alloc _ _
  have e2 : ((w.alloc (.cells #[.int .i64 0, .int .i64 0, .string ⟨#[107, 97]⟩, .string ⟨#[75]⟩, .int .i64 5] 29)).alloc (.cells #[.int .i64 0, .int .i64 0, .string ⟨#[107, 97]⟩, .string ⟨#[75]⟩, .int .i64 5] 29)).heap.size = w.heap.size + 1 + 1 := by rw [World.size_alloc, e1]
  have e3 : (((w.alloc (.cells #[.int .i64 0, .int .i64 0, .string ⟨#[107, 97]⟩, .string ⟨#[75]⟩, .int .i64 5] 29)).alloc (.cells #[.int .i64 0, .int .i64 0, .string ⟨#[107, 97]⟩, .string ⟨#[75]⟩, .int .i64 5] 29)).alloc (.cells #[.int .i64 1, .int .u8 1, .slice (some ⟨w.heap.size + 1, 0, none⟩) 1 1] 24)).heap.size = w.heap.size + 1 + 1 + 1 := by rw [World.size_alloc, e2]
  have e4 : ((((w.alloc (.cells #[.int .i64 0, .int .i64 0, .string ⟨#[107, 97]⟩, .string ⟨#[75]⟩, .int .i64 5] 29)).alloc (.cells #[.int .i64 0, .int .i64 0, .string ⟨#[107, 97]⟩, .string ⟨#[75]⟩, .int .i64 5] 29)).alloc (.cells #[.int .i64 1, .int .u8 1, .slice (some ⟨w.heap.size + 1, 0, none⟩) 1 1] 24)).alloc (.cells #[.int .i64 0, .int .i64 1, .string ⟨#[107]⟩, .string ⟨#[]⟩, .int .i64 7] 29)).heap.size = w.heap.size + 1 + 1 + 1 + 1 := by rw [World.size_alloc, e3]
  have k0 : RlBlock (w.alloc (.cells #[.int .i64 0, .int .i64 0, .string ⟨#[107, 97]⟩, .string ⟨#[75]⟩, .int .i64 5] 29)) w.heap.size ka := rl_new w ka _ rfl
  have k1 : RlBlock ((w.alloc (.cells #[.int .i64 0, .int .i64 0, .string ⟨#[107, 97]⟩, .string ⟨#[75]⟩, .int .i64 5] 29)).alloc (.cells #[.int .i64 0, .int .i64 0, .string ⟨#[107, 97]⟩, .string ⟨#[75]⟩, .int .i64 5] 29)) (w.heap.size + 1) ka := by have := rl_new (w.alloc (.cells #[.int .i64 0, .int .i64 0, .string ⟨#[107, 97]⟩, .string ⟨#[75]⟩, .int .i64 5] 29)) ka _ rfl; rwa [e1] at this
  have k2 : SchBlock (((w.alloc (.cells #[.int .i64 0, .int .i64 0, .string ⟨#[107, 97]⟩, .string ⟨#[75]⟩, .int .i64 5] 29)).alloc (.cells #[.int .i64 0, .int .i64 0, .string ⟨#[107, 97]⟩, .string ⟨#[75]⟩, .int .i64 5] 29)).alloc (.cells #[.int .i64 1, .int .u8 1, .slice (some ⟨w.heap.size + 1, 0, none⟩) 1 1] 24)) (w.heap.size + 1 + 1) (.int .i64 1) (.int .u8 1) (.slice (some ⟨w.heap.size + 1, 0, none⟩) 1 1) := by have := SchBlock.new ((w.alloc (.cells #[.int .i64 0, .int .i64 0, .string ⟨#[107, 97]⟩, .string ⟨#[75]⟩, .int .i64 5] 29)).alloc (.cells #[.int .i64 0, .int .i64 0, .string ⟨#[107, 97]⟩, .string ⟨#[75]⟩, .int .i64 5] 29)) (.int .i64 1) (.int .u8 1) (.slice (some ⟨w.heap.size + 1, 0, none⟩) 1 1); rwa [e2] at this
  have k3 : RlBlock ((((w.alloc (.cells #[.int .i64 0, .int .i64 0, .string ⟨#[107, 97]⟩, .string ⟨#[75]⟩, .int .i64 5] 29)).alloc (.cells #[.int .i64 0, .int .i64 0, .string ⟨#[107, 97]⟩, .string ⟨#[75]⟩, .int .i64 5] 29)).alloc (.cells #[.int .i64 1, .int .u8 1, .slice (some ⟨w.heap.size + 1, 0, none⟩) 1 1] 24)).alloc (.cells #[.int .i64 0, .int .i64 1, .string ⟨#[107]⟩, .string ⟨#[]⟩, .int .i64 7] 29)) (w.heap.size + 1 + 1 + 1) kr := by have := rl_new (((w.alloc (.cells #[.int .i64 0, .int .i64 0, .string ⟨#[107, 97]⟩, .string ⟨#[75]⟩, .int .i64 5] 29)).alloc (.cells #[.int .i64 0, .int .i64 0, .string ⟨#[107, 97]⟩, .string ⟨#[75]⟩, .int .i64 5] 29)).alloc (.cells #[.int .i64 1, .int .u8 1, .slice (some ⟨w.heap.size + 1, 0, none⟩) 1 1] 24)) kr _ rfl; rwa [e3] at this
  have k4 : SchBlock (((((w.alloc (.cells #[.int .i64 0, .int .i64 0, .string ⟨#[107, 97]⟩, .string ⟨#[75]⟩, .int .i64 5] 29)).alloc (.cells #[.int .i64 0, .int .i64 0, .string ⟨#[107, 97]⟩, .string ⟨#[75]⟩, .int .i64 5] 29)).alloc (.cells #[.int .i64 1, .int .u8 1, .slice (some ⟨w.heap.size + 1, 0, none⟩) 1 1] 24)).alloc (.cells #[.int .i64 0, .int .i64 1, .string ⟨#[107]⟩, .string ⟨#[]⟩, .int .i64 7] 29)).alloc (.cells #[.int .i64 2, .int .u8 3, .slice (some ⟨w.heap.size + 1 + 1 + 1, 0, none⟩) 1 1] 24)) (w.heap.size + 1 + 1 + 1 + 1) (.int .i64 2) (.int .u8 3) (.slice (some ⟨w.heap.size + 1 + 1 + 1, 0, none⟩) 1 1) := by have := SchBlock.new ((((w.alloc (.cells #[.int .i64 0, .int .i64 0, .string ⟨#[107, 97]⟩, .string ⟨#[75]⟩, .int .i64 5] 29)).alloc (.cells #[.int .i64 0, .int .i64 0, .string ⟨#[107, 97]⟩, .string ⟨#[75]⟩, .int .i64 5] 29)).alloc (.cells #[.int .i64 1, .int .u8 1, .slice (some ⟨w.heap.size + 1, 0, none⟩) 1 1] 24)).alloc (.cells #[.int .i64 0, .int .i64 1, .string ⟨#[107]⟩, .string ⟨#[]⟩, .int .i64 7] 29)) (.int .i64 2) (.int .u8 3) (.slice (some ⟨w.heap.size + 1 + 1 + 1, 0, none⟩) 1 1); rwa [e4] at this
  exact ⟨(((k0.alloc _).alloc _).alloc _).alloc _, ((k1.alloc _).alloc _).alloc _, (k2.alloc _).alloc _, k3.alloc _, k4, ((((((Below.refl _ _).alloc (Nat.le_refl _) _).alloc (by omega) _).alloc (by omega) _).alloc (by omega) _).alloc (by omega) _)⟩

set_option maxHeartbeats 1000000 in
set_option maxRecDepth 100000 in
theorem sanity_any (m : Int) (w : World) (hT : StrTab w) (hP : PowTab w) (hm : MaxVar w m) (h0 : 0 < w.heap.size) (hg : 2 < w.heap.size) :
    Calls Tryd.prog 15 #[] w fun e w' => e = .returned (.bool true) ∧ Below w.heap.size w w' := by
  have HT := Lib.hid hT
  have HP := Lib.hid hP
  have HM := Lib.hid hm
  have H0 := Lib.hid h0
  have HG := Lib.hid hg
  clear hT hP hm h0 hg
  go_enter Tryd.func15, Tryd.ntmps15
  have LY := Lib.hid (lay5 w)
  go_upto_region 4 with fail
  generalize ((((w.alloc _).alloc _).alloc _).alloc _).alloc _ = x5 at *
  obtain ⟨k0, k1, k2, k3, k4, hb5⟩ := LY.out
  have HB5 := Lib.hid hb5
  have LY5 := Lib.hid (And.intro k0 (And.intro k1 (And.intro k3 k4)))
  obtain ⟨s0, s1, s2⟩ := k2.cells
  clear k0 k1 k2 k3 k4 hb5 LY
  go_wp2_with fail
  refine (Check_is 1 1 (some ⟨w.heap.size + 1, 0, none⟩) 1 [ka] x5 (HT.out.below HB5.out H0.out) (Nat.lt_of_lt_of_le H0.out HB5.out.size) (rlsAt_one LY5.out.2.1) (Nat.le_refl _) (by decide) (by decide) (by decide) (by decide) (by decide) (by decide) f_one).mono ?_
  rintro e x6 ⟨rfl, hb⟩
  have HB6 := Lib.hid (HB5.out.trans (hb.mono HB5.out.size))
  have LY6 := Lib.hid (And.intro (LY5.out.1.below hb) (And.intro (LY5.out.2.2.1.below hb) (LY5.out.2.2.2.below hb)))
  clear hb HB5 LY5 s0 s1 s2
  go_wp2_with fail
  refine (Parse_yes tx26 m 2 3 [kr] x6 (HT.out.below HB6.out H0.out) (Nat.lt_of_lt_of_le H0.out HB6.out.size) (by decide) (HM.out.below HG.out HB6.out) (Nat.lt_of_lt_of_le HG.out HB6.out.size) r_tx).mono ?_
  rintro e x7 ⟨hb, i, err, hc, he⟩
  obtain ⟨rfl, rfl⟩ := chk_unique hc f_two
  rcases he with ⟨-, v, rfl, hO⟩ | ⟨h, -⟩
  rotate_left
  · cases h
  obtain ⟨va, vc, rfl, hcap, -⟩ := hO.at
  have HO := Lib.hid hO
  have HB7 := Lib.hid (HB6.out.trans (hb.mono HB6.out.size))
  have LY7 := Lib.hid (And.intro (LY6.out.1.below hb) (And.intro (LY6.out.2.1.below hb) (LY6.out.2.2.below hb)))
  clear hb HB6 LY6 hc hcap hO
  have HO : Hid (RlsOwn x7 x6.heap.size (.slice va 1 vc) [kr]) := HO
  have al8 : Below x7.heap.size x7 (x7.alloc (.cells #[.int .i64 2, .int .u8 3, .slice va 1 vc] 24)) := (Below.refl _ _).alloc (Nat.le_refl _) _
  have N8 := Lib.hid (SchBlock.new x7 (.int .i64 2) (.int .u8 3) (.slice va 1 vc))
  have HB8 := Lib.hid (HB7.out.trans (al8.mono HB7.out.size))
  have LY8 := Lib.hid (And.intro (LY7.out.1.below al8) (And.intro (LY7.out.2.1.below al8) (LY7.out.2.2.below al8)))
  have HO8 := Lib.hid (HO.out.later al8)
  clear al8 HO HB7 LY7
  go_upto_region 6 with fail
  generalize x7.alloc _ = x8 at *
  generalize x7.heap.size = b8 at *
  obtain ⟨k0, k1, k2, k3, k4⟩ := LY8.out.1.cells
  go_wp2_with fail
  clear k0 k1 k2 k3 k4
  have al9 : Below x8.heap.size x8 (x8.alloc (.cells #[.int .i64 0, .int .i64 0, .string ⟨#[107, 97]⟩, .string ⟨#[75]⟩, .int .i64 5, .int .i64 0, .int .i64 0, .string ⟨#[107, 97]⟩, .string ⟨#[75]⟩, .int .i64 5] 29)) := (Below.refl _ _).alloc (Nat.le_refl _) _
  have HB9 := Lib.hid (HB8.out.trans (al9.mono HB8.out.size))
  refine (refuses_yes 1 1 1 (some ⟨x8.heap.size, 0, none⟩) 2 [ka, ka] _ (HT.out.below HB9.out H0.out) (Nat.lt_of_lt_of_le H0.out HB9.out.size) (rlsAt_two x8 ka _ rfl) (Nat.le_refl _) (by decide) (by decide) (by decide) (by decide) (by decide) (by decide) f_kk).mono ?_
  rintro e x9 ⟨rfl, hb⟩
  replace hb := al9.trans (hb.mono al9.size)
  have HB9 := Lib.hid (HB8.out.trans (hb.mono HB8.out.size))
  have LY9 := Lib.hid (And.intro (LY8.out.2.1.below hb) (LY8.out.2.2.below hb))
  have N9 := Lib.hid (N8.out.below hb)
  have HO9 := Lib.hid (HO8.out.later hb)
  clear hb al9 HB8 LY8 N8 HO8
  go_wp2_with fail
  refine (refuses_yes (-1) 1 2 none 0 [] x9 (HT.out.below HB9.out H0.out) (Nat.lt_of_lt_of_le H0.out HB9.out.size) (rlsAt_nil x9) (Nat.le_refl _) (by decide) (by decide) (by decide) (by decide) (by decide) (by decide) f_no).mono ?_
  rintro e x10 ⟨rfl, hb⟩
  have HB10 := Lib.hid (HB9.out.trans (hb.mono HB9.out.size))
  have LY10 := Lib.hid (And.intro (LY9.out.1.below hb) (LY9.out.2.below hb))
  have N10 := Lib.hid (N9.out.below hb)
  have HO10 := Lib.hid (HO9.out.later hb)
  clear hb HB9 LY9 N9 HO9
  go_wp2_with fail
  have al11 : Below x10.heap.size x10 (x10.alloc (.cells #[.int .i64 0, .int .i64 1, .string ⟨#[]⟩, .string ⟨#[]⟩, .int .i64 0] 29)) := (Below.refl _ _).alloc (Nat.le_refl _) _
  have HB11 := Lib.hid (HB10.out.trans (al11.mono HB10.out.size))
  refine (refuses_yes 0 1 1 (some ⟨x10.heap.size, 0, none⟩) 1 [⟨0, 1, [], [], 0⟩] _ (HT.out.below HB11.out H0.out) (Nat.lt_of_lt_of_le H0.out HB11.out.size) (rlsAt_one (rl_new x10 ⟨0, 1, [], [], 0⟩ _ rfl)) (Nat.le_refl _) (by decide) (by decide) (by decide) (by decide) (by decide) (by decide) f_to).mono ?_
  rintro e x11 ⟨rfl, hb⟩
  replace hb := al11.trans (hb.mono al11.size)
  have HB11 := Lib.hid (HB10.out.trans (hb.mono HB10.out.size))
  have LY11 := Lib.hid (And.intro (LY10.out.1.below hb) (LY10.out.2.below hb))
  have N11 := N10.out.below hb
  have HO11 := Lib.hid (HO10.out.later hb)
  clear hb al11 HB10 LY10 N10 HO10
  obtain ⟨s0, s1, s2⟩ := N11.cells
  obtain ⟨t0, t1, t2⟩ := LY11.out.2.cells
  clear N11
  go_wp2_with fail
  obtain ⟨-, -, -, -, hAt⟩ := HO11.out.at
  refine (Same_any 2 3 2 3 [kr] [kr] va (some ⟨w.heap.size + 1 + 1 + 1, 0, none⟩) vc 1 x11 hAt (rlsAt_one LY11.out.1) (by decide)).mono ?_
  rintro e x12 ⟨rfl, hb⟩
  have HB12 := Lib.hid (HB11.out.trans (hb.mono HB11.out.size))
  have LY12 := Lib.hid (And.intro (LY11.out.1.below hb) (LY11.out.2.below hb))
  rw [show sameB 2 3 [kr] 2 3 [kr] = true from rfl]
  clear hb hAt HB11 LY11 HO11 s0 s1 s2 t0 t1 t2
  obtain ⟨t0, t1, t2⟩ := LY12.out.2.cells
  go_wp2_with fail
  refine (Print_any 2 3 (some ⟨w.heap.size + 1 + 1 + 1, 0, none⟩) 1 [kr] x12 (HT.out.below HB12.out H0.out) (HP.out.below HB12.out) (Nat.lt_of_lt_of_le H0.out HB12.out.size) (rlsAt_one LY12.out.1) (Nat.le_refl _) (by decide) (by decide) (by decide) (by decide) (by decide) (by decide) v_two).mono ?_
  rintro e x13 ⟨rfl, hb⟩
  have HB13 := Lib.hid (HB12.out.trans (hb.mono HB12.out.size))
  rw [p_two]
  have hst : ((B tx26).toList == tx26) = true := by rw [ByteArray.toList_eq, toList_B]; rfl
  clear hb HB12 LY12 t0 t1 t2
  go_wp2_with fail
  refine (reads_yes [115, 99, 104, 101, 109, 101, 32, 50, 32, 51, 10, 114, 117, 108, 101, 32, 48, 32, 49, 32, 107, 32, 45, 10] m 0 3 x13 (HT.out.below HB13.out H0.out) (Nat.lt_of_lt_of_le H0.out HB13.out.size) (by decide) (HM.out.below HG.out HB13.out) (Nat.lt_of_lt_of_le HG.out HB13.out.size) (Or.inl ⟨rfl, Or.inr ⟨2, 3, [], r_short, rfl⟩⟩)).mono ?_
  rintro e x14 ⟨rfl, hb⟩
  have HB14 := Lib.hid (HB13.out.trans (hb.mono HB13.out.size))
  clear hb HB13
  go_wp2_with fail
  refine (reads_yes [] m (-1) 3 x14 (HT.out.below HB14.out H0.out) (Nat.lt_of_lt_of_le H0.out HB14.out.size) (by decide) (HM.out.below HG.out HB14.out) (Nat.lt_of_lt_of_le HG.out HB14.out.size) (Or.inl ⟨rfl, Or.inl ⟨r_nil, rfl⟩⟩)).mono ?_
  rintro e x15 ⟨rfl, hb⟩
  have HB15 := Lib.hid (HB14.out.trans (hb.mono HB14.out.size))
  clear hb HB14
  go_wp2_with fail
  refine (reads_yes [115, 99, 104, 101, 109, 101, 32, 57, 32, 49, 10] m (-1) 20 x15 (HT.out.below HB15.out H0.out) (Nat.lt_of_lt_of_le H0.out HB15.out.size) (by decide) (HM.out.below HG.out HB15.out) (Nat.lt_of_lt_of_le HG.out HB15.out.size) (Or.inr ⟨rfl, 9, 1, [], r_nine, f_nine⟩)).mono ?_
  rintro e x16 ⟨rfl, hb⟩
  have HB16 := Lib.hid (HB15.out.trans (hb.mono HB15.out.size))
  clear hb HB15
  go_wp2_with fail
  refine (Letters_any ⟨#[]⟩ x16 (HT.out.below HB16.out H0.out) (Nat.lt_of_lt_of_le H0.out HB16.out.size) (by decide)).mono ?_
  rintro e x17 ⟨rfl, hb⟩
  have HB17 := Lib.hid (HB16.out.trans (hb.mono HB16.out.size))
  clear hb HB16
  rw [show lettersB ((⟨#[]⟩ : ByteArray).data.toList) = true by decide]
  go_wp2_with fail
  refine (Letters_any ⟨#[97, 66]⟩ x17 (HT.out.below HB17.out H0.out) (Nat.lt_of_lt_of_le H0.out HB17.out.size) (by decide)).mono ?_
  rintro e x18 ⟨rfl, hb⟩
  have HB18 := Lib.hid (HB17.out.trans (hb.mono HB17.out.size))
  clear hb HB17
  rw [show lettersB ((⟨#[97, 66]⟩ : ByteArray).data.toList) = false by decide]
  go_wp2_with fail
  refine (Word_any ⟨#[97, 66, 49]⟩ x18 (HT.out.below HB18.out H0.out) (Nat.lt_of_lt_of_le H0.out HB18.out.size) (by decide)).mono ?_
  rintro e x19 ⟨rfl, hb⟩
  have HB19 := Lib.hid (HB18.out.trans (hb.mono HB18.out.size))
  clear hb HB18
  rw [show wordB ((⟨#[97, 66, 49]⟩ : ByteArray).data.toList) = true by decide]
  go_wp2_with fail
  refine (Word_any ⟨#[]⟩ x19 (HT.out.below HB19.out H0.out) (Nat.lt_of_lt_of_le H0.out HB19.out.size) (by decide)).mono ?_
  rintro e x20 ⟨rfl, hb⟩
  have HB20 := Lib.hid (HB19.out.trans (hb.mono HB19.out.size))
  clear hb HB19
  rw [show wordB ((⟨#[]⟩ : ByteArray).data.toList) = false by decide]
  go_wp2_with fail
  go_ret
  exact ⟨rfl, HB20.out⟩
end Go.Proofs.YtnbiedijofdjhaaDoor

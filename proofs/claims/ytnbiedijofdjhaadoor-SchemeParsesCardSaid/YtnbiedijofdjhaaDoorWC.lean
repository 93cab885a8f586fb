/-
  The reference's Print.
-/
import Derived.Test.YtnbiedijofdjhaaDoorWB
import Derived.Test.YtnbiedijofdjhaaDoorVN
namespace Go.Proofs.YtnbiedijofdjhaaDoor
open Go.RowKit
open Pl

theorem sz1 (a : List UInt8) (n : Nat) (h : n + a.length ≤ 1000000) : ¬ 9223372036854775807 < n + (B a).size := by rw [size_B]; omega
set_option maxHeartbeats 2000000 in
set_option maxRecDepth 100000 in
theorem RPrint_bad (modes acc : Int) (a : Option Addr) (c : Nat) (rs : List Rl) (w : World) (hx : RlsAt w w.heap.size (.slice a rs.length c) rs) (hm : rs.length ≤ maxLen)
    (hz : ∀ x ∈ rs, x.inp.length ≤ maxLen ∧ x.out.length ≤ maxLen) (ha0 : 0 ≤ acc) (ha1 : acc ≤ 255) (hv : validB modes acc rs = false) :
    Calls Tryd.prog 21 #[.agg #[.int .i64 modes, .int .u8 acc, .slice a rs.length c]] w fun e w' => e = .returned (.string (B [])) ∧ Below w.heap.size w w' := by
  have hb : Below w.heap.size w (w.alloc (.cells #[.int .i64 modes, .int .u8 acc, .slice a rs.length c] 24)) := (Below.refl _ _).alloc (Nat.le_refl _) _
  have SB0 := Lib.hid (SchBlock.new w (.int .i64 modes) (.int .u8 acc) (.slice a rs.length c))
  have CC := Lib.hid (RValid_any modes acc a c rs _ (hx.on hb) hm hz ha0 ha1)
  rw [hv] at CC
  have HB := Lib.hid hb
  clear hb hx hm hz ha0 ha1 hv
  go_enter Tryd.func21, Tryd.ntmps21
  go_wp2_with fail
  generalize w.alloc _ = w1 at *
  obtain ⟨s0, s1, s2⟩ := SB0.out.cells
  go_wp2_with fail
  refine (CC.out).mono ?_
  rintro e x1 ⟨rfl, hb⟩
  have HB1 := Lib.hid (HB.out.trans (hb.mono HB.out.size))
  clear hb CC HB s0 s1 s2
  go_wp2_with fail
  go_ret
  exact ⟨rfl, HB1.out⟩
theorem B_lit (l : List UInt8) : (⟨l.toArray⟩ : ByteArray) = B l := rfl
theorem head_str (d e : List UInt8) : (⟨#[115, 99, 104, 101, 109, 101, 32]⟩ : ByteArray) ++ B d ++ ⟨#[32]⟩ ++ B e ++ ⟨#[10]⟩ = B (lineS [[115, 99, 104, 101, 109, 101], d, e]) := by
  rw [show (⟨#[115, 99, 104, 101, 109, 101, 32]⟩ : ByteArray) = B [115, 99, 104, 101, 109, 101, 32] from rfl, show (⟨#[32]⟩ : ByteArray) = B [32] from rfl, show (⟨#[10]⟩ : ByteArray) = B [10] from rfl, B_app, B_app, B_app, B_app]
  unfold lineS
  rw [join_more, join_more, join_one]
  simp
theorem rule_str (p a b c d e : List UInt8) : B p ++ ((⟨#[114, 117, 108, 101, 32]⟩ : ByteArray) ++ B a ++ ⟨#[32]⟩ ++ B b ++ ⟨#[32]⟩ ++ B c ++ ⟨#[32]⟩ ++ B d ++ ⟨#[32]⟩ ++ B e ++ ⟨#[10]⟩) = B (p ++ lineS [[114, 117, 108, 101], a, b, c, d, e]) := by
  rw [show (⟨#[114, 117, 108, 101, 32]⟩ : ByteArray) = B [114, 117, 108, 101, 32] from rfl, show (⟨#[32]⟩ : ByteArray) = B [32] from rfl, show (⟨#[10]⟩ : ByteArray) = B [10] from rfl]
  simp only [B_app]
  unfold lineS
  rw [join_more, join_more, join_more, join_more, join_more, join_one]
  simp
theorem dec_short (n : Nat) (h : n ≤ 9999) : (Lib.decDigits n).length ≤ 4 := dec_len 3 n (by omega)
set_option maxHeartbeats 4000000 in
set_option maxRecDepth 100000 in
theorem RPrint_any (modes acc : Int) (a : Option Addr) (c : Nat) (rs : List Rl) (w : World) (hx : RlsAt w w.heap.size (.slice a rs.length c) rs) (hm : rs.length ≤ maxLen)
    (hz : ∀ x ∈ rs, x.inp.length ≤ maxLen ∧ x.out.length ≤ maxLen) (ha0 : 0 ≤ acc) (ha1 : acc ≤ 255) (hv : validB modes acc rs = true) :
    Calls Tryd.prog 21 #[.agg #[.int .i64 modes, .int .u8 acc, .slice a rs.length c]] w fun e w' => e = .returned (.string (B (printS modes acc rs))) ∧ Below w.heap.size w w' := by
  have hb : Below w.heap.size w (w.alloc (.cells #[.int .i64 modes, .int .u8 acc, .slice a rs.length c] 24)) := (Below.refl _ _).alloc (Nat.le_refl _) _
  have SB0 := Lib.hid (SchBlock.new w (.int .i64 modes) (.int .u8 acc) (.slice a rs.length c))
  have CC := Lib.hid (RValid_any modes acc a c rs _ (hx.on hb) hm hz ha0 ha1)
  rw [hv] at CC
  obtain ⟨v1, v2, v3, v4, v5⟩ := valid_ok hv
  have HB := Lib.hid hb
  have HX := Lib.hid (hx.on hb)
  have CI := fun W => decimal_any 6 modes.toNat W (by omega) (by omega)
  have CA := fun W => decimal_any 6 acc.toNat W (by omega) (by omega)
  rw [Int.toNat_of_nonneg (by omega)] at CI CA
  have hwa : IntKind.i64.wrap acc = acc := IntWalk.i64_in _ (by omega)
  have l1 := dec_short modes.toNat (by omega)
  have l2 := dec_short acc.toNat (by omega)
  have HV := Lib.hid v5
  have HM2 := Lib.hid v2
  have HN := Lib.hid v4
  have HHD := Lib.hid (show headS modes acc = lineS [[115, 99, 104, 101, 109, 101], Lib.decDigits modes.toNat, Lib.decDigits acc.toNat] from rfl)
  have HL := Lib.hid (headS_len (show 0 ≤ modes by omega) v2 ha0 ha1)
  clear hb hx hm hz ha0 ha1 hv v1 v2 v3 v4 v5
  generalize Lib.decDigits modes.toNat = dm at *
  generalize Lib.decDigits acc.toNat = da at *
  go_enter Tryd.func21, Tryd.ntmps21
  go_wp2_with fail
  generalize w.alloc _ = w1 at *
  obtain ⟨s0, s1, s2⟩ := SB0.out.cells
  go_wp2_with fail
  refine (CC.out).mono ?_
  rintro e x1 ⟨rfl, hb⟩
  have HB1 := Lib.hid (HB.out.trans (hb.mono HB.out.size))
  have SB1 := Lib.hid (SB0.out.below hb)
  have HX1 := Lib.hid (HX.out.on hb)
  clear hb CC HB s0 s1 s2 SB0 HX
  go_upto_region 3 with fail
  have FW := Lib.hid (show ∀ W, Below x1.heap.size x1 W → W.cell? ⟨w.heap.size, 0, none⟩ = some (.int .i64 modes) ∧ W.cell? ⟨w.heap.size, 1, none⟩ = some (.int .u8 acc) ∧ W.cell? ⟨w.heap.size, 2, none⟩ = some (.slice a rs.length c) from fun W h => (SB1.out.below h).cells)
  have C1 : ∀ W, Below x1.heap.size x1 W → Calls Tryd.prog 61 #[.int .i64 modes] W fun e w' => e = .returned (.string (B dm)) ∧ Below x1.heap.size x1 w' := fun W h => (CI W).mono fun e w' h' => ⟨h'.1, h.trans (h'.2.mono h.size)⟩
  have C2 : ∀ W, Below x1.heap.size x1 W → Calls Tryd.prog 61 #[.int .i64 acc] W fun e w' => e = .returned (.string (B da)) ∧ Below x1.heap.size x1 w' := fun W h => (CA W).mono fun e w' h' => ⟨h'.1, h.trans (h'.2.mono h.size)⟩
  refine wp_normal ?_
  refine wp_region_class (C := fun W => Below x1.heap.size x1 W) (by kernel_rfl) (by kernel_rfl) (Below.refl _ _).drew ?_
  have q1 : ¬ 9223372036854775807 < 7 + (B dm).size := sz1 dm 7 (by omega)
  have q2 : ¬ 9223372036854775807 < 7 + (B dm).size + 1 := by rw [size_B]; omega
  have q3 : ¬ 9223372036854775807 < 7 + (B dm).size + 1 + (B da).size := by rw [size_B, size_B]; omega
  have q4 : ¬ 9223372036854775807 < 7 + (B dm).size + 1 + (B da).size + 1 := by rw [size_B, size_B]; omega
  repeat (first | go_big_quiet_skip | (go_big_quiet_want; first | (go_big_quiet_op; go_big_quiet_on) | (refine quiet_value ?_ (fun W h => ?_) ?_; rotate_left; (· obtain ⟨f0, f1, f2⟩ := FW.out W h; go_simp; rfl); go_simp; go_big_quiet_on) | (refine quiet_call _ _ _ (fun W => ?_) C1 ?_; (· go_simp; done); go_simp; go_big_quiet_on) | (refine quiet_call _ _ _ (fun W => ?_) C2 ?_; (· go_simp; done); go_simp; go_big_quiet_on)))
  refine wpQuiet_nil ?_
  intro x2 hcj
  rw [head_str, ← HHD.out]
  have HB2 := Lib.hid (HB1.out.trans (Below.mono hcj HB1.out.size))
  have SB2 := Lib.hid (SB1.out.below hcj)
  have HX2 := Lib.hid (HX1.out.on hcj)
  clear hcj HB1 SB1 HX1 C1 C2 CI CA FW q1 q2 q3 q4 l1 l2 HHD hwa
  have HR := Lib.hid (rules_len modes HM2.out rs (fun k hk => (HV.out k hk).1))
  have TF := fun k h => Lib.hid (take_flat rs k h)
  have RL := fun k h => Lib.hid (ruleS_len (HV.out k h).1 HM2.out)
  have RO := fun k h => Lib.hid (HV.out k h).1
  clear HV
  go_wp2_with fail
  go_loopw [3, 4] (fun t i wr => ∃ j : Nat, i = .int .i64 j ∧ j ≤ rs.length ∧ t = .string (B (headS modes acc ++ (rs.take j).flatMap ruleS)) ∧ ((rs.take j).flatMap ruleS).length ≤ 40 * j ∧ Below x2.heap.size x2 wr) (fun _ i _ => rs.length - (intOf i).toNat)
  case atStart => exact ⟨0, rfl, Nat.zero_le _, by simp, by simp, Below.refl _ _⟩
  case round =>
    obtain ⟨j, rfl, hj, rfl, hlen, hb⟩ := hrel
    have HBR := Lib.hid hb
    clear hb
    obtain ⟨s0, s1, s2⟩ := (SB2.out.below HBR.out).cells
    by_cases hp : j < rs.length
    · have hj0 : (0 : Int) ≤ (j : Int) := by omega
      have hj1 : (j : Int) < (rs.length : Int) := by omega
      have hj64 : j ≤ 63 := by have := HN.out; omega
      obtain ⟨a0, c0, hv, hc⟩ := HX2.out.on HBR.out
      obtain ⟨rfl, -⟩ : a = a0 ∧ c = c0 := by simpa using hv
      obtain ⟨b, off, rfl, hbb, hc⟩ := hc (by omega)
      obtain ⟨z0, z1, z2, z3, z4⟩ := hc j hp
      have T1 := TF j hp
      have T2 := RL j hp
      have T3 := (RO j hp).out
      generalize rs[j] = r at *
      have hb5 : Below wr.heap.size wr (wr.alloc (.cells #[.int .i64 r.src, .int .i64 r.dst, .string (B r.inp), .string (B r.out), .int .i64 r.cost] 29)) := (Below.refl _ _).alloc (Nat.le_refl _) _
      have RB := Lib.hid (rl_new wr r _ rfl)
      have HB5 := Lib.hid (HBR.out.trans (hb5.mono HBR.out.size))
      clear hc hv hbb TF RL RO hb5
      have E1 := Lib.hid (show ruleS r = lineS [[114, 117, 108, 101], Lib.decDigits r.src.toNat, Lib.decDigits r.dst.toNat, textS r.inp, textS r.out, Lib.decDigits r.cost.toNat] from rfl)
      have ya := fun W => decimal_any 6 r.src.toNat W (by have := T3.s1; have := HM2.out; omega) (by have := T3.s1; have := HM2.out; omega)
      have yb := fun W => decimal_any 6 r.dst.toNat W (by have := T3.d1; have := HM2.out; omega) (by have := T3.d1; have := HM2.out; omega)
      have yc := fun W => field_any r.inp W
      have yd := fun W => field_any r.out W
      have ye := fun W => decimal_any 6 r.cost.toNat W (by have := T3.c1; omega) (by have := T3.c1; omega)
      rw [Int.toNat_of_nonneg T3.s0] at ya
      rw [Int.toNat_of_nonneg T3.d0] at yb
      rw [Int.toNat_of_nonneg T3.c0] at ye
      have la := dec_short r.src.toNat (by have := T3.s1; have := HM2.out; omega)
      have lb := dec_short r.dst.toNat (by have := T3.d1; have := HM2.out; omega)
      have lc := textS_len T3.i
      have ld := textS_len T3.o
      have le := dec_short r.cost.toNat (by have := T3.c1; omega)
      clear T3
      go_upto_region 8 with fail
      clear s0 s1 s2 z0 z1 z2 z3 z4
      have lp : (headS modes acc ++ (rs.take j).flatMap ruleS).length ≤ 5000 := by
        have := HL.out
        rw [List.length_append]; omega
      have T4 := T2.out
      rw [E1.out] at T1 T4
      clear T2 E1
      generalize hq5 : wr.alloc _ = w5 at *
      have hsz5 : w5.heap.size = wr.heap.size + 1 := by rw [← hq5]; exact World.size_alloc _ _
      clear hq5
      have FR := Lib.hid (show ∀ W, Below w5.heap.size w5 W → _ from fun W h => (RB.out.below h).cells)
      generalize Lib.decDigits r.src.toNat = ta at *
      generalize Lib.decDigits r.dst.toNat = tb at *
      generalize textS r.inp = tc at *
      generalize textS r.out = td at *
      generalize Lib.decDigits r.cost.toNat = te at *
      generalize htp : headS modes acc ++ (rs.take j).flatMap ruleS = tp at *
      have D1 : ∀ W, Below w5.heap.size w5 W → Calls Tryd.prog 61 #[.int .i64 r.src] W fun e w' => e = .returned (.string (B ta)) ∧ Below w5.heap.size w5 w' := fun W h => (ya W).mono fun e w' h' => ⟨h'.1, h.trans (h'.2.mono h.size)⟩
      have D2 : ∀ W, Below w5.heap.size w5 W → Calls Tryd.prog 61 #[.int .i64 r.dst] W fun e w' => e = .returned (.string (B tb)) ∧ Below w5.heap.size w5 w' := fun W h => (yb W).mono fun e w' h' => ⟨h'.1, h.trans (h'.2.mono h.size)⟩
      have D3 : ∀ W, Below w5.heap.size w5 W → Calls Tryd.prog 62 #[.string (B r.inp)] W fun e w' => e = .returned (.string (B tc)) ∧ Below w5.heap.size w5 w' := fun W h => (yc W).mono fun e w' h' => ⟨h'.1, by rw [h'.2]; exact h⟩
      have D4 : ∀ W, Below w5.heap.size w5 W → Calls Tryd.prog 62 #[.string (B r.out)] W fun e w' => e = .returned (.string (B td)) ∧ Below w5.heap.size w5 w' := fun W h => (yd W).mono fun e w' h' => ⟨h'.1, by rw [h'.2]; exact h⟩
      have D5 : ∀ W, Below w5.heap.size w5 W → Calls Tryd.prog 61 #[.int .i64 r.cost] W fun e w' => e = .returned (.string (B te)) ∧ Below w5.heap.size w5 w' := fun W h => (ye W).mono fun e w' h' => ⟨h'.1, h.trans (h'.2.mono h.size)⟩
      clear ya yb yc yd ye
      refine wp_normal ?_
      refine wp_region_class (C := fun W => Below w5.heap.size w5 W) (by kernel_rfl) (by kernel_rfl) (Below.refl _ _).drew ?_
      have u0 : ¬ 9223372036854775807 < 5 + (B ta).size := by simp only [size_B]; omega
      have u1 : ¬ 9223372036854775807 < 5 + (B ta).size + 1 := by simp only [size_B]; omega
      have u2 : ¬ 9223372036854775807 < 5 + (B ta).size + 1 + (B tb).size := by simp only [size_B]; omega
      have u3 : ¬ 9223372036854775807 < 5 + (B ta).size + 1 + (B tb).size + 1 := by simp only [size_B]; omega
      have u4 : ¬ 9223372036854775807 < 5 + (B ta).size + 1 + (B tb).size + 1 + (B tc).size := by simp only [size_B]; omega
      have u5 : ¬ 9223372036854775807 < 5 + (B ta).size + 1 + (B tb).size + 1 + (B tc).size + 1 := by simp only [size_B]; omega
      have u6 : ¬ 9223372036854775807 < 5 + (B ta).size + 1 + (B tb).size + 1 + (B tc).size + 1 + (B td).size := by simp only [size_B]; omega
      have u7 : ¬ 9223372036854775807 < 5 + (B ta).size + 1 + (B tb).size + 1 + (B tc).size + 1 + (B td).size + 1 := by simp only [size_B]; omega
      have u8 : ¬ 9223372036854775807 < 5 + (B ta).size + 1 + (B tb).size + 1 + (B tc).size + 1 + (B td).size + 1 + (B te).size := by simp only [size_B]; omega
      have u9 : ¬ 9223372036854775807 < 5 + (B ta).size + 1 + (B tb).size + 1 + (B tc).size + 1 + (B td).size + 1 + (B te).size + 1 := by simp only [size_B]; omega
      have u10 : ¬ 9223372036854775807 < (B tp).size + (5 + (B ta).size + 1 + (B tb).size + 1 + (B tc).size + 1 + (B td).size + 1 + (B te).size + 1) := by simp only [size_B]; omega
      repeat (first | go_big_quiet_skip | (go_big_quiet_want; first | (go_big_quiet_op; go_big_quiet_on) | (refine quiet_value ?_ (fun W h => ?_) ?_; rotate_left; (· obtain ⟨f0, f1, f2, f3, f4⟩ := FR.out W h; go_simp; rfl); go_simp; go_big_quiet_on) | (refine quiet_call _ _ _ (fun W => ?_) D1 ?_; (· go_simp; done); go_simp; go_big_quiet_on) | (refine quiet_call _ _ _ (fun W => ?_) D2 ?_; (· go_simp; done); go_simp; go_big_quiet_on) | (refine quiet_call _ _ _ (fun W => ?_) D3 ?_; (· go_simp; done); go_simp; go_big_quiet_on) | (refine quiet_call _ _ _ (fun W => ?_) D4 ?_; (· go_simp; done); go_simp; go_big_quiet_on) | (refine quiet_call _ _ _ (fun W => ?_) D5 ?_; (· go_simp; done); go_simp; go_big_quiet_on)))
      refine wpQuiet_nil ?_
      intro x6 hcj
      rw [rule_str]
      have HB6 := Lib.hid (HB5.out.trans (Below.mono hcj HB5.out.size))
      have T5 := Lib.hid (show tp ++ lineS [[114, 117, 108, 101], ta, tb, tc, td, te] = headS modes acc ++ (rs.take (j + 1)).flatMap ruleS by rw [T1.out, ← htp, List.append_assoc])
      have T6 := Lib.hid (show ((rs.take (j + 1)).flatMap ruleS).length ≤ 40 * (j + 1) by rw [T1.out, List.length_append]; omega)
      rw [T5.out]
      clear hcj D1 D2 D3 D4 D5 FR RB T1 T4 htp HB5
      go_wp2_with fail
      go_roundw
      case rel => exact ⟨j + 1, by go_num, by omega, rfl, T6.out, HB6.out⟩
      case measure => simp [intOf]; omega
    · have hj1 : ¬ (j : Int) < (rs.length : Int) := by omega
      have E := Lib.hid (show headS modes acc ++ (rs.take j).flatMap ruleS = printS modes acc rs by rw [List.take_of_length_le (by omega)]; rfl)
      go_wp2_with fail
      go_ret
      exact ⟨ret_str (by rw [E.out]), HB2.out.trans (HBR.out.mono HB2.out.size)⟩
end Go.Proofs.YtnbiedijofdjhaaDoor

/-
  The reference's Valid.
-/
import Derived.Test.YtadaijepalhohaaAE
namespace Go.Proofs.Ytadaijepalhohaa
open Go.RowKit
open Pl

set_option maxHeartbeats 2000000 in
set_option maxRecDepth 100000 in
theorem RValid_any (s : Sl) (a : Option Addr) (c : Nat) (w : World) (hx : AlsAt w w.heap.size (.slice a s.alike.length c) s.alike) (hl : s.alike.length ≤ maxLen) :
    Calls Try.prog 21 #[.agg #[.int .i64 s.swap, .int .i64 s.drop, .int .i64 s.add, .int .i64 s.put, .slice a s.alike.length c]] w fun e w' => e = .returned (.bool (validS s)) ∧ Below w.heap.size w w' := by
  have b1 := (Below.refl w.heap.size w).alloc (Nat.le_refl _) (.cells #[.int .i64 s.swap, .int .i64 s.drop, .int .i64 s.add, .int .i64 s.put, .slice a s.alike.length c] 32)
  have SB := Lib.hid (SlBlock.new w s (.slice a s.alike.length c))
  have HX := Lib.hid hx
  have HB := Lib.hid b1
  unfold maxLen at hl
  clear hx b1
  have L1 := fun W => RCost_any s.swap W
  have L2 := fun W => RCost_any s.drop W
  have L3 := fun W => RCost_any s.add W
  have L4 := fun W => RCost_any s.put W
  cases o1 : costB s.swap with
  | false =>
    rw [o1] at L1
    have HO := Lib.hid (show validS s = false by unfold validS; rw [o1]; rfl)
    clear o1 L2 L3 L4
    go_enter Try.func21, Try.ntmps21
    go_upto_region 1 with fail
    generalize w.alloc _ = w1 at *
    obtain ⟨q0, q1, q2, q3, q4⟩ := SB.out.cells
    go_wp2_with (((with_reducible refine (L1 _).mono ?_); rintro e w' ⟨rfl, rfl⟩))
    go_ret
    exact ⟨ret_bool HO.out.symm, HB.out⟩
  | true =>
  cases o2 : costB s.drop with
  | false =>
    rw [o1] at L1
    rw [o2] at L2
    have HO := Lib.hid (show validS s = false by unfold validS; rw [o1, o2]; rfl)
    clear o1 o2 L3 L4
    go_enter Try.func21, Try.ntmps21
    go_upto_region 1 with fail
    generalize w.alloc _ = w1 at *
    obtain ⟨q0, q1, q2, q3, q4⟩ := SB.out.cells
    go_wp2_with (first | ((with_reducible refine (L1 _).mono ?_); rintro e w' ⟨rfl, rfl⟩) | ((with_reducible refine (L2 _).mono ?_); rintro e w' ⟨rfl, rfl⟩))
    go_ret
    exact ⟨ret_bool HO.out.symm, HB.out⟩
  | true =>
  cases o3 : costB s.add with
  | false =>
    rw [o1] at L1
    rw [o2] at L2
    rw [o3] at L3
    have HO := Lib.hid (show validS s = false by unfold validS; rw [o1, o2, o3]; rfl)
    clear o1 o2 o3 L4
    go_enter Try.func21, Try.ntmps21
    go_upto_region 1 with fail
    generalize w.alloc _ = w1 at *
    obtain ⟨q0, q1, q2, q3, q4⟩ := SB.out.cells
    go_wp2_with (first | ((with_reducible refine (L1 _).mono ?_); rintro e w' ⟨rfl, rfl⟩) | ((with_reducible refine (L2 _).mono ?_); rintro e w' ⟨rfl, rfl⟩) | ((with_reducible refine (L3 _).mono ?_); rintro e w' ⟨rfl, rfl⟩))
    go_ret
    exact ⟨ret_bool HO.out.symm, HB.out⟩
  | true =>
  cases o4 : costB s.put with
  | false =>
    rw [o1] at L1
    rw [o2] at L2
    rw [o3] at L3
    rw [o4] at L4
    have HO := Lib.hid (show validS s = false by unfold validS; rw [o1, o2, o3, o4]; rfl)
    clear o1 o2 o3 o4
    go_enter Try.func21, Try.ntmps21
    go_upto_region 1 with fail
    generalize w.alloc _ = w1 at *
    obtain ⟨q0, q1, q2, q3, q4⟩ := SB.out.cells
    go_wp2_with (first | ((with_reducible refine (L1 _).mono ?_); rintro e w' ⟨rfl, rfl⟩) | ((with_reducible refine (L2 _).mono ?_); rintro e w' ⟨rfl, rfl⟩) | ((with_reducible refine (L3 _).mono ?_); rintro e w' ⟨rfl, rfl⟩) | ((with_reducible refine (L4 _).mono ?_); rintro e w' ⟨rfl, rfl⟩))
    go_ret
    exact ⟨ret_bool HO.out.symm, HB.out⟩
  | true =>
  rw [o1] at L1
  rw [o2] at L2
  rw [o3] at L3
  rw [o4] at L4
  have HV := Lib.hid (show validS s = alikeB s.alike by unfold validS; rw [o1, o2, o3, o4]; rfl)
  clear o1 o2 o3 o4
  generalize hxs : s.alike = xs at *
  clear hxs
  by_cases h20 : xs.length ≤ 20
  · have h20i : ¬ (20 : Int) < (xs.length : Int) := by omega
    have HE := Lib.hid (show validS s = alB xs xs.length by rw [HV.out]; unfold alikeB; rw [decide_eq_true h20]; rfl)
    clear HV
    go_enter Try.func21, Try.ntmps21
    go_upto_region 1 with fail
    generalize w.alloc _ = w1 at *
    obtain ⟨q0, q1, q2, q3, q4⟩ := SB.out.cells
    go_wp2_with (first | ((with_reducible refine (L1 _).mono ?_); rintro e w' ⟨rfl, rfl⟩) | ((with_reducible refine (L2 _).mono ?_); rintro e w' ⟨rfl, rfl⟩) | ((with_reducible refine (L3 _).mono ?_); rintro e w' ⟨rfl, rfl⟩) | ((with_reducible refine (L4 _).mono ?_); rintro e w' ⟨rfl, rfl⟩))
    clear L1 L2 L3 L4 q0 q1 q2 q3 q4
    go_loopw [3] (fun iv wr => ∃ i : Nat, iv = .int .i64 (i : Nat) ∧ i ≤ xs.length ∧ alB xs i = true ∧ SlBlock wr w.heap.size s (.slice a xs.length c) ∧ Below w.heap.size w wr) (fun iv _ => xs.length - (intOf iv).toNat)
    case atStart => exact ⟨0, rfl, Nat.zero_le _, rfl, SB.out, HB.out⟩
    case round =>
      obtain ⟨i, rfl, hi, hal, hsb, hb⟩ := hrel
      clear SB HB
      have HB := Lib.hid hb
      have SB := Lib.hid hsb
      have HA := Lib.hid hal
      clear hb hal hsb
      have i0 : (0 : Int) ≤ (i : Int) := by omega
      obtain ⟨s0, s1, s2, s3, s4⟩ := SB.out.cells
      by_cases h1 : (i : Int) < (xs.length : Int)
      · have hix : i < xs.length := by omega
        obtain ⟨a', c', hv, hP⟩ := HX.out.on HB.out
        obtain ⟨rfl, -⟩ : a = a' ∧ c = c' := by simpa using hv
        obtain ⟨b, off, ha, hlt, hcs⟩ := hP (by omega)
        subst ha
        obtain ⟨p0, p1, p2⟩ := hcs i hix
        have HSu := alB_succ xs i hix
        rw [HA.out, Bool.true_and] at HSu
        obtain ⟨x, hxe⟩ : ∃ x, x = xs[i] := ⟨_, rfl⟩
        rw [← hxe] at p0 p1 p2 HSu
        have HSU := Lib.hid HSu
        clear hcs hP hv hxe HSu
        go_upto_region 7 with fail
        have GB := Lib.hid (AlBlock.new wr x)
        have BA := (Below.refl wr.heap.size wr).alloc (Nat.le_refl _) (.cells #[.int .u8 (x.a.toNat : Nat), .int .u8 (x.b.toNat : Nat), .int .i64 x.c] 46)
        have BB := Lib.hid (HB.out.alloc HB.out.size (.cells #[.int .u8 (x.a.toNat : Nat), .int .u8 (x.b.toNat : Nat), .int .i64 x.c] 46))
        have SB2 := Lib.hid (SB.out.below BA)
        clear HB SB BA p0 p1 p2 s0 s1 s2 s3 s4
        generalize hgw : wr.alloc _ = w2 at *
        generalize hgg : wr.heap.size = g at *
        clear hgw hgg hlt
        obtain ⟨q0, q1, q2⟩ := GB.out.cells
        have U := u8_beq x.a x.b
        by_cases ho : okAl x = true
        · have hok : (x.a == x.b) = false ∧ letB (x.a.toNat : Nat) = true ∧ letB (x.b.toNat : Nat) = true ∧ costB x.c = true := by
            unfold okAl at ho
            simp only [Bool.and_eq_true, Bool.not_eq_true'] at ho
            exact ho
          obtain ⟨o1, o2, o3, o4⟩ := hok
          rw [ho, Bool.true_and] at HSU
          rw [o1] at U
          have L1 := fun W => RLetter_any (x.a.toNat : Nat) W
          have L2 := fun W => RLetter_any (x.b.toNat : Nat) W
          have L3 := fun W => RCost_any x.c W
          rw [o2] at L1
          rw [o3] at L2
          rw [o4] at L3
          clear ho o1 o2 o3 o4
          go_wp2_with (first | ((with_reducible refine (L1 _).mono ?_); rintro e w' ⟨rfl, rfl⟩) | ((with_reducible refine (L2 _).mono ?_); rintro e w' ⟨rfl, rfl⟩) | ((with_reducible refine (L3 _).mono ?_); rintro e w' ⟨rfl, rfl⟩))
          clear L1 L2 L3 q0 q1 q2
          go_loopw [5] (fun kv wr => ∃ k : Nat, kv = .int .i64 (k : Nat) ∧ k ≤ i ∧ freshB x (xs.take k) = true ∧ AlBlock wr g x ∧ SlBlock wr w.heap.size s (.slice (some ⟨b, off, none⟩) xs.length c) ∧ Below w.heap.size w wr) (fun kv _ => i - (intOf kv).toNat)
          case atStart => exact ⟨0, rfl, Nat.zero_le _, rfl, GB.out, SB2.out, BB.out⟩
          case round =>
            obtain ⟨k, rfl, hk, hfr, hgb, hsb, hb⟩ := hrel
            have HB := Lib.hid hb
            have HG := Lib.hid hgb
            have HF := Lib.hid hfr
            have HS := Lib.hid hsb
            clear hb hgb hfr hsb GB BB SB2
            have k0 : (0 : Int) ≤ (k : Int) := by omega
            by_cases h2 : (k : Int) < (i : Int)
            · have hkx : k < xs.length := by omega
              have hki : k < i := by omega
              have k3 : (k : Int) < (xs.length : Int) := by omega
              obtain ⟨a', c', hv, hP⟩ := HX.out.on HB.out
              obtain ⟨ha', -⟩ : (some ⟨b, off, none⟩ : Option Addr) = a' ∧ c = c' := by simpa using hv
              obtain ⟨b', off', ha, hlt, hcs⟩ := hP (by omega)
              rw [← ha'] at ha
              obtain ⟨rfl, rfl⟩ : b = b' ∧ off = off' := by simpa using ha
              obtain ⟨p0, p1, p2⟩ := hcs k hkx
              have HFS := fresh_succ x xs k hkx
              rw [HF.out, Bool.true_and] at HFS
              have HFN := fun (e : x.has (xs[k]).a (xs[k]).b = true) => fresh_no x xs i k (by omega) hki e
              obtain ⟨y, hye⟩ : ∃ y, y = xs[k] := ⟨_, rfl⟩
              rw [← hye] at p0 p1 p2 HFS HFN
              have HFS := Lib.hid HFS
              have HFN := Lib.hid HFN
              obtain ⟨s0, s1, s2, s3, s4⟩ := HS.out.cells
              clear hcs hP hv hye ha ha'
              go_upto_region 13 with fail
              have YB := Lib.hid (AlBlock.new wr y)
              have BA := (Below.refl wr.heap.size wr).alloc (Nat.le_refl _) (.cells #[.int .u8 (y.a.toNat : Nat), .int .u8 (y.b.toNat : Nat), .int .i64 y.c] 46)
              have HB2 := Lib.hid (HB.out.alloc HB.out.size (.cells #[.int .u8 (y.a.toNat : Nat), .int .u8 (y.b.toNat : Nat), .int .i64 y.c] 46))
              have HG2 := Lib.hid (HG.out.below BA)
              have HS2 := Lib.hid (HS.out.below BA)
              clear HB HG HS BA p0 p1 p2 s0 s1 s2 s3 s4
              generalize hgw : wr.alloc _ = w2 at *
              generalize hgg : wr.heap.size = g2 at *
              clear hgw hgg hlt
              obtain ⟨f0, f1, f2⟩ := HG2.out.cells
              obtain ⟨f3, f4, f5⟩ := YB.out.cells
              have U1 := u8_beq x.a y.a
              have U2 := u8_beq x.b y.b
              have U3 := u8_beq x.a y.b
              have U4 := u8_beq x.b y.a
              have HH : x.has y.a y.b = ((x.a == y.a && x.b == y.b) || (x.a == y.b && x.b == y.a)) := rfl
              generalize (x.a == y.a) = t1 at *
              generalize (x.b == y.b) = t2 at *
              generalize (x.a == y.b) = t3 at *
              generalize (x.b == y.a) = t4 at *
              by_cases he : x.has y.a y.b = true
              · have HD := Lib.hid (show validS s = false by
                  rw [HE.out]
                  exact alB_no xs (i + 1) (by rw [HSU.out]; exact HFN.out he) _ (by omega))
                rw [he] at HH
                clear he HFS HFN
                cases t1 <;> cases t2 <;> cases t3 <;> cases t4 <;> first | (exact absurd HH (by decide)) | skip
                all_goals
                  clear HH
                  go_wp2_with fail
                  go_ret
                  exact ⟨ret_bool HD.out.symm, HB2.out⟩
              · have he' : x.has y.a y.b = false := by simpa using he
                have HD := Lib.hid (show freshB x (xs.take (k + 1)) = true by rw [HFS.out, he']; rfl)
                rw [he'] at HH
                clear he he' HFS HFN
                cases t1 <;> cases t2 <;> cases t3 <;> cases t4 <;> first | (exact absurd HH (by decide)) | skip
                all_goals
                  clear HH
                  go_wp2_with fail
                  go_roundw
                  case rel => exact ⟨k + 1, by go_num, by omega, HD.out, HG2.out, HS2.out, HB2.out⟩
                  case measure => simp [intOf]; omega
            · have hki : k = i := by omega
              have HD := Lib.hid (show alB xs (i + 1) = true by rw [HSU.out, ← hki]; exact HF.out)
              clear hki
              go_wp2_with fail
              go_roundw
              case rel => exact ⟨i + 1, by go_num, by omega, HD.out, HS.out, HB.out⟩
              case measure => simp [intOf]; omega
        · have HD := Lib.hid (show validS s = false by
            rw [HE.out]
            refine alB_no xs (i + 1) ?_ _ (by omega)
            rw [HSU.out]
            have : okAl x = false := by simpa using ho
            rw [this]; rfl)
          have HO := Lib.hid ho
          clear ho HSU
          have L1 := fun W => RLetter_any (x.a.toNat : Nat) W
          have L2 := fun W => RLetter_any (x.b.toNat : Nat) W
          have L3 := fun W => RCost_any x.c W
          cases o2 : letB (x.a.toNat : Nat) with
          | false =>
            rw [o2] at L1
            clear o2
            go_wp2_with (((with_reducible refine (L1 _).mono ?_); rintro e w' ⟨rfl, rfl⟩))
            go_ret
            exact ⟨ret_bool HD.out.symm, BB.out⟩
          | true =>
            rw [o2] at L1
            cases o3 : letB (x.b.toNat : Nat) with
            | false =>
              rw [o3] at L2
              clear o2 o3
              go_wp2_with (first | ((with_reducible refine (L1 _).mono ?_); rintro e w' ⟨rfl, rfl⟩) | ((with_reducible refine (L2 _).mono ?_); rintro e w' ⟨rfl, rfl⟩))
              go_ret
              exact ⟨ret_bool HD.out.symm, BB.out⟩
            | true =>
              rw [o3] at L2
              cases o1 : (x.a == x.b) with
              | true =>
                rw [o1] at U
                clear o1 o2 o3
                go_wp2_with (first | ((with_reducible refine (L1 _).mono ?_); rintro e w' ⟨rfl, rfl⟩) | ((with_reducible refine (L2 _).mono ?_); rintro e w' ⟨rfl, rfl⟩))
                go_ret
                exact ⟨ret_bool HD.out.symm, BB.out⟩
              | false =>
                rw [o1] at U
                cases o4 : costB x.c with
                | false =>
                  rw [o4] at L3
                  clear o1 o2 o3 o4
                  go_wp2_with (first | ((with_reducible refine (L1 _).mono ?_); rintro e w' ⟨rfl, rfl⟩) | ((with_reducible refine (L2 _).mono ?_); rintro e w' ⟨rfl, rfl⟩) | ((with_reducible refine (L3 _).mono ?_); rintro e w' ⟨rfl, rfl⟩))
                  go_ret
                  exact ⟨ret_bool HD.out.symm, BB.out⟩
                | true => exact absurd (show okAl x = true by unfold okAl; rw [o1, o2, o3, o4]; rfl) HO.out
      · have HD := Lib.hid (show validS s = true by rw [HE.out, ← (show i = xs.length by omega)]; exact HA.out)
        go_wp2_with fail
        go_ret
        exact ⟨ret_bool HD.out.symm, HB.out⟩
  · have HO := Lib.hid (show validS s = false by rw [HV.out]; unfold alikeB; rw [decide_eq_false h20]; rfl)
    have h20i : (20 : Int) < (xs.length : Int) := by omega
    clear h20 HV
    go_enter Try.func21, Try.ntmps21
    go_upto_region 1 with fail
    generalize w.alloc _ = w1 at *
    obtain ⟨q0, q1, q2, q3, q4⟩ := SB.out.cells
    go_wp2_with (first | ((with_reducible refine (L1 _).mono ?_); rintro e w' ⟨rfl, rfl⟩) | ((with_reducible refine (L2 _).mono ?_); rintro e w' ⟨rfl, rfl⟩) | ((with_reducible refine (L3 _).mono ?_); rintro e w' ⟨rfl, rfl⟩) | ((with_reducible refine (L4 _).mono ?_); rintro e w' ⟨rfl, rfl⟩))
    go_ret
    exact ⟨ret_bool HO.out.symm, HB.out⟩
end Go.Proofs.Ytadaijepalhohaa

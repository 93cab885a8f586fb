/-
  The maker of schemes hands back a valid one.
-/
import Derived.Test.YtadaijepalhohabDoorGJ
import Derived.BigRegion
namespace Go.Proofs.YtadaijepalhohabDoor
open Go.RowKit
open Pl

theorem and_all' : (List.range 256).all (fun m => (List.range 256).all fun n => bits BinOp.and IntKind.u8 (m : Int) (n : Int) == ((m &&& n : Nat) : Int)) = true := by decide +kernel
theorem and_nat' (m n : Nat) (hm : m < 256) (hn : n < 256) : bits BinOp.and IntKind.u8 (m : Int) (n : Int) = ((m &&& n : Nat) : Int) := by
  have h := List.all_eq_true.1 (List.all_eq_true.1 and_all' m (List.mem_range.2 hm)) n (List.mem_range.2 hn)
  simpa using h
theorem SchBlock.put1 {W : World} {b : Nat} {c0 c1 c2 v : Value} (h : SchBlock W b c0 c1 c2) : SchBlock (W.setCell ⟨b, 1, none⟩ v) b c0 v c2 := by
  unfold SchBlock at h ⊢
  rw [heap_setCell_same W b 1 _ _ _ h]; rfl
theorem wrap_u8 (x : Int) (h0 : 0 ≤ x) (h1 : x < 256) : IntKind.u8.wrap x = x := by
  simp only [IntKind.wrap, IntKind.bits, IntKind.signed]
  first | (simp; omega) | omega
set_option maxHeartbeats 2000000 in
set_option maxRecDepth 100000 in
theorem FMadeS_any (M A : Nat) (ma : Option Addr) (mn mc : Nat) (w : World) (hM : M < 256) (hA : A < 256) (hx : TrisAt w w.heap.size (.slice ma mn mc) mn) (hl : mn ≤ maxLen) :
    Calls Tryd.prog 5 #[.agg #[.int .u8 (M : Nat), .int .u8 (A : Nat), .slice ma mn mc]] w (FMadeS w) := by
  have b1 := (Below.refl w.heap.size w).alloc (Nat.le_refl _) (.cells #[.int .u8 (M : Nat), .int .u8 (A : Nat), .slice ma mn mc] 24)
  have b2 := b1.alloc b1.size (.cells #[.int .i64 0, .int .u8 0, .slice none 0 0] 28)
  have r1 := (FRBlock.new w (.int .u8 (M : Nat)) (.int .u8 (A : Nat)) (.slice ma mn mc)).below ((Below.refl _ _).alloc (Nat.le_refl _) (.cells #[.int .i64 0, .int .u8 0, .slice none 0 0] 28))
  have q1 := SchBlock.new (w.alloc (.cells #[.int .u8 (M : Nat), .int .u8 (A : Nat), .slice ma mn mc] 24)) (.int .i64 0) (.int .u8 0) (.slice none 0 0)
  rw [World.size_alloc] at q1
  have hz : ((w.alloc (.cells #[.int .u8 (M : Nat), .int .u8 (A : Nat), .slice ma mn mc] 24)).alloc (.cells #[.int .i64 0, .int .u8 0, .slice none 0 0] 28)).heap.size = w.heap.size + 2 := by rw [World.size_alloc, World.size_alloc]
  have HX := Lib.hid hx
  have R1 := Lib.hid r1
  have Q1 := Lib.hid q1
  have B2 := Lib.hid b2
  obtain ⟨z0, z1, z2⟩ := r1.cells
  obtain ⟨m, hm⟩ : ∃ m : Nat, m = M % 5 + 1 := ⟨_, rfl⟩
  have hm1 : 1 ≤ m ∧ m ≤ 5 := by omega
  have ht : (M : Int).tmod 5 = ((M % 5 : Nat) : Int) := by rw [Int.tmod_eq_emod_of_nonneg (by omega)]; omega
  have hw1 : IntKind.i64.wrap ((M % 5 : Nat) : Int) = ((M % 5 : Nat) : Int) := IntWalk.i64_in _ (by omega)
  have hw2 : IntKind.i64.wrap (1 + ((M % 5 : Nat) : Int)) = (m : Int) := by rw [IntWalk.i64_in _ (by omega)]; omega
  have HMI := Lib.hid (show (1 : Int) + (M : Int) % 5 = (m : Int) by omega)
  clear hm
  clear hx r1 q1 b1 b2
  unfold maxLen at hl
  go_enter Tryd.func5, Tryd.ntmps5
  go_upto_region 1 with fail
  generalize (w.alloc _).alloc _ = x1 at *
  have NB := SchBlock.new x1 (.int .i64 0) (.int .u8 0) (.slice none 0 0)
  rw [hz] at NB
  have AL := Lib.hid ((Below.refl x1.heap.size x1).alloc (Nat.le_refl _) (.cells #[.int .i64 0, .int .u8 0, .slice none 0 0] 28))
  have hz2 : (x1.alloc (.cells #[.int .i64 0, .int .u8 0, .slice none 0 0] 28)).heap.size = w.heap.size + 3 := by rw [World.size_alloc, hz]
  go_upto_region 2 with (first | (refine wpList_store_sch rfl _ _ rfl _ _ _ _ NB rfl (m : Int) 0 none 0 0 (by rw [← HMI.out]; try rfl) ?_; intro W2 SB2 hg' hs'; clear NB))
  have hbb := AL.out.grown hg' AL.out.size (by simp; omega)
  have R2 := Lib.hid (R1.out.below hbb)
  have Q2 := Lib.hid (Q1.out.below hbb)
  have B3 := Lib.hid (B2.out.trans (hbb.mono B2.out.size))
  have S2 := Lib.hid SB2
  have hz3 : W2.heap.size = w.heap.size + 3 := by rw [hs', hz2]
  clear hbb hg' hs' AL SB2 R1 Q1 B2 z0 z1 z2 ht hw1 hw2 hz hz2
  obtain ⟨r0, r1, r2⟩ := R2.out.cells
  obtain ⟨s0, s1, s2⟩ := S2.out.cells
  have sf : W2.frozen? ⟨w.heap.size + 2, 1, none⟩ = false := by have h := S2.out; unfold SchBlock at h; simp [World.frozen?, h]
  have hp2 : (2 : Int) ^ m = ((2 ^ m : Nat) : Int) := by push_cast; rfl
  have hp3 : 2 ^ m ≤ 32 := by have := Nat.pow_le_pow_right (n := 2) (by decide) hm1.2; simpa using this
  have hp4 : 1 ≤ 2 ^ m := Nat.one_le_two_pow
  have hp5 : (2 : Int) ^ m % 256 = 2 ^ m := by rw [hp2]; omega
  obtain ⟨acc0, hacc0⟩ : ∃ a : Nat, a = A &&& (2 ^ m - 1) := ⟨_, rfl⟩
  have hand : bits BinOp.and IntKind.u8 (A : Int) ((2 : Int) ^ m - 1) = (acc0 : Int) := by
    have h := and_nat' A (2 ^ m - 1) hA (by omega)
    rw [hacc0, ← h, hp2]
    congr 1
    omega
  have hacc1 : acc0 < 2 ^ m := by rw [hacc0]; exact Nat.lt_of_le_of_lt Nat.and_le_right (by omega)
  have HACC := Lib.hid hacc0
  clear hacc0
  have hm0 : (0 : Int) ≤ (m : Int) := by omega
  have hwu : IntKind.u8.wrap ((2 : Int) ^ m - 1) = (2 : Int) ^ m - 1 := by
    rw [hp2]
    exact wrap_u8 _ (by omega) (by omega)
  have hwv : IntKind.u8.wrap ((2 : Int) ^ m) = (2 : Int) ^ m := by
    rw [hp2]
    exact wrap_u8 _ (by omega) (by omega)
  clear hp2 hp3 hp4
  refine wp_normal ?_
  refine wp_region_pick (C := fun W => W = W2.drew) [0, 1, 2, 3, 4, 5, 6, 7] [8] (fun j => decide (8 ≤ j)) (by kernel_rfl) (by kernel_rfl) (by kernel_rfl) rfl (by kernel_rfl) rfl (fun c d v a w h => by cases h.1) ?_
  refine hoistI_step (.pointer (some ⟨w.heap.size, 1, none⟩)) rfl (fun W hW => by go_simp) ?_
  refine hoistI_step (.int .u8 (A : Nat)) rfl (fun W hW => by rw [hW]; go_simp) ?_
  refine hoistI_step (.pointer (some ⟨w.heap.size + 2, 0, none⟩)) rfl (fun W hW => by go_simp) ?_
  refine hoistI_step (.int .i64 (m : Nat)) rfl (fun W hW => by rw [hW]; go_simp) ?_
  refine hoistI_step (.int .u8 ((2 : Int) ^ m)) rfl (fun W hW => by go_simp) ?_
  refine hoistI_step (.int .u8 ((2 : Int) ^ m - 1)) rfl (fun W hW => by go_simp) ?_
  refine hoistI_step (.int .u8 (acc0 : Nat)) rfl (fun W hW => by go_simp) ?_
  refine hoistI_step (.pointer (some ⟨w.heap.size + 2, 1, none⟩)) rfl (fun W hW => by go_simp) ?_
  refine hoistI_done (seqI_step ?_)
  refine wpOp_skip (w' := W2.drew.setCell ⟨w.heap.size + 2, 1, none⟩ (.int .u8 (acc0 : Nat))) rfl rfl (by go_simp) ⟨fun hh => absurd hh (by decide), seqI_done ⟨rfl, ?_⟩⟩
  have D2 := (Below.refl W2.heap.size W2).drew
  have S3 := Lib.hid ((S2.out.below D2).put1 (v := .int .u8 (acc0 : Nat)))
  have R3 := Lib.hid ((R2.out.below D2).setCell (b' := w.heap.size + 2) (o := 1) (u := .int .u8 (acc0 : Nat)) (by omega))
  have Q3 := Lib.hid ((Q2.out.below D2).setCellK (b' := w.heap.size + 2) (o := 1) (u := .int .u8 (acc0 : Nat)) (by omega))
  have B4 := Lib.hid ((B3.out.drew).setCell (p := ⟨w.heap.size + 2, 1, none⟩) (by simp) (.int .u8 (acc0 : Nat)))
  have hz4 : (W2.drew.setCell ⟨w.heap.size + 2, 1, none⟩ (.int .u8 (acc0 : Nat))).heap.size = w.heap.size + 3 := by simp [hz3]
  clear D2 S2 R2 Q2 B3 hz3 r0 r1 r2 s0 s1 s2 sf hand hwu hp5 hwv
  generalize W2.drew.setCell _ _ = x4 at *
  obtain ⟨acc, hacc⟩ : ∃ acc : Nat, acc = if acc0 = 0 then 1 else acc0 := ⟨_, rfl⟩
  have hacc2 : 1 ≤ acc ∧ acc < 2 ^ m := by
    rw [hacc]
    have hq : 2 ≤ 2 ^ m := by have := Nat.pow_le_pow_right (n := 2) (by decide) hm1.1; simpa using this
    split <;> omega
  have h256 : acc < 256 := by
    have hp3 : 2 ^ m ≤ 2 ^ 5 := Nat.pow_le_pow_right (by decide) hm1.2
    have : (2 : Nat) ^ 5 = 32 := by decide
    omega
  have HA2 := Lib.hid hacc
  obtain ⟨s0, s1, s2⟩ := S3.out.cells
  have sf : x4.frozen? ⟨w.heap.size + 2, 1, none⟩ = false := by have h := S3.out; unfold SchBlock at h; simp [World.frozen?, h]
  clear hacc hacc1
  go_upto_if 24 with fail
  go_cut [] (fun wx => SchBlock wx (w.heap.size + 2) (.int .i64 (m : Nat)) (.int .u8 (acc : Nat)) (.slice none 0 0) ∧ FRBlock wx w.heap.size (.int .u8 (M : Nat)) (.int .u8 (A : Nat)) (.slice ma mn mc) ∧ SchBlock wx (w.heap.size + 1) (.int .i64 0) (.int .u8 0) (.slice none 0 0) ∧ Below w.heap.size w wx ∧ wx.heap.size = w.heap.size + 3)
  case first =>
    have SP := S3.out.put1 (v := .int .u8 1)
    have RP := R3.out.setCell (b' := w.heap.size + 2) (o := 1) (u := .int .u8 1) (by omega)
    have QP := Q3.out.setCellK (b' := w.heap.size + 2) (o := 1) (u := .int .u8 1) (by omega)
    have BP := B4.out.setCell (p := ⟨w.heap.size + 2, 1, none⟩) (by simp) (.int .u8 1)
    by_cases hq : acc0 = 0
    · have hq1 : ((acc0 : Int) == 0) = true := by simp [hq]
      have HE := Lib.hid (show acc = 1 by rw [HA2.out, if_pos hq])
      have HS := Lib.hid SP
      have HR := Lib.hid RP
      have HQ := Lib.hid QP
      have HB := Lib.hid BP
      clear hq SP RP QP BP
      go_wp2_with fail
      go_meet
      exact ⟨by rw [HE.out]; exact HS.out, HR.out, HQ.out, HB.out, by simp [hz4]⟩
    · have hq1 : ((acc0 : Int) == 0) = false := by
        have : ¬ ((acc0 : Int) = 0) := by omega
        simpa using this
      have HE := Lib.hid (show acc = acc0 by rw [HA2.out, if_neg hq])
      clear hq SP RP QP BP
      go_wp2_with fail
      go_meet
      exact ⟨by rw [HE.out]; exact S3.out, R3.out, Q3.out, B4.out, hz4⟩
  case rest =>
    obtain ⟨g1, g2, g3, g4, g5⟩ := hcut
    have S4 := Lib.hid g1
    have R4 := Lib.hid g2
    have Q4 := Lib.hid g3
    have B5 := Lib.hid g4
    have hz5 := g5
    clear g1 g2 g3 g4 g5 S3 R3 Q3 B4 s0 s1 s2 sf hz4 HA2
    go_upto_region 6 with fail
    have T3 : TxBlock (wc.alloc (.cells #[.string ⟨#[]⟩, .string ⟨#[97]⟩, .string ⟨#[98]⟩, .string ⟨#[]⟩, .string ⟨#[99]⟩, .string ⟨#[97, 98]⟩] 9)) (w.heap.size + 3) insL := by
      have h := heap_alloc_new wc (.cells #[.string ⟨#[]⟩, .string ⟨#[97]⟩, .string ⟨#[98]⟩, .string ⟨#[]⟩, .string ⟨#[99]⟩, .string ⟨#[97, 98]⟩] 9)
      rw [hz5] at h
      exact h
    have al := (Below.refl wc.heap.size wc).alloc (Nat.le_refl _) (.cells #[.string ⟨#[]⟩, .string ⟨#[97]⟩, .string ⟨#[98]⟩, .string ⟨#[]⟩, .string ⟨#[99]⟩, .string ⟨#[97, 98]⟩] 9)
    have hz6 : (wc.alloc (.cells #[.string ⟨#[]⟩, .string ⟨#[97]⟩, .string ⟨#[98]⟩, .string ⟨#[]⟩, .string ⟨#[99]⟩, .string ⟨#[97, 98]⟩] 9)).heap.size = w.heap.size + 4 := by rw [World.size_alloc, hz5]
    have S5 := Lib.hid (S4.out.below al)
    have R5 := Lib.hid (R4.out.below al)
    have Q5 := Lib.hid (Q4.out.below al)
    have B6 := Lib.hid (B5.out.trans (al.mono B5.out.size))
    have HT3 := Lib.hid T3
    clear al S4 R4 Q4 B5 hz5 T3
    generalize wc.alloc _ = x5 at *
    go_upto_region 7 with fail
    have T4 : TxBlock (x5.alloc (.cells #[.string ⟨#[]⟩, .string ⟨#[97]⟩, .string ⟨#[66]⟩, .string ⟨#[49]⟩] 9)) (w.heap.size + 4) outsL := by
      have h := heap_alloc_new x5 (.cells #[.string ⟨#[]⟩, .string ⟨#[97]⟩, .string ⟨#[66]⟩, .string ⟨#[49]⟩] 9)
      rw [hz6] at h
      exact h
    have al := (Below.refl x5.heap.size x5).alloc (Nat.le_refl _) (.cells #[.string ⟨#[]⟩, .string ⟨#[97]⟩, .string ⟨#[66]⟩, .string ⟨#[49]⟩] 9)
    have hz7 : (x5.alloc (.cells #[.string ⟨#[]⟩, .string ⟨#[97]⟩, .string ⟨#[66]⟩, .string ⟨#[49]⟩] 9)).heap.size = w.heap.size + 5 := by rw [World.size_alloc, hz6]
    have MK := Lib.hid (show MkRel w m acc (.int .u8 (M : Nat)) (.int .u8 (A : Nat)) (.slice ma mn mc) 0 (x5.alloc (.cells #[.string ⟨#[]⟩, .string ⟨#[97]⟩, .string ⟨#[66]⟩, .string ⟨#[49]⟩] 9)) from
      ⟨[], none, 0, S5.out.below al, ⟨rfl, Or.inl ⟨rfl, rfl⟩⟩, frame_empty hm1.1 hm1.2 hacc2.1 hacc2.2, Nat.le_refl _, R5.out.below al, Q5.out.below al, HT3.out.below al, T4, B6.out.trans (al.mono B6.out.size), by rw [hz7]; exact Nat.le_refl _, fun x hx => by cases hx⟩)
    clear al S5 R5 Q5 B6 hz6 hz7 HT3 T4
    generalize x5.alloc _ = x6 at *
    go_wp2_with fail
    go_loopw [6] (fun iv wr => ∃ n : Nat, iv = .int .i64 (n : Nat) ∧ n ≤ 12 ∧ n ≤ mn ∧ MkRel w m acc (.int .u8 (M : Nat)) (.int .u8 (A : Nat)) (.slice ma mn mc) n wr) (fun iv _ => 12 - (intOf iv).toNat)
    case atStart => exact ⟨0, rfl, by omega, by omega, MK.out⟩
    case round =>
      obtain ⟨n, rfl, hn12, hnm, rs, va, vc, hsb, hown, hval, hrl, hrb, hqb, ht3, ht4, hb, hsz, hsm⟩ := hrel
      have SM := Lib.hid hsm
      have SB := Lib.hid hsb
      have HO := Lib.hid hown
      have HV := Lib.hid hval
      have RB := Lib.hid hrb
      have QB := Lib.hid hqb
      have TA := Lib.hid ht3
      have TB := Lib.hid ht4
      have HB := Lib.hid hb
      obtain ⟨s0, s1, s2⟩ := hsb.cells
      obtain ⟨r0, r1, r2⟩ := hrb.cells
      have n0 : (0 : Int) ≤ (n : Int) := by omega
      clear MK hown hval ht3 ht4 hsm
      by_cases h1 : n < mn
      · have h1' : (n : Int) < (mn : Int) := by omega
        by_cases h2 : n < 12
        · have h2' : (n : Int) < 12 := by omega
          obtain ⟨a0, c0, hv, hP⟩ := HX.out.on HB.out
          obtain ⟨rfl, -⟩ : ma = a0 ∧ mc = c0 := by simpa using hv
          obtain ⟨bb, oo, rfl, hbb, hc⟩ := hP (by omega)
          obtain ⟨X, Y, Z, ⟨hX, hY, hZ⟩, c1, c2, c3⟩ := hc n h1
          clear hv hP hc hsb hrb hqb hb
          go_upto_region 11 with fail
          obtain ⟨sN, hsN⟩ : ∃ q : Nat, q = X % m := ⟨_, rfl⟩
          obtain ⟨dN, hdN⟩ : ∃ q : Nat, q = Y % m := ⟨_, rfl⟩
          obtain ⟨i6, hi6⟩ : ∃ q : Nat, q = Z % 6 := ⟨_, rfl⟩
          obtain ⟨z6, hz6⟩ : ∃ q : Nat, q = Z / 6 := ⟨_, rfl⟩
          obtain ⟨o4, ho4⟩ : ∃ q : Nat, q = z6 % 4 := ⟨_, rfl⟩
          obtain ⟨c24, hc24⟩ : ∃ q : Nat, q = Z / 24 := ⟨_, rfl⟩
          have e1 : (X : Int).tmod (m : Int) = (sN : Int) := by rw [Int.tmod_eq_emod_of_nonneg (by omega), hsN, Int.natCast_emod]
          have e2 : (Y : Int).tmod (m : Int) = (dN : Int) := by rw [Int.tmod_eq_emod_of_nonneg (by omega), hdN, Int.natCast_emod]
          have e3 : (Z : Int).tmod 6 = (i6 : Int) := by rw [Int.tmod_eq_emod_of_nonneg (by omega)]; omega
          have e4 : (Z : Int) / 6 = (z6 : Int) := by omega
          have e5 : (z6 : Int).tmod 4 = (o4 : Int) := by rw [Int.tmod_eq_emod_of_nonneg (by omega)]; omega
          have e6 : (Z : Int) / 24 = (c24 : Int) := by omega
          have hs5 : sN < m := by rw [hsN]; exact Nat.mod_lt _ hm1.1
          have hd5 : dN < m := by rw [hdN]; exact Nat.mod_lt _ hm1.1
          have hi5 : i6 < 6 := by omega
          have ho5 : o4 < 4 := by omega
          have hc5 : c24 ≤ 1000 := by omega
          have hz5 : z6 < 256 := by omega
          obtain ⟨xi, hxi⟩ : ∃ l, l = insL[i6]'hi5 := ⟨_, rfl⟩
          obtain ⟨xo, hxo⟩ : ∃ l, l = outsL[o4]'ho5 := ⟨_, rfl⟩
          have hxi4 : xi.length ≤ 4 := by rw [hxi]; exact ins_at i6 hi5
          have HYS := Lib.hid (show xo.length ≤ 1 ∧ xi.head? ≠ some 122 from ⟨by rw [hxo]; exact outs_one o4 ho5, by rw [hxi]; exact ins_z i6 hi5⟩)
          have hxo4 : xo.length ≤ 4 := by rw [hxo]; exact outs_at o4 ho5
          have g1 : (0 : Int) ≤ (i6 : Int) := by omega
          have g2 : (i6 : Int) < 6 := by omega
          have g3 : (0 : Int) ≤ (o4 : Int) := by omega
          have g4 : (o4 : Int) < 4 := by omega
          have g5 : ¬ (m = 0) := by omega
          have w1 : IntKind.i64.wrap (X : Int) = (X : Int) := IntWalk.i64_in _ (by omega)
          have w2 : IntKind.i64.wrap (Y : Int) = (Y : Int) := IntWalk.i64_in _ (by omega)
          have w3 : IntKind.i64.wrap (z6 : Int) = (z6 : Int) := IntWalk.i64_in _ (by omega)
          have w4 : IntKind.i64.wrap (c24 : Int) = (c24 : Int) := IntWalk.i64_in _ (by omega)
          have w5 : IntKind.i64.wrap (sN : Int) = (sN : Int) := IntWalk.i64_in _ (by omega)
          have w6 : IntKind.i64.wrap (dN : Int) = (dN : Int) := IntWalk.i64_in _ (by omega)
          have FW := Lib.hid (show ∀ W, Below wr.heap.size wr W → W.cell? ⟨w.heap.size + 2, 0, none⟩ = some (.int .i64 (m : Nat)) ∧ W.cell? ⟨w.heap.size + 2, 2, none⟩ = some (.slice va rs.length vc) ∧ W.cell? ⟨w.heap.size, 2, none⟩ = some (.slice (some ⟨bb, oo, none⟩) mn mc) ∧ W.cell? ⟨bb, oo + n * 3, none⟩ = some (.int .u8 (X : Nat)) ∧ W.cell? ⟨bb, oo + n * 3 + 1, none⟩ = some (.int .u8 (Y : Nat)) ∧ W.cell? ⟨w.heap.size + 3, i6, none⟩ = some (.string (B xi)) ∧ W.cell? ⟨w.heap.size + 4, o4, none⟩ = some (.string (B xo)) from fun W hW =>
            ⟨(SB.out.below hW).cells.1, (SB.out.below hW).cells.2.2, (RB.out.below hW).cells.2.2, (hW.cell (p := ⟨bb, _, none⟩) hbb).trans c1, (hW.cell (p := ⟨bb, _, none⟩) hbb).trans c2, by rw [hxi]; exact (TA.out.below hW).cell i6 hi5, by rw [hxo]; exact (TB.out.below hW).cell o4 ho5⟩)
          have C3 := Lib.hid c3
          clear hsN hdN hi6 hz6 ho4 hc24 hxi hxo s0 s1 s2 r0 r1 r2 c1 c2 c3
          refine wp_normal ?_
          refine wp_region_pick (C := fun W => Below wr.heap.size wr W) [0, 1, 2, 3, 4, 5, 6, 7, 8, 9, 10, 11, 12, 13, 14, 15, 16, 17, 18, 19, 20, 21, 22, 23, 24, 25, 26, 27, 28, 29, 30, 31, 32, 33, 34, 35] [36, 37, 38, 39] (fun j => decide (37 ≤ j)) (by kernel_rfl) (by kernel_rfl) (by kernel_rfl) rfl (by kernel_rfl) (Below.refl _ _).drew (fun c d v a w h => by cases h.1) ?_
          refine hoistI_step (.pointer (some ⟨w.heap.size + 2, 2, none⟩)) rfl (fun W hW => by obtain ⟨f0, f1, f2, f3, f4, f5, f6⟩ := FW.out W hW; go_simp) ?_
          refine hoistI_step (.slice va rs.length vc) rfl (fun W hW => by obtain ⟨f0, f1, f2, f3, f4, f5, f6⟩ := FW.out W hW; go_simp) ?_
          refine hoistI_step (.pointer (some ⟨w.heap.size, 2, none⟩)) rfl (fun W hW => by obtain ⟨f0, f1, f2, f3, f4, f5, f6⟩ := FW.out W hW; go_simp) ?_
          refine hoistI_step (.slice (some ⟨bb, oo, none⟩) mn mc) rfl (fun W hW => by obtain ⟨f0, f1, f2, f3, f4, f5, f6⟩ := FW.out W hW; go_simp) ?_
          refine hoistI_step (.int .i64 (n : Nat)) rfl (fun W hW => by obtain ⟨f0, f1, f2, f3, f4, f5, f6⟩ := FW.out W hW; go_simp) ?_
          refine hoistI_step (.pointer (some ⟨bb, oo + n * 3, none⟩)) rfl (fun W hW => by obtain ⟨f0, f1, f2, f3, f4, f5, f6⟩ := FW.out W hW; go_simp) ?_
          refine hoistI_step (.pointer (some ⟨bb, oo + n * 3, none⟩)) rfl (fun W hW => by obtain ⟨f0, f1, f2, f3, f4, f5, f6⟩ := FW.out W hW; go_simp) ?_
          refine hoistI_step (.int .u8 (X : Nat)) rfl (fun W hW => by obtain ⟨f0, f1, f2, f3, f4, f5, f6⟩ := FW.out W hW; go_simp) ?_
          refine hoistI_step (.int .i64 (X : Nat)) rfl (fun W hW => by obtain ⟨f0, f1, f2, f3, f4, f5, f6⟩ := FW.out W hW; go_simp) ?_
          refine hoistI_step (.pointer (some ⟨w.heap.size + 2, 0, none⟩)) rfl (fun W hW => by obtain ⟨f0, f1, f2, f3, f4, f5, f6⟩ := FW.out W hW; go_simp) ?_
          refine hoistI_step (.int .i64 (m : Nat)) rfl (fun W hW => by obtain ⟨f0, f1, f2, f3, f4, f5, f6⟩ := FW.out W hW; go_simp) ?_
          refine hoistI_step (.int .i64 (sN : Nat)) rfl (fun W hW => by obtain ⟨f0, f1, f2, f3, f4, f5, f6⟩ := FW.out W hW; go_simp) ?_
          refine hoistI_step (.pointer (some ⟨w.heap.size, 2, none⟩)) rfl (fun W hW => by obtain ⟨f0, f1, f2, f3, f4, f5, f6⟩ := FW.out W hW; go_simp) ?_
          refine hoistI_step (.slice (some ⟨bb, oo, none⟩) mn mc) rfl (fun W hW => by obtain ⟨f0, f1, f2, f3, f4, f5, f6⟩ := FW.out W hW; go_simp) ?_
          refine hoistI_step (.int .i64 (n : Nat)) rfl (fun W hW => by obtain ⟨f0, f1, f2, f3, f4, f5, f6⟩ := FW.out W hW; go_simp) ?_
          refine hoistI_step (.pointer (some ⟨bb, oo + n * 3, none⟩)) rfl (fun W hW => by obtain ⟨f0, f1, f2, f3, f4, f5, f6⟩ := FW.out W hW; go_simp) ?_
          refine hoistI_step (.pointer (some ⟨bb, oo + n * 3 + 1, none⟩)) rfl (fun W hW => by obtain ⟨f0, f1, f2, f3, f4, f5, f6⟩ := FW.out W hW; go_simp) ?_
          refine hoistI_step (.int .u8 (Y : Nat)) rfl (fun W hW => by obtain ⟨f0, f1, f2, f3, f4, f5, f6⟩ := FW.out W hW; go_simp) ?_
          refine hoistI_step (.int .i64 (Y : Nat)) rfl (fun W hW => by obtain ⟨f0, f1, f2, f3, f4, f5, f6⟩ := FW.out W hW; go_simp) ?_
          refine hoistI_step (.pointer (some ⟨w.heap.size + 2, 0, none⟩)) rfl (fun W hW => by obtain ⟨f0, f1, f2, f3, f4, f5, f6⟩ := FW.out W hW; go_simp) ?_
          refine hoistI_step (.int .i64 (m : Nat)) rfl (fun W hW => by obtain ⟨f0, f1, f2, f3, f4, f5, f6⟩ := FW.out W hW; go_simp) ?_
          refine hoistI_step (.int .i64 (dN : Nat)) rfl (fun W hW => by obtain ⟨f0, f1, f2, f3, f4, f5, f6⟩ := FW.out W hW; go_simp) ?_
          refine hoistI_step (.slice (some ⟨w.heap.size + 3, 0, none⟩) 6 6) rfl (fun W hW => by obtain ⟨f0, f1, f2, f3, f4, f5, f6⟩ := FW.out W hW; go_simp) ?_
          refine hoistI_step (.int .i64 (Z : Nat)) rfl (fun W hW => by obtain ⟨f0, f1, f2, f3, f4, f5, f6⟩ := FW.out W hW; go_simp) ?_
          refine hoistI_step (.int .i64 (i6 : Nat)) rfl (fun W hW => by obtain ⟨f0, f1, f2, f3, f4, f5, f6⟩ := FW.out W hW; go_simp) ?_
          refine hoistI_step (.pointer (some ⟨w.heap.size + 3, i6, none⟩)) rfl (fun W hW => by obtain ⟨f0, f1, f2, f3, f4, f5, f6⟩ := FW.out W hW; go_simp) ?_
          refine hoistI_step (.string (B xi)) rfl (fun W hW => by obtain ⟨f0, f1, f2, f3, f4, f5, f6⟩ := FW.out W hW; go_simp) ?_
          refine hoistI_step (.slice (some ⟨w.heap.size + 4, 0, none⟩) 4 4) rfl (fun W hW => by obtain ⟨f0, f1, f2, f3, f4, f5, f6⟩ := FW.out W hW; go_simp) ?_
          refine hoistI_step (.int .i64 (Z : Nat)) rfl (fun W hW => by obtain ⟨f0, f1, f2, f3, f4, f5, f6⟩ := FW.out W hW; go_simp) ?_
          refine hoistI_step (.int .i64 (z6 : Nat)) rfl (fun W hW => by obtain ⟨f0, f1, f2, f3, f4, f5, f6⟩ := FW.out W hW; go_simp) ?_
          refine hoistI_step (.int .i64 (o4 : Nat)) rfl (fun W hW => by obtain ⟨f0, f1, f2, f3, f4, f5, f6⟩ := FW.out W hW; go_simp) ?_
          refine hoistI_step (.pointer (some ⟨w.heap.size + 4, o4, none⟩)) rfl (fun W hW => by obtain ⟨f0, f1, f2, f3, f4, f5, f6⟩ := FW.out W hW; go_simp) ?_
          refine hoistI_step (.string (B xo)) rfl (fun W hW => by obtain ⟨f0, f1, f2, f3, f4, f5, f6⟩ := FW.out W hW; go_simp) ?_
          refine hoistI_step (.int .i64 (Z : Nat)) rfl (fun W hW => by obtain ⟨f0, f1, f2, f3, f4, f5, f6⟩ := FW.out W hW; go_simp) ?_
          refine hoistI_step (.int .i64 (c24 : Nat)) rfl (fun W hW => by obtain ⟨f0, f1, f2, f3, f4, f5, f6⟩ := FW.out W hW; go_simp) ?_
          refine hoistI_step (.agg #[.int .i64 (sN : Nat), .int .i64 (dN : Nat), .string (B xi), .string (B xo), .int .i64 (c24 : Nat)]) rfl (fun W hW => by obtain ⟨f0, f1, f2, f3, f4, f5, f6⟩ := FW.out W hW; go_simp) ?_
          refine hoistI_done (seqI_step ?_)
          have D1 := (Below.refl wr.heap.size wr).drew
          have al := D1.alloc D1.size (.cells #[.int .i64 (sN : Nat), .int .i64 (dN : Nat), .string (B xi), .string (B xo), .int .i64 (c24 : Nat)] 31)
          refine wpOp_value (w' := wr.drew.alloc (.cells #[.int .i64 (sN : Nat), .int .i64 (dN : Nat), .string (B xi), .string (B xo), .int .i64 (c24 : Nat)] 31)) (.slice (some ⟨wr.drew.heap.size, 0, none⟩) 1 1) rfl rfl (by go_simp) ⟨fun _ => al, ?_⟩
          refine seqI_tail 37 _ (by rfl) (by kernel_rfl) (by decide) ?_
          simp only [List.drop_succ_cons, List.drop_zero]
          obtain ⟨i0, hi0, hz0, hz1, hz2⟩ := info_parts infoRl
          obtain ⟨y, hy⟩ : ∃ y : Rl, y = ⟨(sN : Int), (dN : Int), xi, xo, (c24 : Int)⟩ := ⟨_, rfl⟩
          have hnew := heap_alloc_new wr.drew (.cells #[.int .i64 (sN : Nat), .int .i64 (dN : Nat), .string (B xi), .string (B xo), .int .i64 (c24 : Nat)] 31)
          have NW : (wr.drew.alloc (.cells #[.int .i64 (sN : Nat), .int .i64 (dN : Nat), .string (B xi), .string (B xo), .int .i64 (c24 : Nat)] 31)).heap[wr.drew.heap.size]? = some (.cells (rlCells y).toArray 31 (0, 0)) := by rw [hy]; exact hnew
          have hal := al
          have hsize : wr.heap.size ≤ (wr.drew.alloc (.cells #[.int .i64 (sN : Nat), .int .i64 (dN : Nat), .string (B xi), .string (B xo), .int .i64 (c24 : Nat)] 31)).heap.size := al.size
          generalize wr.drew.alloc (.cells #[.int .i64 (sN : Nat), .int .i64 (dN : Nat), .string (B xi), .string (B xo), .int .i64 (c24 : Nat)] 31) = x9 at *
          generalize wr.drew.heap.size = gn at *
          have HO9 := Lib.hid (HO.out.later al)
          have SB9 := Lib.hid (SB.out.below al)
          have RB9 := Lib.hid (RB.out.below al)
          have QB9 := Lib.hid (QB.out.below al)
          have TA9 := Lib.hid (TA.out.below al)
          have TB9 := Lib.hid (TB.out.below al)
          have HB9 := Lib.hid (HB.out.trans (al.mono HB.out.size))
          have HY := Lib.hid hy
          have hrs : rs.length ≤ 12 := by omega
          clear al D1 hal hnew HO SB RB QB TA TB HB FW e1 e2 e3 e4 e5 e6 w1 w2 w3 w4 w5 w6 hy
          refine wpList_append_own _ rfl _ _ 26 rfl (w.heap.size + 5) 31 i0 _ 5 56 Tryd.underlying26 hi0 hz0 hz1 hz2 rfl (by decide) (.slice va rs.length vc) rs.length (rs.flatMap rlCells) (by go_simp) HO9.out ⟨gn, 0, none⟩ 1 1 (rlCells y) (by go_simp) rfl (World.news_of_block (cs := (rlCells y).toArray) (t := 31) (fr := (0, 0)) NW) (by simp [rlCells, Value.oneCell']) (by unfold maxLen; omega) (by omega) (by omega) ?_
          intro v2 w2 hown2 hgrow2 hnil2
          have HOE : RlsOwn w2 (w.heap.size + 5) v2 (rs ++ [y]) := by
            unfold RlsOwn
            rw [List.length_append, List.length_singleton, List.flatMap_append]
            simpa using hown2
          obtain ⟨g2b, cap2, rfl, hgb, hgl⟩ := hown2.form (by omega)
          have hrow : ∀ kx, (Value.slice va rs.length vc).ownBlock = some kx → w.heap.size + 5 ≤ kx := fun kx h => by
            refine Classical.byContradiction fun hn => ?_
            exact HO9.out.ne (k := kx) (by omega) h
          have nrow : ∀ kx, kx < w.heap.size + 5 → (Value.slice va rs.length vc).ownBlock ≠ some kx := fun kx h => HO9.out.ne h
          have SBA := (SB9.out.keptBy hgrow2 (nrow _ (by omega)))
          obtain ⟨t0, t1, t2⟩ := SBA.cells
          have tf := SBA.free
          have SB10 := Lib.hid (SBA.put2 (v := .slice (some ⟨g2b, 0, none⟩) (rs.length + 1) cap2))
          have RB10 := Lib.hid ((RB9.out.keptBy hgrow2 (nrow _ (by omega))).setCell (b' := w.heap.size + 2) (o := 2) (u := .slice (some ⟨g2b, 0, none⟩) (rs.length + 1) cap2) (by omega))
          have QB10 := Lib.hid ((QB9.out.keptBy hgrow2 (nrow _ (by omega))).setCellK (b' := w.heap.size + 2) (o := 2) (u := .slice (some ⟨g2b, 0, none⟩) (rs.length + 1) cap2) (by omega))
          have TA10 := Lib.hid ((TA9.out.keptBy hgrow2 (nrow _ (by omega))).setCell (b' := w.heap.size + 2) (o := 2) (u := .slice (some ⟨g2b, 0, none⟩) (rs.length + 1) cap2) (by omega))
          have TB10 := Lib.hid ((TB9.out.keptBy hgrow2 (nrow _ (by omega))).setCell (b' := w.heap.size + 2) (o := 2) (u := .slice (some ⟨g2b, 0, none⟩) (rs.length + 1) cap2) (by omega))
          have HB10 := Lib.hid ((HB9.out.grown hgrow2 HB9.out.size (fun kx h => by have := hrow kx h; omega)).setCell (p := ⟨w.heap.size + 2, 2, none⟩) (by simp) (.slice (some ⟨g2b, 0, none⟩) (rs.length + 1) cap2))
          have HO10 := Lib.hid (HOE.keep (W' := w2.setCell ⟨w.heap.size + 2, 2, none⟩ (.slice (some ⟨g2b, 0, none⟩) (rs.length + 1) cap2)) (fun g h1 h2 => heap_setCell_other w2 _ g _ (by show g ≠ w.heap.size + 2; omega)))
          have hz10 : w.heap.size + 5 ≤ (w2.setCell ⟨w.heap.size + 2, 2, none⟩ (.slice (some ⟨g2b, 0, none⟩) (rs.length + 1) cap2)).heap.size := by simp; omega
          clear SB9 RB9 QB9 TA9 TB9 HB9 HO9 hown2 hgrow2 hnil2 HOE hrow nrow SBA NW hi0 hz0 hz1 hz2
          go_upto_region 12 with fail
          clear t0 t1 t2 tf
          generalize w2.setCell _ _ = x10 at *
          obtain ⟨s0, s1, s2⟩ := SB10.out.cells
          have hl1 : (rs ++ [y]).length = rs.length + 1 := by simp
          have hsub : ((rs.length : Int) + 1 - 1) = (rs.length : Int) := by omega
          have hww : IntKind.i64.wrap (rs.length : Int) = (rs.length : Int) := IntWalk.i64_in _ (by omega)
          have hzy : ∀ x ∈ rs ++ [y], x.inp.length ≤ maxLen ∧ x.out.length ≤ maxLen := fun x hx => by
            rcases List.mem_append.1 hx with hx | hx
            · obtain ⟨kk, hkk, rfl⟩ := List.getElem_of_mem hx
              have h := ((valid_ok HV.out).2.2.2.2 kk hkk).1
              have h1 := h.i
              have h2 := h.o
              unfold maxLen
              omega
            · obtain rfl : x = y := by simpa using hx
              rw [HY.out]
              show xi.length ≤ maxLen ∧ xo.length ≤ maxLen
              unfold maxLen
              exact ⟨by omega, by omega⟩
          obtain ⟨aa, cc, hvv, hle, hat⟩ := HO10.out.at
          rw [hl1] at hvv hle
          obtain ⟨rfl, rfl⟩ : some (⟨g2b, 0, none⟩ : Addr) = aa ∧ cap2 = cc := by simpa using hvv
          have CR := Lib.hid (RRight_any (m : Int) (acc : Int) (some ⟨g2b, 0, none⟩) cap2 (rs ++ [y]) rs.length (by rw [hl1]; omega) x10 (by rw [hl1]; exact hat) (by rw [hl1]; unfold maxLen; omega) hzy ⟨by omega, by omega⟩)
          have hgy : (rs ++ [y])[rs.length]'(by rw [hl1]; omega) = y := by simp
          rw [hgy] at CR
          rw [hl1] at CR
          obtain ⟨bq, hbq⟩ : ∃ bq, bq = rightB (m : Int) (rs ++ [y]) rs.length y := ⟨_, rfl⟩
          rw [← hbq] at CR
          have HBQ := Lib.hid hbq
          have hcap : rs.length + 1 ≤ cap2 := hle
          clear hvv hat hzy hgy hbq hle
          go_wp2_with fail
          refine (CR.out).mono ?_
          rintro e x11 ⟨rfl, hb11⟩
          have SB11 := Lib.hid (SB10.out.below hb11)
          have RB11 := Lib.hid (RB10.out.below hb11)
          have QB11 := Lib.hid (QB10.out.below hb11)
          have TA11 := Lib.hid (TA10.out.below hb11)
          have TB11 := Lib.hid (TB10.out.below hb11)
          have HB11 := Lib.hid (HB10.out.trans (hb11.mono HB10.out.size))
          have HO11 := Lib.hid (HO10.out.later hb11)
          have hz11 : w.heap.size + 5 ≤ x11.heap.size := Nat.le_trans hz10 hb11.size
          clear hb11 CR SB10 RB10 QB10 TA10 TB10 HB10 HO10 s0 s1 s2 hz10
          obtain ⟨s0, s1, s2⟩ := SB11.out.cells
          cases bq with
          | true =>
            have HMK := Lib.hid (show MkRel w m acc (.int .u8 (M : Nat)) (.int .u8 (A : Nat)) (.slice (some ⟨bb, oo, none⟩) mn mc) (n + 1) x11 from
              ⟨rs ++ [y], some ⟨g2b, 0, none⟩, cap2, by rw [hl1]; exact SB11.out, by rw [hl1]; exact HO11.out, validB_add HV.out (by omega) HBQ.out.symm, by rw [hl1]; omega, RB11.out, QB11.out, TA11.out, TB11.out, HB11.out, hz11, SM.out.add (by rw [HY.out]; exact HYS.out)⟩)
            clear SB11 RB11 QB11 TA11 TB11 HB11 HO11 hl1
            go_wp2_with fail
            go_roundw
            case rel => exact ⟨n + 1, by go_num, by omega, by omega, HMK.out⟩
            case measure => simp [intOf]; omega
          | false =>
            have HCUT := RlsOwn.cut HO11.out
            have sf : x11.frozen? ⟨w.heap.size + 2, 2, none⟩ = false := SB11.out.free
            have HMK := Lib.hid (show MkRel w m acc (.int .u8 (M : Nat)) (.int .u8 (A : Nat)) (.slice (some ⟨bb, oo, none⟩) mn mc) (n + 1) (x11.setCell ⟨w.heap.size + 2, 2, none⟩ (.slice (some ⟨g2b, 0, none⟩) rs.length cap2)) from
              ⟨rs, some ⟨g2b, 0, none⟩, cap2, SB11.out.put2, HCUT.keep (fun g h1 h2 => heap_setCell_other x11 _ g _ (by show g ≠ w.heap.size + 2; omega)), HV.out, by omega, RB11.out.setCell (by omega), QB11.out.setCellK (by omega), TA11.out.setCell (by omega), TB11.out.setCell (by omega), HB11.out.setCell (p := ⟨w.heap.size + 2, 2, none⟩) (by simp) _, by simp; omega, SM.out⟩)
            have hle1 : (rs.length : Int) ≤ (cap2 : Int) := by omega
            have hr0 : (0 : Int) ≤ (rs.length : Int) := by omega
            clear SB11 RB11 QB11 TA11 TB11 HB11 HO11 hl1 HCUT
            go_wp2_with fail
            go_roundw
            case rel => exact ⟨n + 1, by go_num, by omega, by omega, HMK.out⟩
            case measure => simp [intOf]; omega
        · have h2' : ¬ (n : Int) < 12 := by omega
          have NB := QB.out
          have hlo := HO.out
          have HLO := Lib.hid hlo
          clear hlo r0 r1 hrb hqb hsb hb HX
          go_wp2_with (first | (refine wpList_store_sch rfl _ _ rfl _ _ _ _ NB rfl (m : Int) (acc : Int) va rs.length vc rfl ?_; intro W7 SB7 hg' hs'; clear NB))
          refine ret_sch rfl rfl rfl SB7 ?_
          exact ⟨m, acc, rs, va, vc, rfl, hm1, h256, HV.out, by omega, (HLO.out.keep (fun g h1 h2 => hg'.block g h2 (fun e => by simp at e; omega))).base (by omega), HB.out.grown hg' HB.out.size (by simp), SM.out⟩
      · have h1' : ¬ (n : Int) < (mn : Int) := by omega
        have NB := QB.out
        have hlo := HO.out
        have HLO := Lib.hid hlo
        clear hlo r0 r1 hrb hqb hsb hb HX
        go_wp2_with (first | (refine wpList_store_sch rfl _ _ rfl _ _ _ _ NB rfl (m : Int) (acc : Int) va rs.length vc rfl ?_; intro W7 SB7 hg' hs'; clear NB))
        refine ret_sch rfl rfl rfl SB7 ?_
        exact ⟨m, acc, rs, va, vc, rfl, hm1, h256, HV.out, by omega, (HLO.out.keep (fun g h1 h2 => hg'.block g h2 (fun e => by simp at e; omega))).base (by omega), HB.out.grown hg' HB.out.size (by simp), SM.out⟩
theorem FMade_any (M A : Nat) (ma : Option Addr) (mn mc : Nat) (w : World) (hM : M < 256) (hA : A < 256) (hx : TrisAt w w.heap.size (.slice ma mn mc) mn) (hl : mn ≤ maxLen) :
    Calls Tryd.prog 5 #[.agg #[.int .u8 (M : Nat), .int .u8 (A : Nat), .slice ma mn mc]] w (FMade w) :=
  (FMadeS_any M A ma mn mc w hM hA hx hl).mono (fun _ _ h => h.made)
end Go.Proofs.YtadaijepalhohabDoor

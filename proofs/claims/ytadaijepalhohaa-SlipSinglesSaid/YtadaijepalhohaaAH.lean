/-
  The function that puts makes.
-/
import Derived.Test.YtadaijepalhohaaAG
namespace Go.Proofs.Ytadaijepalhohaa
open Go.RowKit
open Pl

/-- The block of a pair that a function laid. -/
def PrBlock (W : World) (b : Nat) (m n : Nat) : Prop := W.heap[b]? = some (.cells #[.int .u8 (m : Nat), .int .u8 (n : Nat)] 80 (0, 0))
theorem PrBlock.new (w : World) (m n : Nat) : PrBlock (w.alloc (.cells #[.int .u8 (m : Nat), .int .u8 (n : Nat)] 80)) w.heap.size m n := heap_alloc_new w _
theorem PrBlock.below {W W' : World} {b m n : Nat} (h : PrBlock W b m n) (hb : Below W.heap.size W W') : PrBlock W' b m n := by
  have hlt := lt_of_heap h
  unfold PrBlock at h ⊢; rw [hb.block b hlt]; exact h
theorem PrBlock.cells {W : World} {b m n : Nat} (h : PrBlock W b m n) : W.cell? ⟨b, 0, none⟩ = some (.int .u8 (m : Nat)) ∧ W.cell? ⟨b, 1, none⟩ = some (.int .u8 (n : Nat)) := by
  unfold PrBlock at h
  refine ⟨?_, ?_⟩ <;> simp [World.cell?, h]
set_option maxHeartbeats 2000000 in
set_option maxRecDepth 100000 in
theorem puts1_any (s : Sl) (a : Option Addr) (c bp bl : Nat) (p q : UInt8) (w : World) (hp : PutsOk w s a c bp bl) (hl : s.alike.length ≤ 1000000) :
    Calls Try.prog 39 #[.int .u8 (p.toNat : Nat), .int .u8 (q.toNat : Nat), .pointer (some ⟨bp, 0, none⟩), .pointer (some ⟨bl, 0, none⟩)] w fun e w' => e = .returned (.int .i64 (putC s p q)) ∧ Below w.heap.size w w' := by
  have U := u8_beq p q
  have HP := Lib.hid hp
  clear hp
  by_cases hpq : p = q
  · have HE := Lib.hid (show putC s p q = 0 by rw [hpq, putC_self])
    rw [show (p == q) = true by simpa using hpq] at U
    clear hpq
    go_enter Try.func39, Try.ntmps39
    go_wp2_with fail
    go_ret
    exact ⟨by rw [HE.out]; rfl, Below.refl _ _⟩
  · have HE := Lib.hid (show putC s p q = firstC s.put p q s.alike by unfold putC; rw [if_neg hpq])
    rw [show (p == q) = false by simpa using hpq] at U
    clear hpq
    have C0 := pairOf_any p q w
    go_enter Try.func39, Try.ntmps39
    go_wp2_with fail
    refine C0.mono ?_
    rintro e w1 ⟨rfl, hb⟩
    have HB := Lib.hid hb
    have HP1 := Lib.hid (HP.out.below hb)
    clear hb HP C0
    go_upto_region 4 with fail
    have PB := Lib.hid (PrBlock.new w1 (min p.toNat q.toNat) (max p.toNat q.toNat))
    have BA := (Below.refl w1.heap.size w1).alloc (Nat.le_refl _) (.cells #[.int .u8 (min p.toNat q.toNat : Nat), .int .u8 (max p.toNat q.toNat : Nat)] 80)
    have HB2 := Lib.hid (HB.out.alloc HB.out.size (.cells #[.int .u8 (min p.toNat q.toNat : Nat), .int .u8 (max p.toNat q.toNat : Nat)] 80))
    have HP2 := Lib.hid (HP1.out.below BA)
    clear BA HP1 HB
    generalize hgw : w1.alloc _ = w2 at *
    generalize hgg : w1.heap.size = gp at *
    clear hgw hgg
    obtain ⟨h1, ⟨bb, h2, h3⟩, h4⟩ := HP2.out
    obtain ⟨cs, e1, e2, e3⟩ := h3
    have b0 := h2.cell 0
    have C3 := Lib.hid e1
    have L3 := Lib.hid e2
    have P3 := Lib.hid e3
    have S3 := Lib.hid h1
    have A3 := Lib.hid h4
    simp only [List.getElem?_cons_zero] at b0
    clear h1 h2 h4 e1 e2 e3
    go_wp2_with fail
    clear b0
    go_loopw [18] (fun iv wr => ∃ i : Nat, iv = .int .i64 (i : Nat) ∧ i ≤ s.alike.length ∧ firstC s.put p q s.alike = firstC s.put p q (s.alike.drop i) ∧ Below w2.heap.size w2 wr) (fun iv _ => s.alike.length - (intOf iv).toNat)
    case atStart => exact ⟨0, rfl, Nat.zero_le _, rfl, Below.refl _ _⟩
    case round =>
      obtain ⟨i, rfl, hi, hf, hb⟩ := hrel
      have HF := Lib.hid hf
      have HB := Lib.hid hb
      clear hf hb
      have i0 : (0 : Int) ≤ (i : Int) := by omega
      by_cases g1 : (i : Int) < (s.alike.length : Int)
      · have hix : i < s.alike.length := by omega
        obtain ⟨p0, p1⟩ := P3.out i hix hix
        have c0 := ((C3.out.below HB.out).cell (i * 2)).trans p0
        have c1 := ((C3.out.below HB.out).cell (i * 2 + 1)).trans p1
        obtain ⟨a', c', hv, hP⟩ := A3.out.on HB.out
        obtain ⟨ha', -⟩ : a = a' ∧ c = c' := by simpa using hv
        obtain ⟨b, off, ha, hlt, hcs⟩ := hP (by omega)
        rw [← ha'] at ha
        subst ha
        obtain ⟨-, -, p5⟩ := hcs i hix
        have hdr : s.alike.drop i = s.alike[i] :: s.alike.drop (i + 1) := List.drop_eq_getElem_cons hix
        obtain ⟨x, hxe⟩ : ∃ x, x = s.alike[i] := ⟨_, rfl⟩
        rw [← hxe] at c0 c1 p5 hdr
        have hF2 := HF.out
        rw [hdr] at hF2
        have EQ := fun W => eql_pair x p q W
        clear hcs hP hv hxe hdr p0 p1 hlt HF ha'
        go_upto_region 7 with fail
        have XB := Lib.hid (PrBlock.new wr (min x.a.toNat x.b.toNat) (max x.a.toNat x.b.toNat))
        have BA := (Below.refl wr.heap.size wr).alloc (Nat.le_refl _) (.cells #[.int .u8 (min x.a.toNat x.b.toNat : Nat), .int .u8 (max x.a.toNat x.b.toNat : Nat)] 80)
        have HBn := Lib.hid (HB.out.alloc HB.out.size (.cells #[.int .u8 (min x.a.toNat x.b.toNat : Nat), .int .u8 (max x.a.toNat x.b.toNat : Nat)] 80))
        have A5 := Lib.hid ((Below.cell BA (p := ⟨b, off + i * 3 + 2, none⟩) (by
          have := World.block_lt_of_cell? wr _ p5; exact this)).trans p5)
        clear BA HB c0 c1 p5
        generalize hgw : wr.alloc _ = w5 at *
        generalize hgg : wr.heap.size = gx at *
        clear hgw hgg
        obtain ⟨x0, x1⟩ := XB.out.cells
        obtain ⟨y0, y1⟩ := (PB.out.below HBn.out).cells
        obtain ⟨s0, s1, s2, s3, s4⟩ := (S3.out.below HBn.out).cells
        by_cases hh : x.has p q = true
        · rw [hh] at EQ
          have HO := Lib.hid (show putC s p q = min s.put x.c by rw [HE.out, hF2]; unfold firstC; rw [if_pos hh])
          clear hF2 hh
          clear x0 x1 y0 y1 s0 s1 s2 s3 s4
          obtain ⟨x0, x1⟩ := XB.out.cells
          obtain ⟨y0, y1⟩ := (PB.out.below HBn.out).cells
          rcases Int.lt_or_le s.put x.c with hm | hm
          · rw [show min s.put x.c = s.put by omega] at HO
            go_upto_region 8 with fail
            have FW := Lib.hid (show ∀ W, Below w5.heap.size w5 W → (W.cell? ⟨bl, 3, none⟩ = some (.int .i64 s.put) ∧ W.cell? ⟨bl, 4, none⟩ = some (.slice (some ⟨b, off, none⟩) s.alike.length c)) ∧ W.cell? ⟨b, off + i * 3 + 2, none⟩ = some (.int .i64 x.c) from fun W h => ⟨⟨((S3.out.below HBn.out).below h).cells.2.2.2.1, ((S3.out.below HBn.out).below h).cells.2.2.2.2⟩, (Below.cell h (p := ⟨b, off + i * 3 + 2, none⟩) (by have := World.block_lt_of_cell? w5 _ A5.out; exact this)).trans A5.out⟩)
            refine wp_normal ?_
            refine wp_region_class (C := fun W => Below w5.heap.size w5 W) (by kernel_rfl) (by kernel_rfl) (Below.refl _ _).drew ?_
            repeat (first | go_big_quiet_skip | (go_big_quiet_want; first | (go_big_quiet_op; go_big_quiet_on) | (refine quiet_value ?_ (fun W h => ?_) ?_; rotate_left; (· obtain ⟨⟨f0, f1⟩, f2⟩ := FW.out W h; go_simp; rfl); go_simp; go_big_quiet_on)))
            refine wpQuiet_nil ?_
            intro W h
            refine ⟨rfl, ?_⟩
            have HW := Lib.hid (HB2.out.trans ((HBn.out.trans (h.mono HBn.out.size)).mono HB2.out.size))
            clear h FW
            go_wp2_with fail
            all_goals
              go_ret
              exact ⟨ret_int (by rw [HO.out]; try omega), HW.out⟩
          · rw [show min s.put x.c = x.c by omega] at HO
            go_upto_region 8 with fail
            have FW := Lib.hid (show ∀ W, Below w5.heap.size w5 W → (W.cell? ⟨bl, 3, none⟩ = some (.int .i64 s.put) ∧ W.cell? ⟨bl, 4, none⟩ = some (.slice (some ⟨b, off, none⟩) s.alike.length c)) ∧ W.cell? ⟨b, off + i * 3 + 2, none⟩ = some (.int .i64 x.c) from fun W h => ⟨⟨((S3.out.below HBn.out).below h).cells.2.2.2.1, ((S3.out.below HBn.out).below h).cells.2.2.2.2⟩, (Below.cell h (p := ⟨b, off + i * 3 + 2, none⟩) (by have := World.block_lt_of_cell? w5 _ A5.out; exact this)).trans A5.out⟩)
            refine wp_normal ?_
            refine wp_region_class (C := fun W => Below w5.heap.size w5 W) (by kernel_rfl) (by kernel_rfl) (Below.refl _ _).drew ?_
            repeat (first | go_big_quiet_skip | (go_big_quiet_want; first | (go_big_quiet_op; go_big_quiet_on) | (refine quiet_value ?_ (fun W h => ?_) ?_; rotate_left; (· obtain ⟨⟨f0, f1⟩, f2⟩ := FW.out W h; go_simp; rfl); go_simp; go_big_quiet_on)))
            refine wpQuiet_nil ?_
            intro W h
            refine ⟨rfl, ?_⟩
            have HW := Lib.hid (HB2.out.trans ((HBn.out.trans (h.mono HBn.out.size)).mono HB2.out.size))
            clear h FW
            go_wp2_with fail
            all_goals
              go_ret
              exact ⟨ret_int (by rw [HO.out]; try omega), HW.out⟩
        · have hh' : x.has p q = false := by simpa using hh
          rw [hh'] at EQ
          have HO := Lib.hid (show firstC s.put p q s.alike = firstC s.put p q (s.alike.drop (i + 1)) by rw [hF2]; conv => lhs; unfold firstC
                                                                                                         rw [if_neg hh])
          clear hF2 hh hh' s0 s1 s2 s3 s4
          go_wp2_with fail
          go_roundw
          case rel => exact ⟨i + 1, by go_num, by omega, HO.out, HBn.out⟩
          case measure => simp [intOf]; omega
      · have HO := Lib.hid (show putC s p q = s.put by
          rw [HE.out, HF.out, show i = s.alike.length by omega, List.drop_length]; rfl)
        obtain ⟨s0, s1, s2, s3, s4⟩ := (S3.out.below HB.out).cells
        go_wp2_with fail
        go_ret
        exact ⟨ret_int HO.out.symm, HB2.out.trans (HB.out.mono HB2.out.size)⟩
end Go.Proofs.Ytadaijepalhohaa

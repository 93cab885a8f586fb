/-
  flaw.provesDead: whether a list is of dead rules, in their order.
-/
import Derived.Test.YtadaijepalhohabDoorFK
namespace Go.Proofs.YtadaijepalhohabDoor
open Go.RowKit
open Pl

/-- Whether a list of places rises, and p holds of the rules there. -/
def pdB (p : Rl → Bool) (rs : List Rl) : Int → List Int → Bool
  | _, [] => true
  | last, i :: r => if i ≤ last then false else if 0 ≤ i ∧ i < (rs.length : Int) then (match rs[i.toNat]? with | some x => p x && pdB p rs i r | none => false) else false
theorem pdB_low {p : Rl → Bool} {rs : List Rl} {last i : Int} {r : List Int} (h : i ≤ last) : pdB p rs last (i :: r) = false := by unfold pdB; rw [if_pos h]
theorem pdB_out {p : Rl → Bool} {rs : List Rl} {last i : Int} {r : List Int} (h : ¬ i ≤ last) (h2 : ¬ (0 ≤ i ∧ i < (rs.length : Int))) : pdB p rs last (i :: r) = false := by unfold pdB; rw [if_neg h, if_neg h2]
theorem pdB_in {p : Rl → Bool} {rs : List Rl} {last : Int} {k : Nat} {r : List Int} (h : ¬ (k : Int) ≤ last) (h2 : k < rs.length) : pdB p rs last ((k : Int) :: r) = (p rs[k] && pdB p rs k r) := by
  have e : rs[((k : Nat) : Int).toNat]? = some rs[k] := by rw [Int.toNat_natCast]; exact List.getElem?_eq_getElem h2
  rw [pdB, if_neg h, if_pos ⟨by omega, by omega⟩, e]

set_option maxHeartbeats 2000000 in
set_option maxRecDepth 100000 in
theorem PDead_any (m acc r l : Nat) (a b : Option Addr) (c d : Nat) (rs : List Rl) (xs : List Int) (w : World) (hr : r < 256) (hlv : l < 256) (hx : RlsAt w w.heap.size (.slice a rs.length c) rs) (hl : rs.length ≤ 100000) (h8 : ∀ x ∈ rs, In8 x)
    (hy : NumsAt w w.heap.size (.slice b xs.length d) xs) (hxl : xs.length ≤ maxLen) :
    Calls Tryd.prog 27 #[.agg #[.int .i64 (m : Nat), .int .u8 (acc : Nat), .slice a rs.length c], .agg #[.int .u8 (r : Nat), .int .u8 (l : Nat)], .slice b xs.length d] w fun e w' => e = .returned (.bool (pdB (deadK r l) rs (-1) xs)) ∧ Below w.heap.size w w' := by
  unfold maxLen at hxl
  have b1 := (Below.refl w.heap.size w).alloc (Nat.le_refl _) (.cells #[.int .i64 (m : Nat), .int .u8 (acc : Nat), .slice a rs.length c] 28)
  have b2 := b1.alloc b1.size (.cells #[.int .u8 (r : Nat), .int .u8 (l : Nat)] 51)
  have s1 := (SchBlock.new w (.int .i64 (m : Nat)) (.int .u8 (acc : Nat)) (.slice a rs.length c)).below ((Below.refl _ _).alloc (Nat.le_refl _) (.cells #[.int .u8 (r : Nat), .int .u8 (l : Nat)] 51))
  have k1 := KBlock.new (w.alloc (.cells #[.int .i64 (m : Nat), .int .u8 (acc : Nat), .slice a rs.length c] 28)) r l
  rw [World.size_alloc] at k1
  have HX := Lib.hid hx
  have HY := Lib.hid hy
  have H8 := Lib.hid h8
  have K1 := Lib.hid k1
  have S1 := Lib.hid s1
  have B2 := Lib.hid b2
  obtain ⟨P, hP0⟩ : ∃ P, P = pdB (deadK r l) rs (-1) xs := ⟨_, rfl⟩
  rw [← hP0]
  have HP0 := Lib.hid hP0
  clear hx hy h8 s1 k1 b1 b2 hP0
  go_enter Tryd.func27, Tryd.ntmps27
  go_upto_region 1 with fail
  generalize (w.alloc _).alloc _ = x1 at *
  go_wp2_with fail
  go_loopw [7, 12] (fun lv iv wr => ∃ (j : Nat) (last : Int), iv = .int .i64 (j : Nat) ∧ lv = .int .i64 last ∧ j ≤ xs.length ∧ P = pdB (deadK r l) rs last (xs.drop j) ∧ SchBlock wr w.heap.size (.int .i64 (m : Nat)) (.int .u8 (acc : Nat)) (.slice a rs.length c) ∧ KBlock wr (w.heap.size + 1) r l ∧ Below w.heap.size w wr) (fun _ iv _ => xs.length - (intOf iv).toNat)
  case atStart => exact ⟨0, -1, rfl, rfl, Nat.zero_le _, HP0.out, S1.out, K1.out, B2.out⟩
  case round =>
    obtain ⟨j, last, rfl, rfl, hj, hp, hs, hk, hb⟩ := hrel
    have HB := Lib.hid hb
    have KB := Lib.hid hk
    have SB := Lib.hid hs
    have HPE := Lib.hid hp
    clear hb hk hs hp HP0 S1 K1 B2
    have j0 : (0 : Int) ≤ (j : Int) := by omega
    by_cases h1 : (j : Int) < (xs.length : Int)
    · have hjx : j < xs.length := by omega
      obtain ⟨a', c', hv, hP⟩ := HY.out.on HB.out
      obtain ⟨rfl, -⟩ : b = a' ∧ d = c' := by simpa using hv
      obtain ⟨b1, o1, ha, -, hc⟩ := hP (by omega)
      subst ha
      have p1 := hc j hjx
      obtain ⟨i, hie⟩ : ∃ i, i = xs[j] := ⟨_, rfl⟩
      have hdr : xs.drop j = i :: xs.drop (j + 1) := by rw [List.drop_eq_getElem_cons hjx, hie]
      rw [← hie] at p1
      have HPE2 := HPE.out
      rw [hdr] at HPE2
      clear hc hP hv hie hdr HPE
      have FW := Lib.hid (show ∀ W, Below wr.heap.size wr W → (W.cell? ⟨w.heap.size, 0, none⟩ = some (.int .i64 (m : Nat)) ∧ W.cell? ⟨w.heap.size, 1, none⟩ = some (.int .u8 (acc : Nat)) ∧ W.cell? ⟨w.heap.size, 2, none⟩ = some (.slice a rs.length c)) ∧ (W.cell? ⟨w.heap.size + 1, 0, none⟩ = some (.int .u8 (r : Nat)) ∧ W.cell? ⟨w.heap.size + 1, 1, none⟩ = some (.int .u8 (l : Nat))) from fun W h => ⟨(SB.out.below h).cells, (KB.out.below h).cells⟩)
      have C1 : ∀ W, Below wr.heap.size wr W → Calls Tryd.prog 44 #[.agg #[.int .i64 (m : Nat), .int .u8 (acc : Nat), .slice a rs.length c], .int .i64 i] W fun e w' => e = .returned (.bool (decide (0 ≤ i) && decide (i < (rs.length : Int)))) ∧ Below wr.heap.size wr w' := fun W h => (isRule_any (m : Nat) (acc : Nat) a rs.length c i W).mono fun e w' h' => ⟨h'.1, h.trans (h'.2.mono h.size)⟩
      have HBE := Lib.hid (show ∀ W, Below wr.heap.size wr W → SchBlock W w.heap.size (.int .i64 (m : Nat)) (.int .u8 (acc : Nat)) (.slice a rs.length c) ∧ KBlock W (w.heap.size + 1) r l ∧ Below w.heap.size w W from fun W h => ⟨SB.out.below h, KB.out.below h, HB.out.trans (h.mono HB.out.size)⟩)
      by_cases h2 : i ≤ last
      · have HN := Lib.hid (HPE2.trans (pdB_low h2))
        have hd2 : decide (i ≤ last) = true := decide_eq_true h2
        clear HPE2 SB KB
        go_upto_region 5 with fail
        refine wp_normal ?_
        refine wp_region_class (C := fun W => Below wr.heap.size wr W) (by kernel_rfl) (by kernel_rfl) (Below.refl _ _).drew ?_
        repeat (first | go_big_quiet_skip | (go_big_quiet_want; first | (go_big_quiet_op; go_big_quiet_on) | (refine quiet_value ?_ (fun W h => ?_) ?_; rotate_left; (· obtain ⟨⟨f0, f1, f2⟩, f3, f4⟩ := FW.out W h; go_simp; rfl); go_simp; go_big_quiet_on) | (refine quiet_call _ _ _ (fun W => ?_) C1 ?_; (· go_simp; done); go_simp; go_big_quiet_on)))
        refine wpQuiet_nil ?_
        intro x' hcj
        have HE := Lib.hid (HBE.out x' hcj)
        clear hcj C1 FW HBE
        go_wp2_with fail
        go_ret
        exact ⟨by rw [HN.out]; rfl, HE.out.2.2⟩
      · have hd2 : decide (i ≤ last) = false := decide_eq_false h2
        by_cases h3 : 0 ≤ i ∧ i < (rs.length : Int)
        · obtain ⟨k, hk⟩ : ∃ k : Nat, i = (k : Int) := ⟨i.toNat, by omega⟩
          subst hk
          have hkr : k < rs.length := by omega
          have k0 : (0 : Int) ≤ (k : Int) := h3.1
          have k2 := h3.2
          have hb3 : (decide ((0 : Int) ≤ (k : Int)) && decide ((k : Int) < (rs.length : Int))) = true := by rw [decide_eq_true k0, decide_eq_true k2]; rfl
          rw [hb3] at C1
          have HPI := HPE2.trans (pdB_in h2 hkr)
          obtain ⟨x, hxe⟩ : ∃ x, x = rs[k] := ⟨_, rfl⟩
          have hx8 : In8 x := by rw [hxe]; exact H8.out _ (List.getElem_mem hkr)
          rw [← hxe] at HPI
          have FX := Lib.hid (show ∃ (bb oo : Nat), a = some ⟨bb, oo, none⟩ ∧ ∀ W, Below wr.heap.size wr W → W.cell? ⟨bb, oo + k * 5, none⟩ = some (.int .i64 x.src) ∧ W.cell? ⟨bb, oo + k * 5 + 1, none⟩ = some (.int .i64 x.dst) ∧ W.cell? ⟨bb, oo + k * 5 + 2, none⟩ = some (.string (B x.inp)) ∧ W.cell? ⟨bb, oo + k * 5 + 3, none⟩ = some (.string (B x.out)) ∧ W.cell? ⟨bb, oo + k * 5 + 4, none⟩ = some (.int .i64 x.cost) by
            obtain ⟨a', c', hv, hP⟩ := HX.out.on HB.out
            obtain ⟨rfl, -⟩ : a = a' ∧ c = c' := by simpa using hv
            obtain ⟨bb, oo, ha, hlt, hc⟩ := hP (by omega)
            refine ⟨bb, oo, ha, fun W h => ?_⟩
            have q := hc k hkr
            rw [← hxe] at q
            exact ⟨(h.cell (p := ⟨bb, _, none⟩) hlt).trans q.1, (h.cell (p := ⟨bb, _, none⟩) hlt).trans q.2.1, (h.cell (p := ⟨bb, _, none⟩) hlt).trans q.2.2.1, (h.cell (p := ⟨bb, _, none⟩) hlt).trans q.2.2.2.1, (h.cell (p := ⟨bb, _, none⟩) hlt).trans q.2.2.2.2⟩)
          obtain ⟨bb, oo, ha, FX2⟩ := FX.out
          subst ha
          have FY := Lib.hid FX2
          have C2 : ∀ W, Below wr.heap.size wr W → Calls Tryd.prog 35 #[.agg #[.int .u8 (r : Nat), .int .u8 (l : Nat)], rlV x] W fun e w' => e = .returned (.bool (deadK r l x)) ∧ Below wr.heap.size wr w' := fun W h => (kdead_any r l x hr hlv hx8.1 hx8.2 W).mono fun e w' h' => ⟨h'.1, h.trans (h'.2.mono h.size)⟩
          have hl5 := hl
          clear FX FX2 HPE2 SB KB h2 h3 hxe hx8
          cases hdk : deadK r l x with
          | true =>
            rw [hdk] at HPI C2
            rw [Bool.true_and] at HPI
            have HN := Lib.hid HPI
            clear HPI hdk
            go_upto_region 5 with fail
            refine wp_normal ?_
            refine wp_region_class (C := fun W => Below wr.heap.size wr W) (by kernel_rfl) (by kernel_rfl) (Below.refl _ _).drew ?_
            repeat (first | go_big_quiet_skip | (go_big_quiet_want; first | (go_big_quiet_op; go_big_quiet_on) | (refine quiet_value ?_ (fun W h => ?_) ?_; rotate_left; (· obtain ⟨⟨f0, f1, f2⟩, f3, f4⟩ := FW.out W h; obtain ⟨y0, y1, y2, y3, y4⟩ := FY.out W h; go_simp; rfl); go_simp; go_big_quiet_on) | (refine quiet_call _ _ _ (fun W => ?_) C1 ?_; (· go_simp; done); go_simp; go_big_quiet_on) | (refine quiet_call _ _ _ (fun W => ?_) C2 ?_; (· go_simp; done); go_simp; go_big_quiet_on)))
            refine wpQuiet_nil ?_
            intro x' hcj
            have HE := Lib.hid (HBE.out x' hcj)
            clear hcj C1 C2 FW FY HBE
            go_wp2_with fail
            go_roundw
            case rel => exact ⟨j + 1, (k : Int), by go_num, rfl, by omega, HN.out, HE.out.1, HE.out.2.1, HE.out.2.2⟩
            case measure => simp [intOf]; omega
          | false =>
            rw [hdk] at HPI C2
            rw [Bool.false_and] at HPI
            have HN := Lib.hid HPI
            clear HPI hdk
            go_upto_region 5 with fail
            refine wp_normal ?_
            refine wp_region_class (C := fun W => Below wr.heap.size wr W) (by kernel_rfl) (by kernel_rfl) (Below.refl _ _).drew ?_
            repeat (first | go_big_quiet_skip | (go_big_quiet_want; first | (go_big_quiet_op; go_big_quiet_on) | (refine quiet_value ?_ (fun W h => ?_) ?_; rotate_left; (· obtain ⟨⟨f0, f1, f2⟩, f3, f4⟩ := FW.out W h; obtain ⟨y0, y1, y2, y3, y4⟩ := FY.out W h; go_simp; rfl); go_simp; go_big_quiet_on) | (refine quiet_call _ _ _ (fun W => ?_) C1 ?_; (· go_simp; done); go_simp; go_big_quiet_on) | (refine quiet_call _ _ _ (fun W => ?_) C2 ?_; (· go_simp; done); go_simp; go_big_quiet_on)))
            refine wpQuiet_nil ?_
            intro x' hcj
            have HE := Lib.hid (HBE.out x' hcj)
            clear hcj C1 C2 FW FY HBE
            go_wp2_with fail
            go_ret
            exact ⟨by rw [HN.out]; rfl, HE.out.2.2⟩
        · have HN := Lib.hid (HPE2.trans (pdB_out h2 h3))
          have hb3 : (decide (0 ≤ i) && decide (i < (rs.length : Int))) = false := by
            rcases Classical.em (0 ≤ i) with q | q
            · rw [decide_eq_false (show ¬ i < (rs.length : Int) from fun e => h3 ⟨q, e⟩), Bool.and_false]
            · rw [decide_eq_false q]; rfl
          rw [hb3] at C1
          clear HPE2 SB KB h2 h3 hb3
          go_upto_region 5 with fail
          refine wp_normal ?_
          refine wp_region_class (C := fun W => Below wr.heap.size wr W) (by kernel_rfl) (by kernel_rfl) (Below.refl _ _).drew ?_
          repeat (first | go_big_quiet_skip | (go_big_quiet_want; first | (go_big_quiet_op; go_big_quiet_on) | (refine quiet_value ?_ (fun W h => ?_) ?_; rotate_left; (· obtain ⟨⟨f0, f1, f2⟩, f3, f4⟩ := FW.out W h; go_simp; rfl); go_simp; go_big_quiet_on) | (refine quiet_call _ _ _ (fun W => ?_) C1 ?_; (· go_simp; done); go_simp; go_big_quiet_on)))
          refine wpQuiet_nil ?_
          intro x' hcj
          have HE := Lib.hid (HBE.out x' hcj)
          clear hcj C1 FW HBE
          go_wp2_with fail
          go_ret
          exact ⟨by rw [HN.out]; rfl, HE.out.2.2⟩
    · have HN := Lib.hid (show P = true by rw [HPE.out, List.drop_eq_nil_of_le (by omega)]; rfl)
      go_wp2_with fail
      go_ret
      exact ⟨by rw [HN.out]; rfl, HB.out⟩
end Go.Proofs.YtadaijepalhohabDoor

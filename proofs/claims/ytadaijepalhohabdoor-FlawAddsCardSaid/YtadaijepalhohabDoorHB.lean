/-
  The reference's Dead.
-/
import Derived.Test.YtadaijepalhohabDoorTJ
import Derived.Test.YtadaijepalhohabDoorFG
import Derived.Test.YtadaijepalhohabDoorGC
namespace Go.Proofs.YtadaijepalhohabDoor
open Go.RowKit
open Pl

set_option maxHeartbeats 6000000 in
set_option maxRecDepth 100000 in
theorem RDead_any (m acc i : Nat) (a : Option Addr) (c : Nat) (rs : List Rl) (x : Rl) (w : World) (hm1 : 1 ≤ m) (hm8 : m ≤ 8) (hacc : acc < 256) (hx : RlsAt w w.heap.size (.slice a rs.length c) rs) (hl : rs.length ≤ 100000) (hr : ∀ x ∈ rs, InM m x) (hi : i < rs.length) (hxe : x = rs[i]) :
    Calls Tryd.prog 41 #[.agg #[.int .i64 (m : Nat), .int .u8 (acc : Nat), .slice a rs.length c], .int .i64 (i : Nat)] w fun e w' => e = .returned (.bool (!(rnds rStep rs m (2 ^ 0)).testBit x.src.toNat || !liveB m acc rs x.dst.toNat)) ∧ Below w.heap.size w w' := by
  have b1 := (Below.refl w.heap.size w).alloc (Nat.le_refl _) (.cells #[.int .i64 (m : Nat), .int .u8 (acc : Nat), .slice a rs.length c] 28)
  have k1 := SchBlock.new w (.int .i64 (m : Nat)) (.int .u8 (acc : Nat)) (.slice a rs.length c)
  obtain ⟨a', c', hv, hP⟩ := hx
  obtain ⟨rfl, -⟩ : a = a' ∧ c = c' := by simpa using hv
  obtain ⟨b, off, ha, hlt, hc⟩ := hP (by omega)
  subst ha
  have hx : RlsAt w w.heap.size (.slice (some ⟨b, off, none⟩) rs.length c) rs := ⟨_, _, hv, hP⟩
  obtain ⟨p0, p1, p2, p3, p4⟩ := hc i hi
  rw [← hxe] at p0 p1 p2 p3 p4
  have hx8 : InM m x := by rw [hxe]; exact hr _ (List.getElem_mem hi)
  obtain ⟨xs, xd, xi, xo, xc⟩ := x
  obtain ⟨⟨e0, e1⟩, e2, e3⟩ := hx8
  dsimp only at e0 e1 e2 e3 p0 p1
  obtain ⟨s, rfl⟩ : ∃ n : Nat, xs = (n : Int) := ⟨xs.toNat, by omega⟩
  obtain ⟨d, rfl⟩ : ∃ n : Nat, xd = (n : Int) := ⟨xd.toNat, by omega⟩
  have hsm : s < m := by omega
  have hdm : d < m := by omega
  obtain ⟨R, hR⟩ : ∃ R, R = (rnds rStep rs m (2 ^ 0)).testBit s := ⟨_, rfl⟩
  obtain ⟨L, hL⟩ : ∃ L, L = liveB m acc rs d := ⟨_, rfl⟩
  have HRES := Lib.hid (show (!(rnds rStep rs m (2 ^ 0)).testBit ((s : Int)).toNat || !liveB m acc rs ((d : Int)).toNat) = (!R || !L) by rw [hR, hL]; rfl)
  have HRR := Lib.hid hR
  have HLL := Lib.hid hL
  have CR := fun W (h : Below w.heap.size w W) => Lib.hid (Reached_any m acc 0 (some ⟨b, off, none⟩) c rs W hm1 hm8 (by omega) (hx.on h) (by unfold maxLen; omega) hr)
  have CL := fun W (h : Below w.heap.size w W) => Lib.hid (RLive_any m acc (some ⟨b, off, none⟩) c rs W hm1 hm8 hacc (hx.on h) (by unfold maxLen; omega) hr)
  have hgt : w.heap.size < (w.alloc (.cells #[.int .i64 (m : Nat), .int .u8 (acc : Nat), .slice (some ⟨b, off, none⟩) rs.length c] 28)).heap.size := by rw [World.size_alloc]; omega
  have B1 := Lib.hid b1
  have K1 := Lib.hid k1
  have P0 := Lib.hid p0
  have P1 := Lib.hid p1
  have HLT := Lib.hid hlt
  have i0 : (0 : Int) ≤ (i : Int) := by omega
  have il : (i : Int) < (rs.length : Int) := by omega
  have s0 : (0 : Int) ≤ (s : Int) := by omega
  have sl : (s : Int) < (m : Int) := by omega
  have d0 : (0 : Int) ≤ (d : Int) := by omega
  have dl : (d : Int) < (m : Int) := by omega
  clear hx hr b1 k1 hP hv hc p0 p1 p2 p3 p4 hxe hR hL hlt e0 e1 e2 e3
  go_enter Tryd.func41, Tryd.ntmps41
  go_upto_region 1 with fail
  generalize w.alloc _ = x1 at *
  have FW := Lib.hid (show ∀ W, Below x1.heap.size x1 W → (W.cell? ⟨w.heap.size, 0, none⟩ = some (.int .i64 (m : Nat)) ∧ W.cell? ⟨w.heap.size, 1, none⟩ = some (.int .u8 (acc : Nat)) ∧ W.cell? ⟨w.heap.size, 2, none⟩ = some (.slice (some ⟨b, off, none⟩) rs.length c)) ∧ W.cell? ⟨b, off + i * 5, none⟩ = some (.int .i64 (s : Int)) ∧ W.cell? ⟨b, off + i * 5 + 1, none⟩ = some (.int .i64 (d : Int)) from fun W h =>
    ⟨(K1.out.below h).cells, ((B1.out.trans (h.mono B1.out.size)).cell (p := ⟨b, _, none⟩) HLT.out).trans P0.out, ((B1.out.trans (h.mono B1.out.size)).cell (p := ⟨b, _, none⟩) HLT.out).trans P1.out⟩)
  have BB := fun W (h : Below x1.heap.size x1 W) => Lib.hid (B1.out.trans (h.mono B1.out.size))
  clear K1 P0 P1 HLT hgt
  refine wp_normal ?_
  refine held_start (S := fun W => Below x1.heap.size x1 W) 25 (by kernel_rfl) rfl ?_
  have S0 := (Below.refl x1.heap.size x1).drew
  refine held_take 0 (.agg #[.int .i64 (m : Nat), .int .u8 (acc : Nat), .slice (some ⟨b, off, none⟩) rs.length c]) rfl (by kernel_rfl) (by kernel_rfl) (by kernel_rfl) (fun c a w h => by cases h.1) (by kernel_rfl) (fun W hW => by obtain ⟨⟨f0, f1, f2⟩, f3, f4⟩ := FW.out W hW; go_simp) S0 ?_
  refine held_take 2 (.pointer (some ⟨w.heap.size, 2, none⟩)) rfl (by kernel_rfl) (by kernel_rfl) (by kernel_rfl) (fun c a w h => by cases h.1) (by kernel_rfl) (fun W hW => by obtain ⟨⟨f0, f1, f2⟩, f3, f4⟩ := FW.out W hW; go_simp) S0 ?_
  refine held_take 3 (.slice (some ⟨b, off, none⟩) rs.length c) rfl (by kernel_rfl) (by kernel_rfl) (by kernel_rfl) (fun c a w h => by cases h.1) (by kernel_rfl) (fun W hW => by obtain ⟨⟨f0, f1, f2⟩, f3, f4⟩ := FW.out W hW; go_simp) S0 ?_
  refine held_take 4 (.int .i64 (i : Nat)) rfl (by kernel_rfl) (by kernel_rfl) (by kernel_rfl) (fun c a w h => by cases h.1) (by kernel_rfl) (fun W hW => by obtain ⟨⟨f0, f1, f2⟩, f3, f4⟩ := FW.out W hW; go_simp) S0 ?_
  refine held_take 5 (.pointer (some ⟨b, off + i * 5, none⟩)) rfl (by kernel_rfl) (by kernel_rfl) (by kernel_rfl) (fun c a w h => by cases h.1) (by kernel_rfl) (fun W hW => by obtain ⟨⟨f0, f1, f2⟩, f3, f4⟩ := FW.out W hW; go_simp) S0 ?_
  refine held_take 6 (.pointer (some ⟨b, off + i * 5, none⟩)) rfl (by kernel_rfl) (by kernel_rfl) (by kernel_rfl) (fun c a w h => by cases h.1) (by kernel_rfl) (fun W hW => by obtain ⟨⟨f0, f1, f2⟩, f3, f4⟩ := FW.out W hW; go_simp) S0 ?_
  refine held_take 7 (.int .i64 (s : Int)) rfl (by kernel_rfl) (by kernel_rfl) (by kernel_rfl) (fun c a w h => by cases h.1) (by kernel_rfl) (fun W hW => by obtain ⟨⟨f0, f1, f2⟩, f3, f4⟩ := FW.out W hW; go_simp) S0 ?_
  refine held_call 1 7 #[.agg #[.int .i64 (m : Nat), .int .u8 (acc : Nat), .slice (some ⟨b, off, none⟩) rs.length c], .int .i64 0] rfl (by kernel_rfl) (by kernel_rfl) (by go_simp) (CR _ (BB _ S0).out).out ?_
  rintro e W1 ⟨lb, rfl, hbs, -, hb1⟩
  have S1 : Below x1.heap.size x1 W1 := S0.trans (hb1.mono S0.size)
  have hcell : W1.cell? ⟨lb, s, none⟩ = some (.bool R) := by
    have h := hbs.cell s (by rw [setL_len]; exact hsm)
    rw [setL_get m _ s hsm] at h
    rw [HRR.out]; exact h
  refine ⟨_, rfl, S1, ?_⟩
  clear hbs hb1 S0
  refine held_take 8 (.pointer (some ⟨lb, s, none⟩)) rfl (by kernel_rfl) (by kernel_rfl) (by kernel_rfl) (fun c a w h => by cases h.1) (by kernel_rfl) (fun W hW => by go_simp) S1 ?_
  refine held_value 9 (.bool R) rfl (by kernel_rfl) (by kernel_rfl) (by go_simp) S1 ?_
  refine held_take 10 (.bool (!R)) rfl (by kernel_rfl) (by kernel_rfl) (by kernel_rfl) (fun c a w h => by cases h.1) (by kernel_rfl) (fun W hW => by go_simp) S1 ?_
  refine held_take 11 (.bool (!R)) rfl (by kernel_rfl) (by kernel_rfl) (by kernel_rfl) (fun c a w h => by cases h.1) (by kernel_rfl) (fun W hW => by go_simp) S1 ?_
  clear hcell
  cases R with
  | false =>
    refine held_out 12 rfl (by kernel_rfl) (by kernel_rfl) (by kernel_rfl) (fun c a w h => by cases h.1) (by kernel_rfl) S1 ?_
    refine held_out 13 rfl (by kernel_rfl) (by kernel_rfl) (by kernel_rfl) (fun c a w h => by cases h.1) (by kernel_rfl) S1 ?_
    refine held_out 14 rfl (by kernel_rfl) (by kernel_rfl) (by kernel_rfl) (fun c a w h => by cases h.1) (by kernel_rfl) S1 ?_
    refine held_out 15 rfl (by kernel_rfl) (by kernel_rfl) (by kernel_rfl) (fun c a w h => by cases h.1) (by kernel_rfl) S1 ?_
    refine held_out 16 rfl (by kernel_rfl) (by kernel_rfl) (by kernel_rfl) (fun c a w h => by cases h.1) (by kernel_rfl) S1 ?_
    refine held_out 17 rfl (by kernel_rfl) (by kernel_rfl) (by kernel_rfl) (fun c a w h => by cases h.1) (by kernel_rfl) S1 ?_
    refine held_out 18 rfl (by kernel_rfl) (by kernel_rfl) (by kernel_rfl) (fun c a w h => by cases h.1) (by kernel_rfl) S1 ?_
    refine held_out 19 rfl (by kernel_rfl) (by kernel_rfl) (by kernel_rfl) (fun c a w h => by cases h.1) (by kernel_rfl) S1 ?_
    refine held_out 20 rfl (by kernel_rfl) (by kernel_rfl) (by kernel_rfl) (fun c a w h => by cases h.1) (by kernel_rfl) S1 ?_
    refine held_out 21 rfl (by kernel_rfl) (by kernel_rfl) (by kernel_rfl) (fun c a w h => by cases h.1) (by kernel_rfl) S1 ?_
    refine held_out 22 rfl (by kernel_rfl) (by kernel_rfl) (by kernel_rfl) (fun c a w h => by cases h.1) (by kernel_rfl) S1 ?_
    refine held_take 23 (.bool true) rfl (by kernel_rfl) (by kernel_rfl) (by kernel_rfl) (fun c a w h => by cases h.1) (by kernel_rfl) (fun W hW => by go_simp) S1 ?_
    refine held_take 24 (.bool true) rfl (by kernel_rfl) (by kernel_rfl) (by kernel_rfl) (fun c a w h => by cases h.1) (by kernel_rfl) (fun W hW => by go_simp) S1 ?_
    refine held_done (by kernel_rfl) ⟨rfl, ?_⟩
    have BF := BB W1 S1
    clear CR CL FW S1
    go_wp2_with fail
    go_ret
    exact ⟨by rw [HRES.out]; kernel_rfl, BF.out⟩
  | true =>
    refine held_take 12 (.agg #[.int .i64 (m : Nat), .int .u8 (acc : Nat), .slice (some ⟨b, off, none⟩) rs.length c]) rfl (by kernel_rfl) (by kernel_rfl) (by kernel_rfl) (fun c a w h => by cases h.1) (by kernel_rfl) (fun W hW => by obtain ⟨⟨f0, f1, f2⟩, f3, f4⟩ := FW.out W hW; go_simp) S1 ?_
    refine held_take 14 (.pointer (some ⟨w.heap.size, 2, none⟩)) rfl (by kernel_rfl) (by kernel_rfl) (by kernel_rfl) (fun c a w h => by cases h.1) (by kernel_rfl) (fun W hW => by obtain ⟨⟨f0, f1, f2⟩, f3, f4⟩ := FW.out W hW; go_simp) S1 ?_
    refine held_take 15 (.slice (some ⟨b, off, none⟩) rs.length c) rfl (by kernel_rfl) (by kernel_rfl) (by kernel_rfl) (fun c a w h => by cases h.1) (by kernel_rfl) (fun W hW => by obtain ⟨⟨f0, f1, f2⟩, f3, f4⟩ := FW.out W hW; go_simp) S1 ?_
    refine held_take 16 (.int .i64 (i : Nat)) rfl (by kernel_rfl) (by kernel_rfl) (by kernel_rfl) (fun c a w h => by cases h.1) (by kernel_rfl) (fun W hW => by obtain ⟨⟨f0, f1, f2⟩, f3, f4⟩ := FW.out W hW; go_simp) S1 ?_
    refine held_take 17 (.pointer (some ⟨b, off + i * 5, none⟩)) rfl (by kernel_rfl) (by kernel_rfl) (by kernel_rfl) (fun c a w h => by cases h.1) (by kernel_rfl) (fun W hW => by obtain ⟨⟨f0, f1, f2⟩, f3, f4⟩ := FW.out W hW; go_simp) S1 ?_
    refine held_take 18 (.pointer (some ⟨b, off + i * 5 + 1, none⟩)) rfl (by kernel_rfl) (by kernel_rfl) (by kernel_rfl) (fun c a w h => by cases h.1) (by kernel_rfl) (fun W hW => by obtain ⟨⟨f0, f1, f2⟩, f3, f4⟩ := FW.out W hW; go_simp) S1 ?_
    refine held_take 19 (.int .i64 (d : Int)) rfl (by kernel_rfl) (by kernel_rfl) (by kernel_rfl) (fun c a w h => by cases h.1) (by kernel_rfl) (fun W hW => by obtain ⟨⟨f0, f1, f2⟩, f3, f4⟩ := FW.out W hW; go_simp) S1 ?_
    refine held_call 13 6 #[.agg #[.int .i64 (m : Nat), .int .u8 (acc : Nat), .slice (some ⟨b, off, none⟩) rs.length c]] rfl (by kernel_rfl) (by kernel_rfl) (by go_simp) (CL _ (BB _ S1).out).out ?_
    rintro e W2 ⟨lb2, rfl, hbs, -, hb1⟩
    have S2 : Below x1.heap.size x1 W2 := S1.trans (hb1.mono S1.size)
    have hcell : W2.cell? ⟨lb2, d, none⟩ = some (.bool L) := by
      have h := hbs.cell d (by simp; omega)
      rw [HLL.out]
      simpa using h
    refine ⟨_, rfl, S2, ?_⟩
    clear hbs hb1 S1
    refine held_take 20 (.pointer (some ⟨lb2, d, none⟩)) rfl (by kernel_rfl) (by kernel_rfl) (by kernel_rfl) (fun c a w h => by cases h.1) (by kernel_rfl) (fun W hW => by go_simp) S2 ?_
    refine held_value 21 (.bool L) rfl (by kernel_rfl) (by kernel_rfl) (by go_simp) S2 ?_
    refine held_take 22 (.bool (!L)) rfl (by kernel_rfl) (by kernel_rfl) (by kernel_rfl) (fun c a w h => by cases h.1) (by kernel_rfl) (fun W hW => by go_simp) S2 ?_
    refine held_take 23 (.bool (!L)) rfl (by kernel_rfl) (by kernel_rfl) (by kernel_rfl) (fun c a w h => by cases h.1) (by kernel_rfl) (fun W hW => by go_simp) S2 ?_
    refine held_take 24 (.bool (!L)) rfl (by kernel_rfl) (by kernel_rfl) (by kernel_rfl) (fun c a w h => by cases h.1) (by kernel_rfl) (fun W hW => by go_simp) S2 ?_
    refine held_done (by kernel_rfl) ⟨rfl, ?_⟩
    have BF := BB W2 S2
    clear CR CL FW S2 hcell
    go_wp2_with fail
    go_ret
    exact ⟨by rw [HRES.out]; kernel_rfl, BF.out⟩
end Go.Proofs.YtadaijepalhohabDoor

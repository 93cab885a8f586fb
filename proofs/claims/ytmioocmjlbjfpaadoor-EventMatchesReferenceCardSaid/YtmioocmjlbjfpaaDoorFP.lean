/-
  The reference's fill at touches.
-/
import Derived.Test.YtmioocmjlbjfpaaDoorFI
import Derived.Deep.Onto
namespace Go.Proofs.YtmioocmjlbjfpaaDoor
open Go.RowKit
open Pl

set_option maxHeartbeats 4000000 in
set_option maxRecDepth 100000 in
theorem fill_3 (fs : List (List UInt8)) (v : Value) (w : World) (hx : StrsAt w w.heap.size v fs) (hl : ∀ f ∈ fs, f.length ≤ 1000000) (hm : fs.length ≤ 1000000) :
    Calls Tryd.prog 21 #[.int .i64 3, v] w (FiPost 3 fs w) := by
  obtain ⟨i0, hi0, hz0, hz1, hz2⟩ := info_parts info40
  have e1 : (w.alloc (.cells #[.int .i64 0, .string ⟨#[]⟩, .slice none 0 0, .string ⟨#[]⟩, .int .i64 0, .int .i64 0] 31)).heap.size = w.heap.size + 1 := World.size_alloc _ _
  have hA : Below w.heap.size w ((w.alloc (.cells #[.int .i64 0, .string ⟨#[]⟩, .slice none 0 0, .string ⟨#[]⟩, .int .i64 0, .int .i64 0] 31)).alloc (.cells #[.int .i64 3, .string ⟨#[]⟩, .slice none 0 0, .string ⟨#[]⟩, .int .i64 0, .int .i64 0] 31)) := ((Below.refl _ _).alloc (Nat.le_refl _) _).alloc (by rw [e1]; omega) _
  have R0 := Lib.hid (show FpRel w 3 fs 0 ((w.alloc (.cells #[.int .i64 0, .string ⟨#[]⟩, .slice none 0 0, .string ⟨#[]⟩, .int .i64 0, .int .i64 0] 31)).alloc (.cells #[.int .i64 3, .string ⟨#[]⟩, .slice none 0 0, .string ⟨#[]⟩, .int .i64 0, .int .i64 0] 31)) from ⟨hA, (EvBlock.new w _ _ _ _ _ _).alloc _, [], none, 0, rfl, Nat.zero_le _, rfl, (by
    have h := EvBlock.new (w.alloc (.cells #[.int .i64 0, .string ⟨#[]⟩, .slice none 0 0, .string ⟨#[]⟩, .int .i64 0, .int .i64 0] 31)) (.int .i64 3) (.string ⟨#[]⟩) (.slice none 0 0) (.string ⟨#[]⟩) (.int .i64 0) (.int .i64 0)
    rwa [e1] at h), OwnsP.nil _ _⟩)
  have HX := Lib.hid hx
  have HL := Lib.hid hl
  obtain ⟨va, vc, rfl, -⟩ := hx
  clear e1 hA hl
  go_enter Tryd.func21, Tryd.ntmps21
  go_upto_block 1 with fail
  generalize (w.alloc (.cells #[.int .i64 0, .string ⟨#[]⟩, .slice none 0 0, .string ⟨#[]⟩, .int .i64 0, .int .i64 0] 31)).alloc (.cells #[.int .i64 3, .string ⟨#[]⟩, .slice none 0 0, .string ⟨#[]⟩, .int .i64 0, .int .i64 0] 31) = w2 at *
  go_wp2_with fail
  go_loopw [6] (fun i wr => ∃ j : Nat, i = .int .i64 j ∧ FpRel w 3 fs j wr) (fun i _ => fs.length - (intOf i).toNat)
  case atStart => exact ⟨0, rfl, R0.out⟩
  case round =>
    obtain ⟨j, rfl, hb, h4, ps, oa, oc, hj, hjl, hps, hE, hO⟩ := hrel
    have hsr : w.heap.size + 1 < wr.heap.size := hE.lt
    have hpl : ps.length ≤ 1000000 := by omega
    by_cases hlt : j + 1 < fs.length
    · obtain ⟨a', c', hv, hc⟩ := HX.out
      obtain ⟨rfl, -⟩ : va = a' ∧ vc = c' := by simpa using hv
      obtain ⟨g, off, rfl, hg, hc⟩ := hc (by omega)
      have hc0 : wr.cell? ⟨g, off + j, none⟩ = some (.string (B (fs[j]'(by omega)))) := (hb.cell (p := ⟨g, off + j, none⟩) hg).trans (hc j (by omega))
      have hc1 : wr.cell? ⟨g, off + (j + 1), none⟩ = some (.string (B fs[j + 1])) := (hb.cell (p := ⟨g, off + (j + 1), none⟩) hg).trans (hc (j + 1) hlt)
      have hc1' : wr.cell? ⟨g, off + j + 1, none⟩ = some (.string (B fs[j + 1])) := hc1
      have CN := fun W => Lib.hid (num_B (fs[j]'(by omega)) (HL.out _ (List.getElem_mem _)) W)
      have CQ := fun W => Lib.hid (num_B fs[j + 1] (HL.out _ (List.getElem_mem _)) W)
      have hpn := hps
      rw [ptsOf_two hlt] at hpn
      generalize fs[j]'(by omega) = sa at *
      generalize fs[j + 1] = sb at *
      generalize numS sa = x at *
      generalize numS sb = y at *
      subst hj
      have hce := hE.cells.2.2.1
      have hfe := hE.free.2.2.1
      have hn : ps.length + 1 ≤ maxLen := by unfold maxLen; omega
      have hby : (ps.length + 1) * 16 ≤ 140737488355328 := by omega
      have hag := Lib.hid (show (Value.slice oa ps.length oc).ownBlock ≠ some (w.heap.size + 1) from fun e => by have := own_block hO _ e; omega)
      have hix : ((2 * ps.length : Nat) : Int) < (fs.length : Int) := by omega
      have hix1 : ((2 * ps.length : Nat) : Int) + 1 < (fs.length : Int) := by omega
      have hi0' : (0 : Int) ≤ ((2 * ps.length : Nat) : Int) := by omega
      have hi1' : (0 : Int) ≤ ((2 * ps.length : Nat) : Int) + 1 := by omega
      have hpnH := Lib.hid hpn
      have hH := Lib.hid hb
      have hH4 := Lib.hid h4
      have hHE := Lib.hid hE
      have hHO := Lib.hid hO
      have hltH := Lib.hid hlt
      clear hps hpn hc hv hb h4 hE hO hg
      generalize hjj : 2 * ps.length = j at *
      have hjH := Lib.hid hjj
      clear hjj
      have hw1 : IntKind.i64.wrap ((j : Int) + 1) = (j : Int) + 1 := IntWalk.i64_in _ (by omega)
      have hw2 : ((j : Int) + 1).toNat = j + 1 := by omega
      go_wp2_with fail
      go_region_law
        (first
          | (refine step_append_lies _ (by rfl) _ _ _ (by rfl) (w.heap.size + 2) 40 i0 _ 2 16 Tryd.underlying29 hi0 hz0 hz1 hz2 rfl (by omega) (.slice oa ps.length oc) ps.length (ptCells ps) (by rfl) ((World.ownsRow.alloc hHO.out _).drew) ⟨wr.heap.size, 0, none⟩ 1 1 [.int .i64 x, .int .i64 y] (by rfl) (by rfl) (World.news_of_block (cs := #[.int .i64 x, .int .i64 y]) (t := 40) (fr := (0, 0)) (heap_alloc_new wr _)) (by simp [Value.oneCell']) (by omega) hn hby (by simp; omega) (wr.heap.size + 1) (by simp) ?_; intro gg cap' w3 hown2 hgrow hat hlt2; have hfz : w3.frozen? ⟨w.heap.size + 1, 2, none⟩ = false := (hgrow.frozen_far _ (by simp; omega) (Ne.symm hag.out)).trans (by rw [World.frozen?_drew]; exact (World.frozen?_alloc_past _ _ _ hsr).trans hfe); have hcz : w3.cell? ⟨w.heap.size + 1, 2, none⟩ = some (.slice oa ps.length oc) := (hgrow.cell_far _ (by simp; omega) (Ne.symm hag.out)).trans (by rw [World.cell?_drew]; exact (World.cell?_alloc_past _ _ _ hsr).trans hce))
          | (go_simp; first
            | (go_at_call_of 39 (Value.string (B sa)); refine ((CN _).out).mono ?_; rintro e w' ⟨rfl, rfl⟩)
            | (go_at_call_of 39 (Value.string (B sb)); refine ((CQ _).out).mono ?_; rintro e w' ⟨rfl, rfl⟩)))
      all_goals
        have hPR := Lib.hid (FpRel.step hH.out hH4.out hHE.out hHO.out hjH.out hltH.out hpnH.out hown2 hgrow)
        clear hown2 hgrow hat hlt2 hfz hcz hw1 hw2 hc0 hc1 hc1' hce hfe
        generalize w3.setCell _ _ = w4 at *
        go_wp2_with fail
        go_roundw
        case rel => exact ⟨j + 2, by go_num, hPR.out⟩
        case measure => have := hltH.out; simp [intOf]; omega
    · have hnj : ¬ (j : Int) + 1 < (fs.length : Int) := by omega
      have hp : ptsOf fs = ps := by rw [hps, ptsOf_short (by rw [List.length_drop]; omega), List.append_nil]
      have HO := Lib.hid hO
      have HB := Lib.hid hb
      have H4 := Lib.hid h4
      have hwm : IntKind.i64.wrap ((j : Int) + 1) = (j : Int) + 1 := IntWalk.i64_in _ (by omega)
      obtain ⟨c0, c1, c2, c3, c4, c5⟩ := hE.cells
      have HP := Lib.hid (show fillS 3 fs = ⟨3, [], ps, [], 0, 0⟩ by show (⟨_, _, ptsOf fs, _, _, _⟩ : Ev) = _; rw [hp]; rfl)
      clear hp hps hO hb h4 hE
      go_wp2_with (first | (refine wpList_store_ev rfl _ _ rfl _ _ _ _ _ _ _ H4.out rfl _ _ _ _ _ _ _ _ rfl ?_; intro W' hB' hg' hs'))
      refine ret_ev1 rfl rfl rfl hB' ?_
      exact FiPost.pts HP.out (World.ownsRow.mono (HO.out.grown hg' (by omega)) (by omega)) (HB.out.grown hg' HB.out.size (by simp))
end Go.Proofs.YtmioocmjlbjfpaaDoor

/-
  event.readPoints: the points of a rest.
-/
import Derived.Test.YtmioocmjlbjfpaaDoorF
import Derived.Deep.RegionLaw
import Derived.Deep.AppendLies
import Derived.IntWalk
namespace Go.Proofs.YtmioocmjlbjfpaaDoor
open Go.RowKit
open Pl

theorem info40 : (Tryd.prog.info? 40).map (fun i => (i.zero, i.size, i.bytes)) = some (some (.agg #[.int .i64 0, .int .i64 0]), 2, 16) := by kernel_rfl

def rdPointsOf : Option (List Nat) → Option Ev
  | none => none
  | some xs => if xs.length % 2 = 0 then some { Ev.zero with p := pairs xs } else none
theorem rdPointsOf_no {xs : List Nat} (h : xs.length % 2 ≠ 0) : rdPointsOf (some xs) = none := by simp [rdPointsOf, h]
theorem rdPointsOf_yes {xs : List Nat} (h : xs.length % 2 = 0) : rdPointsOf (some xs) = some { Ev.zero with p := pairs xs } := by simp [rdPointsOf, h]
theorem pairs_snoc : ∀ (xs : List Nat), xs.length % 2 = 0 → ∀ (a b : Nat), pairs (xs ++ [a, b]) = pairs xs ++ [((a : Int), (b : Int))]
  | [], _, _, _ => rfl
  | [_], h, _, _ => by simp at h
  | x :: y :: r, h, a, b => by
    have h' : r.length % 2 = 0 := by simp at h; omega
    simp [pairs, pairs_snoc r h' a b]
theorem pairs_length : ∀ (xs : List Nat), xs.length % 2 = 0 → 2 * (pairs xs).length = xs.length
  | [], _ => rfl
  | [_], h => by simp at h
  | x :: y :: r, h => by
    have h' : r.length % 2 = 0 := by simp at h; omega
    have := pairs_length r h'
    simp [pairs]; omega
theorem take_two (xs : List Nat) (j : Nat) (h : j + 1 < xs.length) : xs.take (j + 2) = xs.take j ++ [xs[j], xs[j + 1]] := by
  have e1 := List.take_succ_eq_append_getElem h
  have e2 := List.take_succ_eq_append_getElem (show j < xs.length by omega)
  rw [e2, List.append_assoc] at e1
  exact e1
theorem OwnsP.base {W : World} {b b' : Nat} {v : Value} {ps : List (Int × Int)} (h : OwnsP W b v ps) (hb : b' ≤ b) : OwnsP W b' v ps := by
  refine ⟨h.1, ?_⟩
  rcases h.2 with h | ⟨g, cap, cur, hv, hg, r⟩
  · exact Or.inl h
  · exact Or.inr ⟨g, cap, cur, hv, Nat.le_trans hb hg, r⟩
theorem OwnsP.ne {W : World} {b : Nat} {v : Value} {ps : List (Int × Int)} (h : OwnsP W b v ps) {k : Nat} (hk : k < b) : v.ownBlock ≠ some k := by
  intro e
  have := own_block h k e
  omega
theorem OwnsP.grown {W W' : World} {b : Nat} {v : Value} {ps : List (Int × Int)} (h : OwnsP W b v ps) {k : Nat} (hg : W.grownBy W' (some k)) (hk : k < b) : OwnsP W' b v ps := by
  refine World.ownsRow.kept h hg ?_
  cases e : v.ownBlock with
  | none => exact Or.inl rfl
  | some q => exact Or.inr (by have := own_block h q e; intro e2; cases e2; omega)
theorem ptCells_snoc (ps : List (Int × Int)) (a b : Int) : ptCells (ps ++ [(a, b)]) = ptCells ps ++ [.int .i64 a, .int .i64 b] := by simp [ptCells]
theorem ptCells_length (ps : List (Int × Int)) : (ptCells ps).length = ps.length * 2 := by
  induction ps with
  | nil => rfl
  | cons a r ih => simp [ptCells] at ih ⊢; omega

/-- At each round's head. -/
def PtRel (w1 : World) (xs : List Nat) (j : Nat) (wr : World) : Prop :=
  j % 2 = 0 ∧ j ≤ xs.length ∧ Below w1.heap.size w1 wr ∧ w1.heap.size < wr.heap.size ∧ ∃ oa oc, EvBlock wr w1.heap.size (.int .i64 0) (.string ⟨#[]⟩) (.slice oa (pairs (xs.take j)).length oc) (.string ⟨#[]⟩) (.int .i64 0) (.int .i64 0) ∧ OwnsP wr (w1.heap.size + 1) (.slice oa (pairs (xs.take j)).length oc) (pairs (xs.take j))
theorem PtRel.start (w1 : World) (xs : List Nat) : PtRel w1 xs 0 (w1.alloc (.cells #[.int .i64 0, .string ⟨#[]⟩, .slice none 0 0, .string ⟨#[]⟩, .int .i64 0, .int .i64 0] 31)) :=
  ⟨rfl, Nat.zero_le _, (Below.refl _ _).alloc (Nat.le_refl _) _, by simp, none, 0, EvBlock.new _ _ _ _ _ _ _, OwnsP.nil _ _⟩

theorem EvBlock.setP {W : World} {b : Nat} {c0 c1 c2 c3 c4 c5 : Value} (h : EvBlock W b c0 c1 c2 c3 c4 c5) (v : Value) : EvBlock (W.setCell ⟨b, 2, none⟩ v) b c0 c1 v c3 c4 c5 := by
  unfold EvBlock at h ⊢
  rw [heap_setCell_same W b 2 _ 31 v h]; rfl
theorem EvBlock.kept {W W' : World} {b : Nat} {c0 c1 c2 c3 c4 c5 : Value} (h : EvBlock W b c0 c1 c2 c3 c4 c5) {row : Option Nat} (hg : W.grownBy W' row) (hne : some b ≠ row) : EvBlock W' b c0 c1 c2 c3 c4 c5 := by
  have hlt := h.lt
  unfold EvBlock at h ⊢
  rw [hg.block b hlt hne]; exact h
theorem EvBlock.alloc {W : World} {b : Nat} {c0 c1 c2 c3 c4 c5 : Value} (h : EvBlock W b c0 c1 c2 c3 c4 c5) (o : Obj) : EvBlock (W.alloc o) b c0 c1 c2 c3 c4 c5 :=
  h.below ((Below.refl _ _).alloc (Nat.le_refl _) o)
theorem EvBlock.drew {W : World} {b : Nat} {c0 c1 c2 c3 c4 c5 : Value} (h : EvBlock W b c0 c1 c2 c3 c4 c5) : EvBlock W.drew b c0 c1 c2 c3 c4 c5 := h
theorem PtRel.step {w1 wr w2 : World} {xs : List Nat} {j : Nat} (hj2 : j % 2 = 0) (hj1 : j + 1 < xs.length) (hbr : Below w1.heap.size w1 wr) (hsr : w1.heap.size < wr.heap.size) {ps : List (Int × Int)} {oa : Option Addr} {oc : Nat}
    (hE : EvBlock wr w1.heap.size (.int .i64 0) (.string ⟨#[]⟩) (.slice oa ps.length oc) (.string ⟨#[]⟩) (.int .i64 0) (.int .i64 0)) (hO : OwnsP wr (w1.heap.size + 1) (.slice oa ps.length oc) ps) {x y : Int}
    (hps : pairs (xs.take (j + 2)) = ps ++ [(x, y)]) {o : Obj} {gg cap' : Nat} (hown2 : w2.ownsRow (w1.heap.size + 1) 40 2 (.slice (some ⟨gg, 0, none⟩) (ps.length + 1) cap') (ps.length + 1) (ptCells ps ++ [.int .i64 x, .int .i64 y]))
    (hgrow : (wr.alloc o).drew.grownBy w2 (Value.slice oa ps.length oc).ownBlock) :
    PtRel w1 xs (j + 2) (w2.setCell ⟨w1.heap.size, 2, none⟩ (.slice (some ⟨gg, 0, none⟩) (ps.length + 1) cap')) := by
  have hne : some w1.heap.size ≠ (Value.slice oa ps.length oc).ownBlock := fun e => hO.ne (show w1.heap.size < w1.heap.size + 1 by omega) e.symm
  have hsz : (wr.alloc o).drew.heap.size ≤ w2.heap.size := hgrow.size
  have hsz' : wr.heap.size + 1 ≤ w2.heap.size := by simpa using hsz
  have hgg : w1.heap.size + 1 ≤ gg := own_block hown2 gg rfl
  have hb1 : Below w1.heap.size w1 w2 := ((hbr.alloc (Nat.le_of_lt hsr) o).drew).grown hgrow (by simp; omega) (fun k hk => by have := own_block hO k hk; omega)
  have hl : (pairs (xs.take (j + 2))).length = ps.length + 1 := by rw [hps]; simp
  refine ⟨by omega, by omega, hb1.setCell (Nat.le_refl _) _, by simp; omega, some ⟨gg, 0, none⟩, cap', ?_, ?_⟩
  · rw [hl]
    exact ((hE.alloc o).drew.kept hgrow hne).setP _
  · rw [hps]
    unfold OwnsP
    rw [ptCells_snoc, List.length_append, List.length_singleton]
    rcases hown2.2 with ⟨h0, _⟩ | ⟨g', c', cur, hv, hgb, hh, r⟩
    · cases h0
    · refine ⟨hown2.1, Or.inr ⟨g', c', cur, hv, hgb, ?_, r⟩⟩
      rw [heap_setCell_other _ _ _ _ (by show g' ≠ w1.heap.size; omega)]
      exact hh

set_option maxHeartbeats 4000000 in
set_option maxRecDepth 100000 in
theorem readPoints_even (l : List UInt8) (w : World) (hm : l.length ≤ maxLen) (xs : List Nat) (hxs : readNums 24 l = some xs) (hev : xs.length % 2 = 0) (hpos : 0 < xs.length) (hle : xs.length ≤ 24) :
    Calls Tryd.prog 31 #[.string (B l)] w (RdPost (some { Ev.zero with p := pairs xs }) w) := by
  obtain ⟨i0, hi0, hz0, hz1, hz2⟩ := info_parts info40
  have C := fun w => Lib.hid (readNumbers_any l 24 w hm (by omega))
  unfold NumsPost at C
  rw [hxs] at C
  have C' : ∀ w, Hid (Calls Tryd.prog 49 #[.string (B l), .int .i64 (24 : Nat)] w fun e w' => ∃ v, e = .returned (.tuple #[v, .bool true]) ∧ w'.ownsRow w.heap.size 3 1 v xs.length (nats xs) ∧ Below w.heap.size w w') := C
  clear C hxs
  have hev' : ((xs.length : Int) % 2 != 0) = false := by simp; omega
  have Hev := Lib.hid hev
  clear hev
  go_enter Tryd.func31, Tryd.ntmps31
  go_wp2_with fail
  refine ((C' _).out).mono ?_
  rintro e w1 ⟨v, rfl, hown, hbel⟩
  clear C'
  obtain ⟨g, cap, rfl, hg, hglt, hcs⟩ := nums_cells hown hpos
  have hB := (EvBlock.new w _ _ _ _ _ _).below hbel
  have hbel' := Lib.hid (((Below.refl w.heap.size w).alloc (Nat.le_refl _) _).trans (hbel.mono (by simp)))
  have hws : w.heap.size < w1.heap.size := by have := hbel.size; simp at this; omega
  have Hcs := Lib.hid hcs
  clear hbel hown hcs
  go_wp2_with fail
  go_loopw [7] (fun i wr => ∃ j : Nat, i = .int .i64 j ∧ PtRel w1 xs j wr) (fun i _ => xs.length - (intOf i).toNat)
  case atStart => exact ⟨0, rfl, PtRel.start w1 xs⟩
  case round =>
    obtain ⟨j, rfl, hj2, hjl, hbr, hsr, oa, oc, hE, hO⟩ := hrel
    by_cases hlt : j < xs.length
    · have hj1 : j + 1 < xs.length := by have := Hev.out; omega
      have hcj : wr.cell? ⟨g, j, none⟩ = some (.int .i64 ((xs[j] : Nat) : Int)) := by rw [(bcell hbr).1 g j hglt]; exact Hcs.out j hlt
      have hcj1 : wr.cell? ⟨g, j + 1, none⟩ = some (.int .i64 ((xs[j + 1] : Nat) : Int)) := by rw [(bcell hbr).1 g (j + 1) hglt]; exact Hcs.out (j + 1) hj1
      have hce := hE.cells.2.2.1
      have hfe := hE.free.2.2.1
      have hn : (pairs (xs.take j)).length + 1 ≤ maxLen := by
        have := pairs_length (xs.take j) (by rw [List.length_take]; omega)
        rw [List.length_take] at this; unfold maxLen; omega
      have hby : ((pairs (xs.take j)).length + 1) * 16 ≤ 140737488355328 := by
        have := pairs_length (xs.take j) (by rw [List.length_take]; omega)
        rw [List.length_take] at this; omega
      have hps := Lib.hid (show pairs (xs.take (j + 2)) = pairs (xs.take j) ++ [(((xs[j] : Nat) : Int), ((xs[j + 1] : Nat) : Int))] by
        rw [take_two xs j hj1]
        have := pairs_snoc (xs.take j) (by rw [List.length_take]; omega) xs[j] xs[j + 1]
        simpa using this)
      generalize hx : ((xs[j] : Nat) : Int) = x at *
      generalize hy : ((xs[j + 1] : Nat) : Int) = y at *
      clear hx hy
      have hag := Lib.hid (hO.ne (show w1.heap.size < w1.heap.size + 1 by omega))
      have hak := Lib.hid (hO.ne (show g < w1.heap.size + 1 by omega))
      generalize pairs (xs.take j) = ps at *
      have hix : (j : Int) < (xs.length : Int) := by omega
      have hix1 : (j : Int) + 1 < (xs.length : Int) := by omega
      have hi0' : (0 : Int) ≤ (j : Int) := by omega
      have hi1' : (0 : Int) ≤ (j : Int) + 1 := by omega
      have hw1 : IntKind.i64.wrap ((j : Int) + 1) = (j : Int) + 1 := IntWalk.i64_in _ (by omega)
      have hw2 : ((j : Int) + 1).toNat = j + 1 := by omega
      go_wp2_with fail
      go_region_law
        ((refine step_append_lies _ (by rfl) _ _ _ (by rfl) (w1.heap.size + 1) 40 i0 _ 2 16 Tryd.underlying29 hi0 hz0 hz1 hz2 rfl (by omega) (.slice oa ps.length oc) ps.length (ptCells ps) (by rfl) ((World.ownsRow.alloc hO _).drew)
            ⟨wr.heap.size, 0, none⟩ 1 1 [.int .i64 x, .int .i64 y] (by rfl) (by rfl) (World.news_of_block (cs := #[.int .i64 x, .int .i64 y]) (t := 40) (fr := (0, 0)) (heap_alloc_new wr _)) (by simp [Value.oneCell'])
            (by omega) hn hby (by simp; omega) (wr.heap.size + 1) (by simp) ?_; intro gg cap' w2 hown2 hgrow hat hlt2; have hfz : w2.frozen? ⟨w1.heap.size, 2, none⟩ = false := (hgrow.frozen_far _ (by simp; omega) (Ne.symm hag.out)).trans (by rw [World.frozen?_drew]; exact (World.frozen?_alloc_past _ _ _ hsr).trans hfe); have hcz : w2.cell? ⟨w1.heap.size, 2, none⟩ = some (.slice oa ps.length oc) := (hgrow.cell_far _ (by simp; omega) (Ne.symm hag.out)).trans (by rw [World.cell?_drew]; exact (World.cell?_alloc_past _ _ _ hsr).trans hce)))
      all_goals
        have hPR := Lib.hid (PtRel.step hj2 hj1 hbr hsr hE hO hps.out hown2 hgrow)
        clear hown2 hgrow hat hlt2 hfz hcz hw1 hw2 hcj hcj1 hce hfe hps
        generalize w2.setCell _ _ = w3 at *
        go_wp2_with fail
        go_roundw
        case rel => exact ⟨j + 2, by go_num, hPR.out⟩
        case measure => simp [intOf]; omega
    · have hj : j = xs.length := by omega
      have hps : pairs (xs.take j) = pairs xs := by rw [hj, List.take_length]
      have hO' := hO.base (show w.heap.size + 1 ≤ w1.heap.size + 1 by omega)
      rw [hps] at hE hO'
      obtain ⟨c0, c1, c2, c3, c4, c5⟩ := hE.cells
      have hB2 := hB.below hbr
      have hbel2 := Lib.hid (hbel'.out.trans (hbr.mono (by omega)))
      have hnj : ¬ (j : Int) < (xs.length : Int) := by omega
      clear hO hE hB hps hj hbr
      go_wp2_with (first | (refine wpList_store_ev rfl _ _ rfl _ _ _ _ _ _ _ hB2 rfl _ _ _ _ _ _ _ _ rfl ?_; intro W' hB' hg' hs'; clear hB2))
      refine ret_ev rfl rfl rfl hB' ?_
      exact RdPost.yes (ev := { Ev.zero with p := pairs xs }) rfl rfl ((hO'.grown hg' (by omega)).base (by omega)) (hbel2.out.grown hg' hbel2.out.size (by simp))

set_option maxHeartbeats 2000000 in
set_option maxRecDepth 100000 in
theorem readPoints_none (l : List UInt8) (w : World) (hm : l.length ≤ maxLen) (hxs : readNums 24 l = none) :
    Calls Tryd.prog 31 #[.string (B l)] w (RdPost none w) := by
  have C := fun w => Lib.hid (readNumbers_any l 24 w hm (by omega))
  unfold NumsPost at C
  rw [hxs] at C
  clear hxs
  go_enter Tryd.func31, Tryd.ntmps31
  go_wp2_with fail
  refine ((C _).out).mono ?_
  rintro e w' ⟨v, rfl, hown, hbel⟩
  clear C
  obtain ⟨va, vc, rfl⟩ := own_shape hown
  have hB := (EvBlock.new w _ _ _ _ _ _).below hbel
  have hbel' := Lib.hid (((Below.refl w.heap.size w).alloc (Nat.le_refl _) _).trans (hbel.mono (by simp)))
  clear hbel hown
  go_wp2_with (first | (refine wpList_store_ev rfl _ _ rfl _ _ _ _ _ _ _ hB rfl _ _ _ _ _ _ _ _ rfl ?_; intro W' hB' hg' hs'; clear hB))
  refine ret_ev rfl rfl rfl hB' ?_
  exact RdPost.no (ev := Ev.zero) (v := .slice none 0 0) rfl rfl (hbel'.out.grown hg' hbel'.out.size (by simp))

set_option maxHeartbeats 2000000 in
set_option maxRecDepth 100000 in
theorem readPoints_odd (l : List UInt8) (w : World) (hm : l.length ≤ maxLen) (xs : List Nat) (hxs : readNums 24 l = some xs) (hev : xs.length % 2 ≠ 0) :
    Calls Tryd.prog 31 #[.string (B l)] w (RdPost none w) := by
  have C := fun w => Lib.hid (readNumbers_any l 24 w hm (by omega))
  unfold NumsPost at C
  rw [hxs] at C
  have C' : ∀ w, Hid (Calls Tryd.prog 49 #[.string (B l), .int .i64 (24 : Nat)] w fun e w' => ∃ v, e = .returned (.tuple #[v, .bool true]) ∧ w'.ownsRow w.heap.size 3 1 v xs.length (nats xs) ∧ Below w.heap.size w w') := C
  clear C hxs
  have hev' : ((xs.length : Int) % 2 != 0) = true := by rw [bne_iff_ne]; omega
  clear hev
  go_enter Tryd.func31, Tryd.ntmps31
  go_wp2_with fail
  refine ((C' _).out).mono ?_
  rintro e w' ⟨v, rfl, hown, hbel⟩
  clear C'
  obtain ⟨va, vc, rfl⟩ := own_shape hown
  have hB := (EvBlock.new w _ _ _ _ _ _).below hbel
  have hbel' := Lib.hid (((Below.refl w.heap.size w).alloc (Nat.le_refl _) _).trans (hbel.mono (by simp)))
  clear hbel hown
  go_wp2_with (first | (refine wpList_store_ev rfl _ _ rfl _ _ _ _ _ _ _ hB rfl _ _ _ _ _ _ _ _ rfl ?_; intro W' hB' hg' hs'; clear hB))
  refine ret_ev rfl rfl rfl hB' ?_
  exact RdPost.no (ev := Ev.zero) (v := .slice none 0 0) rfl rfl (hbel'.out.grown hg' hbel'.out.size (by simp))

set_option maxHeartbeats 2000000 in
set_option maxRecDepth 100000 in
theorem readPoints_zero (l : List UInt8) (w : World) (hm : l.length ≤ maxLen) (hxs : readNums 24 l = some []) :
    Calls Tryd.prog 31 #[.string (B l)] w (RdPost (some Ev.zero) w) := by
  have C := fun w => Lib.hid (readNumbers_any l 24 w hm (by omega))
  unfold NumsPost at C
  rw [hxs] at C
  have C' : ∀ w, Hid (Calls Tryd.prog 49 #[.string (B l), .int .i64 (24 : Nat)] w fun e w' => ∃ v, e = .returned (.tuple #[v, .bool true]) ∧ w'.ownsRow w.heap.size 3 1 v 0 [] ∧ Below w.heap.size w w') := C
  clear C hxs
  go_enter Tryd.func31, Tryd.ntmps31
  go_wp2_with fail
  refine ((C' _).out).mono ?_
  rintro e w' ⟨v, rfl, hown, hbel⟩
  clear C'
  obtain ⟨va, vc, rfl⟩ := own_shape hown
  have hB := ((EvBlock.new w _ _ _ _ _ _).below hbel).alloc (.cells #[.int .i64 0, .string ⟨#[]⟩, .slice none 0 0, .string ⟨#[]⟩, .int .i64 0, .int .i64 0] 31)
  have hw : w.heap.size ≤ w'.heap.size := by have := hbel.size; simp at this; omega
  have hbel' := Lib.hid ((((Below.refl w.heap.size w).alloc (Nat.le_refl _) _).trans (hbel.mono (by simp))).alloc hw (.cells #[.int .i64 0, .string ⟨#[]⟩, .slice none 0 0, .string ⟨#[]⟩, .int .i64 0, .int .i64 0] 31))
  clear hbel hown
  go_wp2_with fail
  refine wp_loop_rounds 1 ?_
  rw [rounds_succ]
  go_wp2_with (first | (refine wpList_store_ev rfl _ _ rfl _ _ _ _ _ _ _ hB rfl _ _ _ _ _ _ _ _ rfl ?_; intro W' hB' hg' hs'; clear hB))
  refine ret_ev rfl rfl rfl hB' ?_
  exact RdPost.yes (ev := Ev.zero) rfl rfl (OwnsP.nil _ _) (hbel'.out.grown hg' hbel'.out.size (by simp))

theorem readNums_len : ∀ (k : Nat) (l : List UInt8) (xs : List Nat), readNums k l = some xs → xs.length ≤ k
  | 0, [], xs, h => by cases h; simp
  | 0, _ :: _, xs, h => by cases h
  | k + 1, l, xs, h => by
    rw [readNums] at h
    split at h
    · cases h; simp
    · split at h
      · cases h
      · simp only [Option.map_eq_some_iff] at h
        obtain ⟨ys, hy, rfl⟩ := h
        have := readNums_len k _ ys hy
        simp; omega
theorem readPoints_any (l : List UInt8) (w : World) (hm : l.length ≤ maxLen) :
    Calls Tryd.prog 31 #[.string (B l)] w (RdPost (rdPoints l) w) := by
  have E : rdPoints l = rdPointsOf (readNums 24 l) := rfl
  rw [E]
  cases h : readNums 24 l with
  | none => exact readPoints_none l w hm h
  | some xs =>
    have hle := readNums_len 24 l xs h
    by_cases hev : xs.length % 2 = 0
    · rw [rdPointsOf_yes hev]
      rcases xs with _ | ⟨x, r⟩
      · exact readPoints_zero l w hm h
      · exact readPoints_even l w hm _ h hev (by simp) hle
    · rw [rdPointsOf_no hev]
      exact readPoints_odd l w hm xs h hev
end Go.Proofs.YtmioocmjlbjfpaaDoor

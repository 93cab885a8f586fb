/-
  event.inside: are all points inside; the forms' test of an event.
-/
import Derived.Test.YtmioocmjlbjfpaaDoorG
import Derived.Test.YtmioocmjlbjfpaaDoorE
namespace Go.Proofs.YtmioocmjlbjfpaaDoor
open Go.RowKit
open Pl

theorem has_is (a b n : Int) (r : Bool) (h : hasB a b n = r) (w : World) :
    Calls Tryd.prog 52 #[.agg #[.int .i64 a, .int .i64 b], .int .i64 n] w fun e w' => e = .returned (.bool r) ∧ Below w.heap.size w w' := by
  subst h; exact has_any a b n w

def insideB (ps : List (Int × Int)) : Bool := ps.all fun p => hasB 0 1000 p.1 && hasB 0 1000 p.2
theorem insideB_take_succ (ps : List (Int × Int)) (k : Nat) (h : k < ps.length) : insideB (ps.take (k + 1)) = (insideB (ps.take k) && (hasB 0 1000 ps[k].1 && hasB 0 1000 ps[k].2)) := by
  unfold insideB; rw [List.take_succ_eq_append_getElem h, List.all_append]; simp
theorem insideB_no (ps : List (Int × Int)) (k : Nat) (h : k < ps.length) (hn : hasB 0 1000 ps[k].1 = false ∨ hasB 0 1000 ps[k].2 = false) : insideB ps = false := by
  rw [insideB, List.all_eq_false]
  exact ⟨ps[k], List.getElem_mem _, by rcases hn with h | h <;> simp [h]⟩
/-- The slice v reads as the points ps, in memory below block number B. -/
def PtsAt (W : World) (B : Nat) (v : Value) (ps : List (Int × Int)) : Prop :=
  ∃ a c, v = .slice a ps.length c ∧ (0 < ps.length → ∃ b off, a = some ⟨b, off, none⟩ ∧ b < B ∧ ∀ i (h : i < ps.length), W.cell? ⟨b, off + i * 2, none⟩ = some (.int .i64 ps[i].1) ∧ W.cell? ⟨b, off + i * 2 + 1, none⟩ = some (.int .i64 ps[i].2))
theorem PtsAt.below {W W' : World} {B : Nat} {v : Value} {ps : List (Int × Int)} (h : PtsAt W B v ps) (hb : Below B W W') : PtsAt W' B v ps := by
  obtain ⟨a, c, rfl, h⟩ := h
  refine ⟨a, c, rfl, fun hp => ?_⟩
  obtain ⟨b, off, rfl, hlt, hc⟩ := h hp
  exact ⟨b, off, rfl, hlt, fun i hi => ⟨(hb.cell (p := ⟨b, _, none⟩) hlt).trans (hc i hi).1, (hb.cell (p := ⟨b, _, none⟩) hlt).trans (hc i hi).2⟩⟩
theorem PtsAt.up {W : World} {B B' : Nat} {v : Value} {ps : List (Int × Int)} (h : PtsAt W B v ps) (hb : B ≤ B') : PtsAt W B' v ps := by
  obtain ⟨a, c, rfl, h⟩ := h
  refine ⟨a, c, rfl, fun hp => ?_⟩
  obtain ⟨b, off, rfl, hlt, hc⟩ := h hp
  exact ⟨b, off, rfl, by omega, hc⟩
theorem ptCells_get (ps : List (Int × Int)) : ∀ (i : Nat) (h : i < ps.length), (ptCells ps)[i * 2]? = some (.int .i64 ps[i].1) ∧ (ptCells ps)[i * 2 + 1]? = some (.int .i64 ps[i].2) := by
  induction ps with
  | nil => intro i h; cases h
  | cons p r ih =>
    intro i h
    have e : ptCells (p :: r) = .int .i64 p.1 :: .int .i64 p.2 :: ptCells r := rfl
    cases i with
    | zero => rw [e]; exact ⟨rfl, rfl⟩
    | succ i =>
      have h' : i < r.length := by simpa using h
      rw [e, show (i + 1) * 2 = (i * 2 + 1) + 1 by omega]
      exact ih i h'
theorem OwnsP.pts {W : World} {b : Nat} {v : Value} {ps : List (Int × Int)} (h : OwnsP W b v ps) : PtsAt W W.heap.size v ps := by
  rcases h.2 with ⟨rfl, h0⟩ | ⟨g, cap, cur, hv, hb, hg, hn, _, hc, ht⟩
  · exact ⟨none, 0, by rw [h0], fun hp => by omega⟩
  · refine ⟨_, _, hv, fun _ => ⟨g, 0, rfl, lt_of_heap hg, fun i hi => ?_⟩⟩
    have key : ∀ j u, (ptCells ps)[j]? = some u → W.cell? ⟨g, j, none⟩ = some u := by
      intro j u hu
      have hj : j < (ptCells ps).length := by
        rcases Nat.lt_or_ge j (ptCells ps).length with h | h
        · exact h
        · rw [List.getElem?_eq_none h] at hu; cases hu
      rw [ptCells_length] at hj
      rw [← ht, List.getElem?_take, if_pos hj] at hu
      simp only [World.cell?, hg]
      simpa using hu
    rw [Nat.zero_add]
    exact ⟨key _ _ (ptCells_get ps i hi).1, key _ _ (ptCells_get ps i hi).2⟩

/-- The block of a span that the function lays. -/
def SpBlock (W : World) (b : Nat) (x y : Int) : Prop := W.heap[b]? = some (.cells #[.int .i64 x, .int .i64 y] 59 (0, 0))
theorem SpBlock.new (w : World) (x y : Int) : SpBlock (w.alloc (.cells #[.int .i64 x, .int .i64 y] 59)) w.heap.size x y := heap_alloc_new w _
theorem SpBlock.cells {W : World} {b : Nat} {x y : Int} (h : SpBlock W b x y) : W.cell? ⟨b, 0, none⟩ = some (.int .i64 x) ∧ W.cell? ⟨b, 1, none⟩ = some (.int .i64 y) := by
  unfold SpBlock at h
  exact ⟨by simp [World.cell?, h], by simp [World.cell?, h]⟩
theorem SpBlock.below {W W' : World} {b : Nat} {x y : Int} (h : SpBlock W b x y) (hb : Below W.heap.size W W') : SpBlock W' b x y := by
  have hlt := lt_of_heap h
  unfold SpBlock at h ⊢; rw [hb.block b hlt]; exact h

set_option maxHeartbeats 4000000 in
set_option maxRecDepth 100000 in
theorem inside_any (v : Value) (ps : List (Int × Int)) (w : World) (hp : PtsAt w w.heap.size v ps) (hl : ps.length ≤ maxLen) :
    Calls Tryd.prog 55 #[v] w fun e w' => e = .returned (.bool (insideB ps)) ∧ Below w.heap.size w w' := by
  unfold maxLen at hl
  obtain ⟨va, vc, rfl, hp⟩ := hp
  have Hp := Lib.hid hp
  clear hp
  go_enter Tryd.func55, Tryd.ntmps55
  go_wp2_with fail
  go_loopw [9] (fun i wr => ∃ k : Nat, i = .int .i64 k ∧ k ≤ ps.length ∧ insideB (ps.take k) = true ∧ SpBlock wr w.heap.size 0 1000 ∧ Below w.heap.size w wr) (fun i _ => ps.length - (intOf i).toNat)
  case atStart => exact ⟨0, rfl, Nat.zero_le _, rfl, SpBlock.new w 0 1000, (Below.refl _ _).alloc (Nat.le_refl _) _⟩
  case round =>
    obtain ⟨k, rfl, hk, hin, hsp, hbr⟩ := hrel
    have Hin := Lib.hid hin
    clear hin
    obtain ⟨hs0, hs1⟩ := hsp.cells
    have hsz := hbr.size
    have hslt : w.heap.size < wr.heap.size := lt_of_heap hsp
    by_cases hlt : k < ps.length
    · obtain ⟨b, off, hva, hb, hc⟩ := Hp.out (by omega)
      subst hva
      have hx : wr.cell? ⟨b, off + k * 2, none⟩ = some (.int .i64 ps[k].1) := ((bcell hbr).1 b _ hb).trans (hc k hlt).1
      have hy : wr.cell? ⟨b, off + k * 2 + 1, none⟩ = some (.int .i64 ps[k].2) := ((bcell hbr).1 b _ hb).trans (hc k hlt).2
      have Hs := Lib.hid (insideB_take_succ ps k hlt)
      have Hn := Lib.hid (insideB_no ps k hlt)
      clear hc
      generalize ps[k].1 = x at *
      generalize ps[k].2 = y at *
      have hik : (k : Int) < (ps.length : Int) := by omega
      have hk0 : (0 : Int) ≤ (k : Int) := by omega
      cases hcx : hasB 0 1000 x with
      | false =>
        have C := fun w => Lib.hid (has_is 0 1000 x false hcx w)
        have Hf := Lib.hid (Hn.out (Or.inl hcx))
        clear hcx Hs Hn
        go_wp2_with fail
        refine ((C _).out).mono ?_
        rintro e w1 ⟨rfl, hb1⟩
        have hbel := Lib.hid ((hbr.alloc hsz (.cells #[.int .i64 x, .int .i64 y] 40)).trans (hb1.mono (by simp; omega)))
        clear hb1
        go_wp2_with fail
        go_ret
        exact ⟨ret_bool Hf.out.symm, hbel.out⟩
      | true =>
        cases hcy : hasB 0 1000 y with
        | false =>
          have C := fun w => Lib.hid (has_is 0 1000 x true hcx w)
          have C2 := fun w => Lib.hid (has_is 0 1000 y false hcy w)
          have Hf := Lib.hid (Hn.out (Or.inr hcy))
          clear hcx hcy Hs Hn
          go_wp2_with fail
          refine ((C _).out).mono ?_
          rintro e w1 ⟨rfl, hb1⟩
          obtain ⟨hc1, hf1⟩ := bcell hb1
          have hsz1 := hb1.size
          have hbel := Lib.hid ((hbr.alloc hsz (.cells #[.int .i64 x, .int .i64 y] 40)).trans (hb1.mono (by simp; omega)))
          clear hb1
          go_wp2_with fail
          refine ((C2 _).out).mono ?_
          rintro e w2 ⟨rfl, hb2⟩
          have hbel2 := Lib.hid (hbel.out.trans (hb2.mono (by simp at hsz1; omega)))
          clear hb2
          go_wp2_with fail
          go_ret
          exact ⟨ret_bool Hf.out.symm, hbel2.out⟩
        | true =>
          have C := fun w => Lib.hid (has_is 0 1000 x true hcx w)
          have C2 := fun w => Lib.hid (has_is 0 1000 y true hcy w)
          have Hf := Lib.hid (show insideB (ps.take (k + 1)) = true by rw [Hs.out, Hin.out, hcx, hcy]; rfl)
          clear hcx hcy Hs Hn
          go_wp2_with fail
          refine ((C _).out).mono ?_
          rintro e w1 ⟨rfl, hb1⟩
          obtain ⟨hc1, hf1⟩ := bcell hb1
          have hsz1 := hb1.size
          have hbel := Lib.hid ((hbr.alloc hsz (.cells #[.int .i64 x, .int .i64 y] 40)).trans (hb1.mono (by simp; omega)))
          have hsp1 := Lib.hid ((hsp.below ((Below.refl _ _).alloc (Nat.le_refl _) (.cells #[.int .i64 x, .int .i64 y] 40))).below hb1)
          clear hb1
          go_wp2_with fail
          refine ((C2 _).out).mono ?_
          rintro e w2 ⟨rfl, hb2⟩
          have hbel2 := Lib.hid (hbel.out.trans (hb2.mono (by simp at hsz1; omega)))
          have hsp2 := Lib.hid (hsp1.out.below hb2)
          clear hb2 hc1 hf1
          go_wp2_with fail
          go_roundw
          case rel => exact ⟨k + 1, by go_num, by omega, Hf.out, hsp2.out, hbel2.out⟩
          case measure => simp [intOf]; omega
    · have hnk : ¬ (k : Int) < (ps.length : Int) := by omega
      have hfin : insideB ps = true := by have := Hin.out; rwa [List.take_of_length_le (by omega)] at this
      have Hf := Lib.hid hfin
      clear hfin
      go_wp2_with fail
      go_ret
      exact ⟨ret_bool Hf.out.symm, hbr⟩
end Go.Proofs.YtmioocmjlbjfpaaDoor

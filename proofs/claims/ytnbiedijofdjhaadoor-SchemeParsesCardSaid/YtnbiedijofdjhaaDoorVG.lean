/-
  The reference's Made1: a rule of at most 2 letters on either side.
-/
import Derived.Test.YtnbiedijofdjhaaDoorVF
import Derived.Test.YtnbiedijofdjhaaDoorVB
import Derived.Test.YtnbiedijofdjhaaDoorUA
import Derived.StillTailTactics
import Derived.BigRegion
namespace Go.Proofs.YtnbiedijofdjhaaDoor
open Go.RowKit
open Pl

def RrBlock (W : World) (b : Nat) (si so : Value) (f t c : Int) : Prop := W.heap[b]? = some (.cells #[si, so, .int .u8 f, .int .u8 t, .int .u8 c] 90 (0, 0))
theorem RrBlock.below {W W' : World} {b : Nat} {si so : Value} {f t c : Int} (h : RrBlock W b si so f t c) (hb : Below W.heap.size W W') : RrBlock W' b si so f t c := by
  have hlt := lt_of_heap h
  unfold RrBlock at h ⊢; rw [hb.block b hlt]; exact h
theorem RrBlock.cells {W : World} {b : Nat} {si so : Value} {f t c : Int} (h : RrBlock W b si so f t c) : W.cell? ⟨b, 0, none⟩ = some si ∧ W.cell? ⟨b, 1, none⟩ = some so ∧ W.cell? ⟨b, 2, none⟩ = some (.int .u8 f) ∧ W.cell? ⟨b, 3, none⟩ = some (.int .u8 t) ∧ W.cell? ⟨b, 4, none⟩ = some (.int .u8 c) := by
  unfold RrBlock at h
  exact ⟨by simp [World.cell?, h], by simp [World.cell?, h], by simp [World.cell?, h], by simp [World.cell?, h], by simp [World.cell?, h]⟩
theorem RrBlock.setCell {W : World} {b b' o : Nat} {si so u : Value} {f t c : Int} (h : RrBlock W b si so f t c) (hne : b' ≠ b) : RrBlock (W.setCell ⟨b', o, none⟩ u) b si so f t c := by
  unfold RrBlock at h ⊢
  simp only [World.setCell, Array.getElem?_modify, if_neg hne]; exact h
theorem RlBlock.put2 {W : World} {b : Nat} {r : Rl} (h : RlBlock W b r) (l : List UInt8) : RlBlock (W.setCell ⟨b, 2, none⟩ (.string (B l))) b ⟨r.src, r.dst, l, r.out, r.cost⟩ := by
  unfold RlBlock at h ⊢
  simp [World.setCell, Array.getElem?_modify, h]
theorem RlBlock.put3 {W : World} {b : Nat} {r : Rl} (h : RlBlock W b r) (l : List UInt8) : RlBlock (W.setCell ⟨b, 3, none⟩ (.string (B l))) b ⟨r.src, r.dst, r.inp, l, r.cost⟩ := by
  unfold RlBlock at h ⊢
  simp [World.setCell, Array.getElem?_modify, h]
theorem RlBlock.free {W : World} {b : Nat} {r : Rl} (h : RlBlock W b r) (o : Nat) : W.frozen? ⟨b, o, none⟩ = false := by
  unfold RlBlock at h; simp [World.frozen?, h]
def abcAB1 (r : Nat) : List UInt8 := [[97, 98, 99, 65, 66, 49].getD r 97]
theorem abcAB (r : Nat) (h : r < 6) : (⟨#[97, 98, 99, 65, 66, 49]⟩ : ByteArray).extract r (r + 1) = B (abcAB1 r) := by
  rcases (show r = 0 ∨ r = 1 ∨ r = 2 ∨ r = 3 ∨ r = 4 ∨ r = 5 by omega) with rfl | rfl | rfl | rfl | rfl | rfl <;> decide
/-- A slice of the bytes xs, in memory below block number B0. -/
def BytesIs (W : World) (B0 : Nat) (v : Value) (xs : List Int) : Prop := ∃ a c, v = .slice a xs.length c ∧ (0 < xs.length → ∃ b off, a = some ⟨b, off, none⟩ ∧ b < B0 ∧ ∀ i (h : i < xs.length), W.cell? ⟨b, off + i, none⟩ = some (.int .u8 xs[i]) ∧ 0 ≤ xs[i] ∧ xs[i] ≤ 255)
theorem BytesIs.on {W W' : World} {v : Value} {xs : List Int} (h : BytesIs W W.heap.size v xs) (hb : Below W.heap.size W W') : BytesIs W' W'.heap.size v xs := by
  obtain ⟨a, c, rfl, h⟩ := h
  refine ⟨a, c, rfl, fun hp => ?_⟩
  obtain ⟨b, off, rfl, hlt, hc⟩ := h hp
  exact ⟨b, off, rfl, Nat.lt_of_lt_of_le hlt hb.size, fun i hi => ⟨(hb.cell (p := ⟨b, off + i, none⟩) hlt).trans (hc i hi).1, (hc i hi).2⟩⟩
theorem BytesIs.of {W : World} {B0 n : Nat} {v : Value} (h : BytesAt W B0 v n) : ∃ xs : List Int, xs.length = n ∧ BytesIs W B0 v xs := by
  obtain ⟨a, c, rfl, h⟩ := h
  by_cases hn : 0 < n
  · obtain ⟨b, off, rfl, hlt, hc⟩ := h hn
    have hl : (List.ofFn fun i : Fin n => (hc i.1 i.2).choose).length = n := List.length_ofFn
    refine ⟨List.ofFn fun i : Fin n => (hc i.1 i.2).choose, hl, some ⟨b, off, none⟩, c, by rw [hl], fun _ => ⟨b, off, rfl, hlt, fun i hi => ?_⟩⟩
    rw [List.getElem_ofFn]
    exact (hc i (hl ▸ hi)).choose_spec
  · obtain rfl : n = 0 := by omega
    exact ⟨[], rfl, a, c, rfl, fun h => absurd h (by simp)⟩
def inC (x : Int) : List UInt8 := [UInt8.ofNat (97 + (x.tmod 3).toNat)]
def outC (x : Int) : List UInt8 := abcAB1 (x.tmod 6).toNat
def inW (xs : List Int) : List UInt8 := (xs.take 2).flatMap inC
def outW (xs : List Int) : List UInt8 := (xs.take 2).flatMap outC
theorem flat_len (f : Int → List UInt8) (hf : ∀ x, (f x).length = 1) (l : List Int) : (l.flatMap f).length = l.length := by
  induction l with
  | nil => rfl
  | cons x l ih => rw [List.flatMap_cons, List.length_append, hf, ih, List.length_cons]; omega
theorem flat_step (f : Int → List UInt8) (xs : List Int) (k : Nat) (h : k < xs.length) : (xs.take (k + 1)).flatMap f = (xs.take k).flatMap f ++ f xs[k] := by
  rw [List.take_succ_eq_append_getElem h, List.flatMap_append]; simp
theorem flat_end {f : Int → List UInt8} {xs : List Int} {l : List UInt8} (h : l = (xs.take l.length).flatMap f) (h1 : l.length ≤ 2) (h2 : l.length ≤ xs.length) (h3 : ¬ l.length < xs.length ∨ ¬ l.length < 2) : l = (xs.take 2).flatMap f := by
  rw [h]
  rcases (show l.length = 2 ∨ xs.length = l.length by omega) with e | e
  · rw [e]
  · rw [List.take_of_length_le (by omega), List.take_of_length_le (by omega)]
theorem inW_len (xs : List Int) : (inW xs).length ≤ 2 := by unfold inW; rw [flat_len _ (fun _ => rfl), List.length_take]; omega
theorem outW_len (xs : List Int) : (outW xs).length ≤ 2 := by unfold outW; rw [flat_len _ (fun _ => rfl), List.length_take]; omega
theorem layM (w : World) (si so : Value) (f t c : Int) : RrBlock ((w.alloc (.cells #[si, so, .int .u8 f, .int .u8 t, .int .u8 c] 90)).alloc (.cells #[.int .i64 0, .int .i64 0, .string ⟨#[]⟩, .string ⟨#[]⟩, .int .i64 0] 29)) w.heap.size si so f t c ∧ RlBlock ((w.alloc (.cells #[si, so, .int .u8 f, .int .u8 t, .int .u8 c] 90)).alloc (.cells #[.int .i64 0, .int .i64 0, .string ⟨#[]⟩, .string ⟨#[]⟩, .int .i64 0] 29)) (w.heap.size + 1) ⟨0, 0, [], [], 0⟩ ∧ Below w.heap.size w ((w.alloc (.cells #[si, so, .int .u8 f, .int .u8 t, .int .u8 c] 90)).alloc (.cells #[.int .i64 0, .int .i64 0, .string ⟨#[]⟩, .string ⟨#[]⟩, .int .i64 0] 29)) ∧ ((w.alloc (.cells #[si, so, .int .u8 f, .int .u8 t, .int .u8 c] 90)).alloc (.cells #[.int .i64 0, .int .i64 0, .string ⟨#[]⟩, .string ⟨#[]⟩, .int .i64 0] 29)).heap.size = w.heap.size + 2 := by
  refine ⟨RrBlock.below (show RrBlock (w.alloc (.cells #[si, so, .int .u8 f, .int .u8 t, .int .u8 c] 90)) w.heap.size si so f t c from heap_alloc_new w _) ((Below.refl _ _).alloc (Nat.le_refl _) _), ?_, ((Below.refl _ _).alloc (Nat.le_refl _) _).alloc (by simp) _, by simp⟩
  have := rl_new (w.alloc (.cells #[si, so, .int .u8 f, .int .u8 t, .int .u8 c] 90)) ⟨0, 0, [], [], 0⟩ _ rfl
  rw [World.size_alloc] at this
  exact this
set_option maxHeartbeats 2000000 in
set_option maxRecDepth 100000 in
theorem Made1_any (la oa : Option Addr) (lc oc : Nat) (f t c m : Int) (hm : 1 ≤ m ∧ m ≤ 1000) (xs ys : List Int) (r0 r1 r4 : Int) (hr0 : r0 = f % m) (hr1 : r1 = t % m) (hr4 : r4 = c * 2) (hf : 0 ≤ f ∧ f ≤ 255) (ht : 0 ≤ t ∧ t ≤ 255) (hcc : 0 ≤ c ∧ c ≤ 255) (w : World) (hx : BytesIs w w.heap.size (.slice la xs.length lc) xs) (hy : BytesIs w w.heap.size (.slice oa ys.length oc) ys) (hl : xs.length ≤ maxLen) (ho : ys.length ≤ maxLen) :
    Calls Tryd.prog 52 #[.agg #[.slice la xs.length lc, .slice oa ys.length oc, .int .u8 f, .int .u8 t, .int .u8 c], .int .i64 m] w fun e w' => e = .returned (rlV ⟨r0, r1, inW xs, outW ys, r4⟩) ∧ Below w.heap.size w w' := by
  obtain ⟨k0, k1, hb, hsz⟩ := layM w (.slice la xs.length lc) (.slice oa ys.length oc) f t c
  have HX := Lib.hid hx
  have HY := Lib.hid hy
  have HB := Lib.hid hb
  have RR := Lib.hid k0
  have RB := Lib.hid k1
  have HSZ := Lib.hid hsz
  have HR0 := Lib.hid hr0
  have HR1 := Lib.hid hr1
  have HR4 := Lib.hid hr4
  clear hr0 hr1 hr4
  obtain ⟨z0, z1, z2, z3, z4⟩ := k0.cells
  have hm0 : ¬ m = 0 := by omega
  unfold maxLen at hl ho
  have wf : IntKind.i64.wrap f = f := IntWalk.i64_in _ (by omega)
  have wt : IntKind.i64.wrap t = t := IntWalk.i64_in _ (by omega)
  have wcc : IntKind.i64.wrap c = c := IntWalk.i64_in _ (by omega)
  clear hx hy hb k0 k1 hsz
  go_enter Tryd.func52, Tryd.ntmps52
  go_upto_region 1 with fail
  generalize (w.alloc _).alloc _ = x1 at *
  have a2 : ∀ ob, (x1.alloc ob).cell? ⟨w.heap.size, 2, none⟩ = some (.int .u8 f) := fun ob => (RR.out.below ((Below.refl _ _).alloc (Nat.le_refl _) ob)).cells.2.2.1
  have a3 : ∀ ob, (x1.alloc ob).cell? ⟨w.heap.size, 3, none⟩ = some (.int .u8 t) := fun ob => (RR.out.below ((Below.refl _ _).alloc (Nat.le_refl _) ob)).cells.2.2.2.1
  have a4 : ∀ ob, (x1.alloc ob).cell? ⟨w.heap.size, 4, none⟩ = some (.int .u8 c) := fun ob => (RR.out.below ((Below.refl _ _).alloc (Nat.le_refl _) ob)).cells.2.2.2.2
  go_region
  clear a2 a3 a4 z2 z3 z4 wf wt wcc hm0
  have kr := rl_new x1 ⟨f % m, t % m, [], [], c * 2⟩ #[.int .i64 (f % m), .int .i64 (t % m), .string ⟨#[]⟩, .string ⟨#[]⟩, .int .i64 (c * 2)] rfl
  have RB2 := Lib.hid (kr.below (Below.refl _ _).drew)
  have RR2 := Lib.hid ((RR.out.below ((Below.refl _ _).alloc (Nat.le_refl _) (.cells #[.int .i64 (f % m), .int .i64 (t % m), .string ⟨#[]⟩, .string ⟨#[]⟩, .int .i64 (c * 2)] 29))).below (Below.refl _ _).drew)
  have RQ2 := Lib.hid ((RB.out.below ((Below.refl _ _).alloc (Nat.le_refl _) (.cells #[.int .i64 (f % m), .int .i64 (t % m), .string ⟨#[]⟩, .string ⟨#[]⟩, .int .i64 (c * 2)] 29))).below (Below.refl _ _).drew)
  have HB2 := Lib.hid ((HB.out.alloc HB.out.size (.cells #[.int .i64 (f % m), .int .i64 (t % m), .string ⟨#[]⟩, .string ⟨#[]⟩, .int .i64 (c * 2)] 29)).drew)
  have hsz := HSZ.out
  clear kr RB RR HB HSZ z0 z1
  generalize (x1.alloc _).drew = x2 at *
  generalize x1.heap.size = g at *
  subst hsz
  rw [← HR0.out, ← HR1.out, ← HR4.out] at *
  clear HR0 HR1 HR4
  go_wp2_with fail
  go_loopw [6] (fun i wr => ∃ l : List UInt8, i = .int .i64 (l.length : Nat) ∧ l.length ≤ 2 ∧ l.length ≤ xs.length ∧ l = (xs.take l.length).flatMap inC ∧ RlBlock wr (w.heap.size + 2) ⟨r0, r1, l, [], r4⟩ ∧ RrBlock wr w.heap.size (.slice la xs.length lc) (.slice oa ys.length oc) f t c ∧ RlBlock wr (w.heap.size + 1) ⟨0, 0, [], [], 0⟩ ∧ Below w.heap.size w wr) (fun i _ => 2 - (intOf i).toNat)
  case atStart => exact ⟨[], rfl, by simp, Nat.zero_le _, rfl, RB2.out, RR2.out, RQ2.out, HB2.out⟩
  case round =>
    obtain ⟨l, rfl, h1, h2, hle, kb, kr, kq, hb⟩ := hrel
    have HLE := Lib.hid hle
    clear hle
    clear RB2 RR2 RQ2 HB2
    obtain ⟨z0, z1, z2, z3, z4⟩ := kr.cells
    clear z2 z3 z4
    have HB := Lib.hid hb
    have RB := Lib.hid kb
    have RR := Lib.hid kr
    have RQ := Lib.hid kq
    obtain ⟨q0, q1, q2, q3, q4⟩ := kb.cells
    dsimp only at q2 q3
    clear q0 q1 q3 q4 kr kq
    have fz := kb.free 2
    by_cases hp : l.length < xs.length
    · have hp' : (l.length : Int) < (xs.length : Int) := by omega
      by_cases hq : l.length < 2
      · have hq' : (l.length : Int) < 2 := by omega
        obtain ⟨a0, c0, hv, hc⟩ := HX.out.on hb
        obtain ⟨rfl, -⟩ : la = a0 ∧ lc = c0 := by simpa using hv
        obtain ⟨b, off, rfl, hbb, hc⟩ := hc (by omega)
        obtain ⟨hcell, hx0, hx1⟩ := hc l.length hp
        obtain ⟨x, hxx⟩ : ∃ x, x = xs[l.length] := ⟨_, rfl⟩
        rw [← hxx] at hcell hx0 hx1
        obtain ⟨r, hr, hr3⟩ : ∃ r : Nat, x.tmod 3 = (r : Int) ∧ r < 3 := ⟨(x.tmod 3).toNat, by rw [Int.tmod_eq_emod_of_nonneg hx0]; omega, by rw [Int.tmod_eq_emod_of_nonneg hx0]; omega⟩
        have hr0 : (0 : Int) ≤ (r : Int) := by omega
        have hr4 : (r : Int) + 1 ≤ 3 := by omega
        have hr5 : (r : Int) ≤ (r : Int) + 1 := by omega
        have hj0 : (0 : Int) ≤ (l.length : Int) := by omega
        have hwr : IntKind.u8.wrap ((r : Int) + 1) = (r : Int) + 1 := IntWalk.u8_in _ (by omega)
        have hn1 : ((r : Int) + 1).toNat = r + 1 := by omega
        have HA := Lib.hid (abc r hr3)
        have hcat : ¬ 9223372036854775807 < (B l).size + ((⟨#[97, 98, 99]⟩ : ByteArray).extract r (r + 1)).size := by rw [abc r hr3, size_B, size_B]; simp; omega
        have HST := Lib.hid (show l ++ [UInt8.ofNat (97 + r)] = (xs.take (l.length + 1)).flatMap inC by
          rw [flat_step _ _ _ hp, ← HLE.out, ← hxx]; unfold inC; rw [hr]; rfl)
        clear hxx
        have HC := Lib.hid (B_app l [UInt8.ofNat (97 + r)])
        have HL := Lib.hid (show (l ++ [UInt8.ofNat (97 + r)]).length = l.length + 1 by simp)
        clear hc hv hb kb
        go_upto_region 5 with fail
        go_still_tail 16, (by kernel_rfl)
        change wpList _ _ _ _ _ wr.drew
        have e0 : wr.drew.cell? ⟨w.heap.size + 2, 2, none⟩ = some (.string (B l)) := q2
        have fe : wr.drew.frozen? ⟨w.heap.size + 2, 2, none⟩ = false := fz
        have RB3 := Lib.hid ((RB.out.below (Below.refl _ _).drew).put2 (l ++ [UInt8.ofNat (97 + r)]))
        have RR3 := Lib.hid ((RR.out.below (Below.refl _ _).drew).setCell (b' := w.heap.size + 2) (o := 2) (u := .string (B (l ++ [UInt8.ofNat (97 + r)]))) (by omega))
        have RQ3 := Lib.hid ((RQ.out.below (Below.refl _ _).drew).setCell (b' := w.heap.size + 2) (o := 2) (u := .string (B (l ++ [UInt8.ofNat (97 + r)]))) (by omega))
        have HB3 := Lib.hid (HB.out.drew.setCell (p := ⟨w.heap.size + 2, 2, none⟩) (by simp) (.string (B (l ++ [UInt8.ofNat (97 + r)]))))
        clear q2 fz z0 z1 hcell
        generalize wr.drew = x3 at *
        go_wp2_with fail
        rw [HA.out, HC.out]
        go_roundw
        case rel => exact ⟨l ++ [UInt8.ofNat (97 + r)], by rw [HL.out]; go_num, by rw [HL.out]; omega, by rw [HL.out]; omega, by rw [HL.out]; exact HST.out, RB3.out, RR3.out, RQ3.out, HB3.out⟩
        case measure => simp [intOf]; omega
      · have hq' : ¬ (l.length : Int) < 2 := by omega
        clear fz q2 hb kb HX
        go_upto_region 7 with fail
        generalize wr = x3 at *
        go_wp2_with fail
        go_loopw [7] (fun i wr => ∃ o : List UInt8, i = .int .i64 (o.length : Nat) ∧ o.length ≤ 2 ∧ o.length ≤ ys.length ∧ o = (ys.take o.length).flatMap outC ∧ RlBlock wr (w.heap.size + 2) ⟨r0, r1, l, o, r4⟩ ∧ RrBlock wr w.heap.size (.slice la xs.length lc) (.slice oa ys.length oc) f t c ∧ RlBlock wr (w.heap.size + 1) ⟨0, 0, [], [], 0⟩ ∧ Below w.heap.size w wr) (fun i _ => 2 - (intOf i).toNat)
        case atStart => exact ⟨[], rfl, by simp, Nat.zero_le _, rfl, RB.out, RR.out, RQ.out, HB.out⟩
        case round =>
          obtain ⟨o, rfl, h3, h4, hoe, kb, kr, kq, hb⟩ := hrel
          have HOE := Lib.hid hoe
          clear hoe
          clear RB RR RQ HB z0 z1
          obtain ⟨z0, z1, z2, z3, z4⟩ := kr.cells
          clear z2 z3 z4
          have HB := Lib.hid hb
          have RB := Lib.hid kb
          have RR := Lib.hid kr
          have RQ := Lib.hid kq
          obtain ⟨q0, q1, q2, q3, q4⟩ := kb.cells
          dsimp only at q0 q1 q2 q3 q4
          clear kr kq
          have fz := kb.free 3
          by_cases hp2 : o.length < ys.length
          · have hp2' : (o.length : Int) < (ys.length : Int) := by omega
            by_cases hq2 : o.length < 2
            · have hq2' : (o.length : Int) < 2 := by omega
              clear q0 q1 q2 q4
              obtain ⟨a0, c0, hv, hc⟩ := HY.out.on hb
              obtain ⟨rfl, -⟩ : oa = a0 ∧ oc = c0 := by simpa using hv
              obtain ⟨b, off, rfl, hbb, hc⟩ := hc (by omega)
              obtain ⟨hcell, hx0, hx1⟩ := hc o.length hp2
              obtain ⟨x, hxx⟩ : ∃ x, x = ys[o.length] := ⟨_, rfl⟩
              rw [← hxx] at hcell hx0 hx1
              obtain ⟨r, hr, hr3⟩ : ∃ r : Nat, x.tmod 6 = (r : Int) ∧ r < 6 := ⟨(x.tmod 6).toNat, by rw [Int.tmod_eq_emod_of_nonneg hx0]; omega, by rw [Int.tmod_eq_emod_of_nonneg hx0]; omega⟩
              have hr0 : (0 : Int) ≤ (r : Int) := by omega
              have hr4 : (r : Int) + 1 ≤ 6 := by omega
              have hr5 : (r : Int) ≤ (r : Int) + 1 := by omega
              have hj0 : (0 : Int) ≤ (o.length : Int) := by omega
              have hwr : IntKind.u8.wrap ((r : Int) + 1) = (r : Int) + 1 := IntWalk.u8_in _ (by omega)
              have hn1 : ((r : Int) + 1).toNat = r + 1 := by omega
              have HA := Lib.hid (abcAB r hr3)
              have hcat : ¬ 9223372036854775807 < (B o).size + ((⟨#[97, 98, 99, 65, 66, 49]⟩ : ByteArray).extract r (r + 1)).size := by rw [abcAB r hr3, size_B, size_B]; simp [abcAB1]; omega
              have HST := Lib.hid (show o ++ abcAB1 r = (ys.take (o.length + 1)).flatMap outC by
                rw [flat_step _ _ _ hp2, ← HOE.out, ← hxx]; unfold outC; rw [hr]; rfl)
              clear hxx
              have HC := Lib.hid (B_app o (abcAB1 r))
              have HL := Lib.hid (show (o ++ abcAB1 r).length = o.length + 1 by simp [abcAB1])
              clear hc hv hb kb
              go_upto_region 9 with fail
              go_still_tail 16, (by kernel_rfl)
              change wpList _ _ _ _ _ wr.drew
              have e0 : wr.drew.cell? ⟨w.heap.size + 2, 3, none⟩ = some (.string (B o)) := q3
              have fe : wr.drew.frozen? ⟨w.heap.size + 2, 3, none⟩ = false := fz
              have RB3 := Lib.hid ((RB.out.below (Below.refl _ _).drew).put3 (o ++ abcAB1 r))
              have RR3 := Lib.hid ((RR.out.below (Below.refl _ _).drew).setCell (b' := w.heap.size + 2) (o := 3) (u := .string (B (o ++ abcAB1 r))) (by omega))
              have RQ3 := Lib.hid ((RQ.out.below (Below.refl _ _).drew).setCell (b' := w.heap.size + 2) (o := 3) (u := .string (B (o ++ abcAB1 r))) (by omega))
              have HB3 := Lib.hid (HB.out.drew.setCell (p := ⟨w.heap.size + 2, 3, none⟩) (by simp) (.string (B (o ++ abcAB1 r))))
              clear q3 fz z0 z1 hcell
              generalize wr.drew = x4 at *
              go_wp2_with fail
              rw [HA.out, HC.out]
              go_roundw
              case rel => exact ⟨o ++ abcAB1 r, by rw [HL.out]; go_num, by rw [HL.out]; omega, by rw [HL.out]; omega, by rw [HL.out]; exact HST.out, RB3.out, RR3.out, RQ3.out, HB3.out⟩
              case measure => simp [intOf]; omega
            · have hq2' : ¬ (o.length : Int) < 2 := by omega
              clear kb hb fz
              go_wp2_with (first | (refine wpList_store_rl rfl _ _ rfl _ _ RQ.out rfl ⟨r0, r1, l, o, r4⟩ (by unfold rlV; rfl) ?_; intro W' hB' hg' hs'; clear RQ))
              refine ret_rl rfl rfl rfl hB' ?_
              exact ⟨by unfold inW outW; rw [← flat_end HLE.out h1 h2 (by omega), ← flat_end HOE.out h3 h4 (by omega)], HB.out.grown hg' HB.out.size (by simp)⟩
          · have hp2' : ¬ (o.length : Int) < (ys.length : Int) := by omega
            clear kb hb fz
            go_wp2_with (first | (refine wpList_store_rl rfl _ _ rfl _ _ RQ.out rfl ⟨r0, r1, l, o, r4⟩ (by unfold rlV; rfl) ?_; intro W' hB' hg' hs'; clear RQ))
            refine ret_rl rfl rfl rfl hB' ?_
            exact ⟨by unfold inW outW; rw [← flat_end HLE.out h1 h2 (by omega), ← flat_end HOE.out h3 h4 (by omega)], HB.out.grown hg' HB.out.size (by simp)⟩
    · have hp' : ¬ (l.length : Int) < (xs.length : Int) := by omega
      clear fz q2 hb kb HX
      go_upto_region 7 with fail
      generalize wr = x3 at *
      go_wp2_with fail
      go_loopw [7] (fun i wr => ∃ o : List UInt8, i = .int .i64 (o.length : Nat) ∧ o.length ≤ 2 ∧ o.length ≤ ys.length ∧ o = (ys.take o.length).flatMap outC ∧ RlBlock wr (w.heap.size + 2) ⟨r0, r1, l, o, r4⟩ ∧ RrBlock wr w.heap.size (.slice la xs.length lc) (.slice oa ys.length oc) f t c ∧ RlBlock wr (w.heap.size + 1) ⟨0, 0, [], [], 0⟩ ∧ Below w.heap.size w wr) (fun i _ => 2 - (intOf i).toNat)
      case atStart => exact ⟨[], rfl, by simp, Nat.zero_le _, rfl, RB.out, RR.out, RQ.out, HB.out⟩
      case round =>
        obtain ⟨o, rfl, h3, h4, hoe, kb, kr, kq, hb⟩ := hrel
        have HOE := Lib.hid hoe
        clear hoe
        clear RB RR RQ HB z0 z1
        obtain ⟨z0, z1, z2, z3, z4⟩ := kr.cells
        clear z2 z3 z4
        have HB := Lib.hid hb
        have RB := Lib.hid kb
        have RR := Lib.hid kr
        have RQ := Lib.hid kq
        obtain ⟨q0, q1, q2, q3, q4⟩ := kb.cells
        dsimp only at q0 q1 q2 q3 q4
        clear kr kq
        have fz := kb.free 3
        by_cases hp2 : o.length < ys.length
        · have hp2' : (o.length : Int) < (ys.length : Int) := by omega
          by_cases hq2 : o.length < 2
          · have hq2' : (o.length : Int) < 2 := by omega
            clear q0 q1 q2 q4
            obtain ⟨a0, c0, hv, hc⟩ := HY.out.on hb
            obtain ⟨rfl, -⟩ : oa = a0 ∧ oc = c0 := by simpa using hv
            obtain ⟨b, off, rfl, hbb, hc⟩ := hc (by omega)
            obtain ⟨hcell, hx0, hx1⟩ := hc o.length hp2
            obtain ⟨x, hxx⟩ : ∃ x, x = ys[o.length] := ⟨_, rfl⟩
            rw [← hxx] at hcell hx0 hx1
            obtain ⟨r, hr, hr3⟩ : ∃ r : Nat, x.tmod 6 = (r : Int) ∧ r < 6 := ⟨(x.tmod 6).toNat, by rw [Int.tmod_eq_emod_of_nonneg hx0]; omega, by rw [Int.tmod_eq_emod_of_nonneg hx0]; omega⟩
            have hr0 : (0 : Int) ≤ (r : Int) := by omega
            have hr4 : (r : Int) + 1 ≤ 6 := by omega
            have hr5 : (r : Int) ≤ (r : Int) + 1 := by omega
            have hj0 : (0 : Int) ≤ (o.length : Int) := by omega
            have hwr : IntKind.u8.wrap ((r : Int) + 1) = (r : Int) + 1 := IntWalk.u8_in _ (by omega)
            have hn1 : ((r : Int) + 1).toNat = r + 1 := by omega
            have HA := Lib.hid (abcAB r hr3)
            have hcat : ¬ 9223372036854775807 < (B o).size + ((⟨#[97, 98, 99, 65, 66, 49]⟩ : ByteArray).extract r (r + 1)).size := by rw [abcAB r hr3, size_B, size_B]; simp [abcAB1]; omega
            have HST := Lib.hid (show o ++ abcAB1 r = (ys.take (o.length + 1)).flatMap outC by
              rw [flat_step _ _ _ hp2, ← HOE.out, ← hxx]; unfold outC; rw [hr]; rfl)
            clear hxx
            have HC := Lib.hid (B_app o (abcAB1 r))
            have HL := Lib.hid (show (o ++ abcAB1 r).length = o.length + 1 by simp [abcAB1])
            clear hc hv hb kb
            go_upto_region 9 with fail
            go_still_tail 16, (by kernel_rfl)
            change wpList _ _ _ _ _ wr.drew
            have e0 : wr.drew.cell? ⟨w.heap.size + 2, 3, none⟩ = some (.string (B o)) := q3
            have fe : wr.drew.frozen? ⟨w.heap.size + 2, 3, none⟩ = false := fz
            have RB3 := Lib.hid ((RB.out.below (Below.refl _ _).drew).put3 (o ++ abcAB1 r))
            have RR3 := Lib.hid ((RR.out.below (Below.refl _ _).drew).setCell (b' := w.heap.size + 2) (o := 3) (u := .string (B (o ++ abcAB1 r))) (by omega))
            have RQ3 := Lib.hid ((RQ.out.below (Below.refl _ _).drew).setCell (b' := w.heap.size + 2) (o := 3) (u := .string (B (o ++ abcAB1 r))) (by omega))
            have HB3 := Lib.hid (HB.out.drew.setCell (p := ⟨w.heap.size + 2, 3, none⟩) (by simp) (.string (B (o ++ abcAB1 r))))
            clear q3 fz z0 z1 hcell
            generalize wr.drew = x4 at *
            go_wp2_with fail
            rw [HA.out, HC.out]
            go_roundw
            case rel => exact ⟨o ++ abcAB1 r, by rw [HL.out]; go_num, by rw [HL.out]; omega, by rw [HL.out]; omega, by rw [HL.out]; exact HST.out, RB3.out, RR3.out, RQ3.out, HB3.out⟩
            case measure => simp [intOf]; omega
          · have hq2' : ¬ (o.length : Int) < 2 := by omega
            clear kb hb fz
            go_wp2_with (first | (refine wpList_store_rl rfl _ _ rfl _ _ RQ.out rfl ⟨r0, r1, l, o, r4⟩ (by unfold rlV; rfl) ?_; intro W' hB' hg' hs'; clear RQ))
            refine ret_rl rfl rfl rfl hB' ?_
            exact ⟨by unfold inW outW; rw [← flat_end HLE.out h1 h2 (by omega), ← flat_end HOE.out h3 h4 (by omega)], HB.out.grown hg' HB.out.size (by simp)⟩
        · have hp2' : ¬ (o.length : Int) < (ys.length : Int) := by omega
          clear kb hb fz
          go_wp2_with (first | (refine wpList_store_rl rfl _ _ rfl _ _ RQ.out rfl ⟨r0, r1, l, o, r4⟩ (by unfold rlV; rfl) ?_; intro W' hB' hg' hs'; clear RQ))
          refine ret_rl rfl rfl rfl hB' ?_
          exact ⟨by unfold inW outW; rw [← flat_end HLE.out h1 h2 (by omega), ← flat_end HOE.out h3 h4 (by omega)], HB.out.grown hg' HB.out.size (by simp)⟩
end Go.Proofs.YtnbiedijofdjhaaDoor

/-
  flaw.follow: where a chain of allowed rules leads.
-/
import Derived.Test.YtadaijepalhohabDoorFL
namespace Go.Proofs.YtadaijepalhohabDoor
open Go.RowKit
open Pl

/-- Where a list of places leads from a mode, if it is a chain of rules that p allows. -/
def folL (p : Rl → Bool) (rs : List Rl) : Int → List Int → Option Int
  | mode, [] => some mode
  | mode, i :: r => if 0 ≤ i ∧ i < (rs.length : Int) then (match rs[i.toNat]? with | some x => if x.src = mode ∧ p x = true then folL p rs x.dst r else none | none => none) else none
theorem folL_out {p : Rl → Bool} {rs : List Rl} {mode i : Int} {r : List Int} (h : ¬ (0 ≤ i ∧ i < (rs.length : Int))) : folL p rs mode (i :: r) = none := by rw [folL, if_neg h]
theorem folL_in {p : Rl → Bool} {rs : List Rl} {mode : Int} {k : Nat} {r : List Int} (h : k < rs.length) : folL p rs mode ((k : Int) :: r) = if rs[k].src = mode ∧ p rs[k] = true then folL p rs rs[k].dst r else none := by
  have e : rs[((k : Nat) : Int).toNat]? = some rs[k] := by rw [Int.toNat_natCast]; exact List.getElem?_eq_getElem h
  rw [folL, if_pos ⟨by omega, by omega⟩, e]
/-- What follow answers. -/
def FoPost (o : Option Int) (w : World) (e : Ending) (w' : World) : Prop := (e = .returned (.tuple #[.int .i64 (o.getD 0), .bool o.isSome])) ∧ Below w.heap.size w w'

set_option maxHeartbeats 2000000 in
set_option maxRecDepth 100000 in
theorem Follow_any (f : FuncId) (p : Rl → Bool) (hent : ∀ (args : Array Value) (W : World), (callFunc f args).run Tryd.prog W = .ok (.enter f args) W) (HF : ∀ (x : Rl) (W : World), Calls Tryd.prog f #[rlV x] W fun e w' => e = .returned (.bool (p x)) ∧ Below W.heap.size W w')
    (m acc : Nat) (a b : Option Addr) (c d : Nat) (rs : List Rl) (st : Int) (xs : List Int) (w : World) (hx : RlsAt w w.heap.size (.slice a rs.length c) rs) (hl : rs.length ≤ 100000)
    (hy : NumsAt w w.heap.size (.slice b xs.length d) xs) (hxl : xs.length ≤ maxLen) :
    Calls Tryd.prog 45 #[.agg #[.int .i64 (m : Nat), .int .u8 (acc : Nat), .slice a rs.length c], .func (.func f) #[] #[], .int .i64 st, .slice b xs.length d] w (FoPost (folL p rs st xs) w) := by
  unfold maxLen at hxl
  have b1 := (Below.refl w.heap.size w).alloc (Nat.le_refl _) (.cells #[.int .i64 (m : Nat), .int .u8 (acc : Nat), .slice a rs.length c] 28)
  have s1 := SchBlock.new w (.int .i64 (m : Nat)) (.int .u8 (acc : Nat)) (.slice a rs.length c)
  have HX := Lib.hid hx
  have HY := Lib.hid hy
  have S1 := Lib.hid s1
  have B2 := Lib.hid b1
  obtain ⟨P, hP0⟩ : ∃ P, P = folL p rs st xs := ⟨_, rfl⟩
  rw [← hP0]
  have HP0 := Lib.hid hP0
  clear hx hy s1 b1 hP0
  go_enter Tryd.func45, Tryd.ntmps45
  go_upto_region 1 with fail
  generalize w.alloc _ = x1 at *
  go_wp2_with fail
  go_loopw [10, 16] (fun mv iv wr => ∃ (j : Nat) (mode : Int), iv = .int .i64 (j : Nat) ∧ mv = .int .i64 mode ∧ j ≤ xs.length ∧ P = folL p rs mode (xs.drop j) ∧ SchBlock wr w.heap.size (.int .i64 (m : Nat)) (.int .u8 (acc : Nat)) (.slice a rs.length c) ∧ Below w.heap.size w wr) (fun _ iv _ => xs.length - (intOf iv).toNat)
  case atStart => exact ⟨0, st, rfl, rfl, Nat.zero_le _, HP0.out, S1.out, B2.out⟩
  case round =>
    obtain ⟨j, mode, rfl, rfl, hj, hp, hs, hb⟩ := hrel
    have HB := Lib.hid hb
    have SB := Lib.hid hs
    have HPE := Lib.hid hp
    obtain ⟨s0, s1, s2⟩ := hs.cells
    clear hb hs hp HP0 S1 B2
    have j0 : (0 : Int) ≤ (j : Int) := by omega
    by_cases h1 : (j : Int) < (xs.length : Int)
    · have hjx : j < xs.length := by omega
      obtain ⟨a', c', hv, hP⟩ := HY.out.on HB.out
      obtain ⟨rfl, -⟩ : b = a' ∧ d = c' := by simpa using hv
      obtain ⟨b1, o1, ha, -, hc⟩ := hP (by omega)
      subst ha
      have p1 := hc j hjx
      obtain ⟨i, hie⟩ : ∃ i, i = xs[j] := ⟨_, rfl⟩
      have hdr : xs.drop j = i :: xs.drop (j + 1) := by rw [List.drop_eq_getElem_cons hjx, hie]
      rw [← hie] at p1
      have HPE2 := HPE.out
      rw [hdr] at HPE2
      clear hc hP hv hie hdr HPE
      have CI := Lib.hid (isRule_any (m : Nat) (acc : Nat) a rs.length c i wr)
      by_cases h3 : 0 ≤ i ∧ i < (rs.length : Int)
      · obtain ⟨k, hk⟩ : ∃ k : Nat, i = (k : Int) := ⟨i.toNat, by omega⟩
        subst hk
        have hkr : k < rs.length := by omega
        have k0 : (0 : Int) ≤ (k : Int) := h3.1
        have k2 := h3.2
        have hb3 : (decide ((0 : Int) ≤ (k : Int)) && decide ((k : Int) < (rs.length : Int))) = true := by rw [decide_eq_true k0, decide_eq_true k2]; rfl
        rw [hb3] at CI
        have HPI := HPE2.trans (folL_in hkr)
        obtain ⟨x, hxe⟩ : ∃ x, x = rs[k] := ⟨_, rfl⟩
        rw [← hxe] at HPI
        have CF := fun W => Lib.hid (HF x W)
        have HXE := Lib.hid hxe
        clear h3 hb3 hxe HPE2
        go_wp2_with fail
        refine (CI.out).mono ?_
        rintro e W5 ⟨rfl, hb5⟩
        have SB5 := Lib.hid (SB.out.below hb5)
        have HB5 := Lib.hid (HB.out.trans (hb5.mono HB.out.size))
        clear hb5 CI SB HB s0 s1 s2 p1
        obtain ⟨s0, s1, s2⟩ := SB5.out.cells
        obtain ⟨a', c', hv, hP⟩ := HX.out.on HB5.out
        obtain ⟨rfl, -⟩ : a = a' ∧ c = c' := by simpa using hv
        obtain ⟨bb, oo, ha, hlt, hc⟩ := hP (by omega)
        subst ha
        obtain ⟨y0, y1, y2, y3, y4⟩ := hc k hkr
        rw [← HXE.out] at y0 y1 y2 y3 y4
        have HLT := Lib.hid hlt
        clear hc hP hv hlt
        by_cases h4 : x.src = mode
        · have hne : (x.src != mode) = false := by simpa using h4
          cases hpx : p x with
          | true =>
            rw [hpx] at CF
            rw [if_pos ⟨h4, hpx⟩] at HPI
            have HN := Lib.hid HPI
            clear HPI hpx h4
            go_wp2_with fail
            refine ((CF _).out).mono ?_
            rintro e W6 ⟨rfl, hb6⟩
            have SB6 := Lib.hid (SB5.out.below hb6)
            have HB6 := Lib.hid (HB5.out.trans (hb6.mono HB5.out.size))
            obtain ⟨u0, u1, u2⟩ := SB6.out.cells
            have v1 := (hb6.cell (p := ⟨bb, oo + k * 5 + 1, none⟩) HLT.out).trans y1
            clear hb6 CF SB5 HB5 s0 s1 s2 y0 y1 y2 y3 y4
            go_wp2_with fail
            try go_region
            try go_wp2_with fail
            go_roundw
            case rel => exact ⟨j + 1, x.dst, by go_num, rfl, by omega, HN.out, (by first | exact SB6.out | exact SB6.out.below (Below.refl _ _).drew), (by first | exact HB6.out | exact HB6.out.drew)⟩
            case measure => simp [intOf]; omega
          | false =>
            rw [hpx] at CF
            rw [if_neg (fun e => by rw [hpx] at e; cases e.2)] at HPI
            have HN := Lib.hid HPI
            clear HPI hpx h4
            go_wp2_with fail
            refine ((CF _).out).mono ?_
            rintro e W6 ⟨rfl, hb6⟩
            have HB6 := Lib.hid (HB5.out.trans (hb6.mono HB5.out.size))
            clear hb6 CF SB5 HB5 s0 s1 s2 y0 y1 y2 y3 y4
            go_wp2_with fail
            go_ret2
            exact ⟨by rw [HN.out]; rfl, HB6.out⟩
        · have hne : (x.src != mode) = true := by simpa using h4
          rw [if_neg (fun e => h4 e.1)] at HPI
          have HN := Lib.hid HPI
          clear HPI h4
          go_wp2_with fail
          go_ret2
          exact ⟨by rw [HN.out]; rfl, HB5.out⟩
      · have HN := Lib.hid (HPE2.trans (folL_out h3))
        have hb3 : (decide (0 ≤ i) && decide (i < (rs.length : Int))) = false := by
          rcases Classical.em (0 ≤ i) with q | q
          · rw [decide_eq_false (show ¬ i < (rs.length : Int) from fun e => h3 ⟨q, e⟩), Bool.and_false]
          · rw [decide_eq_false q]; rfl
        rw [hb3] at CI
        clear HPE2 h3 hb3
        go_wp2_with fail
        refine (CI.out).mono ?_
        rintro e W5 ⟨rfl, hb5⟩
        have HB5 := Lib.hid (HB.out.trans (hb5.mono HB.out.size))
        clear hb5 CI
        go_wp2_with fail
        go_ret2
        exact ⟨by rw [HN.out]; rfl, HB5.out⟩
    · have HN := Lib.hid (show P = some mode by rw [HPE.out, List.drop_eq_nil_of_le (by omega)]; rfl)
      go_wp2_with fail
      go_ret2
      exact ⟨by rw [HN.out]; rfl, HB.out⟩
end Go.Proofs.YtadaijepalhohabDoor

/-
  flaw.Proves.
-/
import Derived.Test.YtadaijepalhohabDoorFU
import Derived.Test.YtadaijepalhohabDoorPV
namespace Go.Proofs.YtadaijepalhohabDoor
open Go.RowKit
open Pl

def rMs (m : Nat) (rs : List Rl) : Nat := rnds rStep rs (m - 1) 1
def lMs (m acc : Nat) (rs : List Rl) : Nat := rnds lStep rs (m - 1) acc
/-- What Proves asks of a valid scheme. -/
def prB (m acc : Nat) (rs : List Rl) (p : Rep) : Bool := pdB (deadK (rMs m rs) (lMs m acc rs)) rs (-1) p.dead && (psB (lMs m acc rs) rs p.stuck && peB (rMs m rs) (lMs m acc rs) rs p.endless)
theorem valid_in {m acc : Nat} {rs : List Rl} (h : validB m acc rs = true) : (1 ≤ m ∧ m ≤ 8) ∧ (∀ x ∈ rs, InM m x) ∧ (∀ x ∈ rs, In8 x) ∧ rs.length ≤ 64 := by
  obtain ⟨h1, h2, -, h4, h5⟩ := valid_ok h
  refine ⟨⟨by omega, by omega⟩, fun x hx => ?_, fun x hx => ?_, h4⟩
  · obtain ⟨k, hk, rfl⟩ := List.getElem_of_mem hx
    have := (h5 k hk).1
    exact ⟨⟨this.s0, this.s1⟩, this.d0, this.d1⟩
  · obtain ⟨k, hk, rfl⟩ := List.getElem_of_mem hx
    have := (h5 k hk).1
    exact ⟨⟨this.s0, by have := this.s1; omega⟩, this.d0, by have := this.d1; omega⟩

set_option maxHeartbeats 2000000 in
set_option maxRecDepth 100000 in
theorem Proves_yes (m acc : Nat) (a : Option Addr) (c : Nat) (rs : List Rl) (p : Rep) (v : Value) (w : World) (hT : StrTab w) (h0 : 0 < w.heap.size) (hv : validB m acc rs = true) (hacc : acc < 256) (hx : RlsAt w w.heap.size (.slice a rs.length c) rs) (hcap : rs.length ≤ c)
    (hz : ∀ x ∈ rs, x.inp.length ≤ maxLen ∧ x.out.length ≤ maxLen) (hp : RepAt w v p) (hl1 : p.dead.length ≤ maxLen) (hl2 : p.stuck.length ≤ maxLen) (hl3 : p.endless.length ≤ maxLen) :
    Calls Tryd.prog 15 #[.agg #[.int .i64 (m : Nat), .int .u8 (acc : Nat), .slice a rs.length c], v] w fun e w' => e = .returned (.bool (prB m acc rs p)) ∧ Below w.heap.size w w' := by
  obtain ⟨⟨hm1, hm8⟩, hIM, hI8, hl64⟩ := valid_in hv
  obtain ⟨a1, a2, a3, c1, c2, c3, rfl, n1, n2, n3⟩ := hp
  have hR : rMs m rs < 256 := rnds_lt (f := rStep) (fun m x h1 h2 => rStep_lt h1 h2) rs hI8 _ 1 (by decide)
  have hL : lMs m acc rs < 256 := rnds_lt (f := lStep) (fun m x h1 h2 => lStep_lt h1 h2) rs hI8 _ acc hacc
  have b1 := (Below.refl w.heap.size w).alloc (Nat.le_refl _) (.cells #[.int .i64 (m : Nat), .int .u8 (acc : Nat), .slice a rs.length c] 28)
  have b2 := b1.alloc b1.size (.cells #[.slice a1 p.dead.length c1, .slice a2 p.stuck.length c2, .slice a3 p.endless.length c3] 37)
  have s1 := (SchBlock.new w (.int .i64 (m : Nat)) (.int .u8 (acc : Nat)) (.slice a rs.length c)).below ((Below.refl _ _).alloc (Nat.le_refl _) (.cells #[.slice a1 p.dead.length c1, .slice a2 p.stuck.length c2, .slice a3 p.endless.length c3] 37))
  have r1 := RpBlock.new (w.alloc (.cells #[.int .i64 (m : Nat), .int .u8 (acc : Nat), .slice a rs.length c] 28)) (.slice a1 p.dead.length c1) (.slice a2 p.stuck.length c2) (.slice a3 p.endless.length c3)
  rw [World.size_alloc] at r1
  have CV := fun W (h : Below w.heap.size w W) => Lib.hid (Valid_any m acc a c rs W (hT.below h h0) (Nat.lt_of_lt_of_le h0 h.size) (hx.on h) hcap (by unfold maxLen; omega) hz (by omega) (by omega) (by omega) (by omega))
  rw [hv] at CV
  have CK := fun W (h : Below w.heap.size w W) => Lib.hid (kindsOf_any m acc a c rs W hm1 hm8 hacc (hx.on h) (by unfold maxLen; omega) hI8)
  have CD := fun W (h : Below w.heap.size w W) => Lib.hid (PDead_any m acc (rMs m rs) (lMs m acc rs) a a1 c c1 rs p.dead W hR hL (hx.on h) (by omega) hI8 (n1.on h) hl1)
  have CS := fun W (h : Below w.heap.size w W) => Lib.hid (PStuck_any m acc (rMs m rs) (lMs m acc rs) a a2 c c2 rs p.stuck W hL (hx.on h) (by omega) hI8 (n2.on h) hl2)
  have CE := fun W (h : Below w.heap.size w W) => Lib.hid (PEndless_any m acc (rMs m rs) (lMs m acc rs) a a3 c c3 rs p.endless W hR hL (hx.on h) (by omega) hI8 (n3.on h) hl3)
  obtain ⟨P, hP0⟩ : ∃ P, P = prB m acc rs p := ⟨_, rfl⟩
  rw [← hP0]
  unfold prB at hP0
  change ∀ W, _ → Hid (Calls Tryd.prog 19 _ _ fun e w' => e = .returned (.agg #[.int .u8 ((rMs m rs : Nat) : Int), .int .u8 ((lMs m acc rs : Nat) : Int)]) ∧ Below _ _ w') at CK
  generalize rMs m rs = r at *
  generalize lMs m acc rs = l at *
  generalize pdB (deadK r l) rs (-1) p.dead = q1 at *
  generalize psB l rs p.stuck = q2 at *
  generalize peB r l rs p.endless = q3 at *
  have HP := Lib.hid hP0
  have S1 := Lib.hid s1
  have R1 := Lib.hid r1
  have B2 := Lib.hid b2
  clear hT h0 hx hz n1 n2 n3 hl1 hl2 hl3 hP0 s1 r1 b1 b2 hIM hI8 hR hL hv
  go_enter Tryd.func15, Tryd.ntmps15
  go_upto_region 1 with fail
  generalize (w.alloc _).alloc _ = x1 at *
  obtain ⟨s0, sa, s2⟩ := S1.out.cells
  go_wp2_with fail
  refine ((CV x1 B2.out).out).mono ?_
  rintro e x2 ⟨rfl, hb⟩
  have S2 := Lib.hid (S1.out.below hb)
  have R2 := Lib.hid (R1.out.below hb)
  have B3 := Lib.hid (B2.out.trans (hb.mono B2.out.size))
  clear hb CV S1 R1 B2 s0 sa s2
  obtain ⟨s0, sa, s2⟩ := S2.out.cells
  go_wp2_with fail
  refine ((CK x2 B3.out).out).mono ?_
  rintro e x3 ⟨rfl, hb⟩
  have S3 := Lib.hid (S2.out.below hb)
  have R3 := Lib.hid (R2.out.below hb)
  have B4 := Lib.hid (B3.out.trans (hb.mono B3.out.size))
  clear hb CK S2 R2 B3 s0 sa s2
  have NB : KBlock (x3.alloc (.cells #[.int .u8 0, .int .u8 0] 51)) x3.heap.size 0 0 := KBlock.new x3 0 0
  have AL := Lib.hid ((Below.refl x3.heap.size x3).alloc (Nat.le_refl _) (.cells #[.int .u8 0, .int .u8 0] 51))
  go_upto_region 4 with (first | (refine wpList_store_k rfl _ _ rfl _ _ _ NB rfl r l rfl ?_; intro W7 KB hg' hs'; clear NB))
  have hbb := AL.out.grown hg' AL.out.size (by simp)
  have S4 := Lib.hid (S3.out.below hbb)
  have R4 := Lib.hid (R3.out.below hbb)
  have B5 := Lib.hid (B4.out.trans (hbb.mono B4.out.size))
  have KB4 := Lib.hid KB
  clear hbb hg' hs' AL KB S3 R3 B4
  generalize x3.heap.size = gk at *
  obtain ⟨s0, sa, s2⟩ := S4.out.cells
  obtain ⟨t0, t1, t2⟩ := R4.out.cells
  obtain ⟨k0, k1⟩ := KB4.out.cells
  go_wp2_with fail
  refine ((CD W7 B5.out).out).mono ?_
  rintro e W8 ⟨rfl, hb⟩
  have S5 := Lib.hid (S4.out.below hb)
  have R5 := Lib.hid (R4.out.below hb)
  have K5 := Lib.hid (KB4.out.below hb)
  have B6 := Lib.hid (B5.out.trans (hb.mono B5.out.size))
  clear hb CD S4 R4 KB4 B5 s0 sa s2 t0 t1 t2 k0 k1
  obtain ⟨s0, sa, s2⟩ := S5.out.cells
  obtain ⟨t0, t1, t2⟩ := R5.out.cells
  obtain ⟨k0, k1⟩ := K5.out.cells
  cases q1 with
  | false =>
    have HN := Lib.hid (show P = false from HP.out)
    go_wp2_with fail
    go_ret
    exact ⟨by rw [HN.out]; rfl, B6.out⟩
  | true =>
    go_wp2_with fail
    refine ((CS W8 B6.out).out).mono ?_
    rintro e W9 ⟨rfl, hb⟩
    have S6 := Lib.hid (S5.out.below hb)
    have R6 := Lib.hid (R5.out.below hb)
    have K6 := Lib.hid (K5.out.below hb)
    have B7 := Lib.hid (B6.out.trans (hb.mono B6.out.size))
    clear hb CS S5 R5 K5 B6 s0 sa s2 t0 t1 t2 k0 k1
    obtain ⟨s0, sa, s2⟩ := S6.out.cells
    obtain ⟨t0, t1, t2⟩ := R6.out.cells
    obtain ⟨k0, k1⟩ := K6.out.cells
    cases q2 with
    | false =>
      have HN := Lib.hid (show P = false from HP.out)
      go_wp2_with fail
      go_ret
      exact ⟨by rw [HN.out]; rfl, B7.out⟩
    | true =>
      have HN := Lib.hid (show P = q3 from HP.out)
      go_wp2_with fail
      refine ((CE W9 B7.out).out).mono ?_
      rintro e W10 ⟨rfl, hb⟩
      have B8 := Lib.hid (B7.out.trans (hb.mono B7.out.size))
      clear hb
      go_wp2_with fail
      go_ret
      exact ⟨by rw [HN.out]; rfl, B8.out⟩
end Go.Proofs.YtadaijepalhohabDoor

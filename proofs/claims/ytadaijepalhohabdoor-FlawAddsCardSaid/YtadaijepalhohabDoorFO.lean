/-
  flaw.provesStuck.
-/
import Derived.Test.YtadaijepalhohabDoorFN
namespace Go.Proofs.YtadaijepalhohabDoor
open Go.RowKit
open Pl

theorem enterAny (args : Array Value) (W : World) : (callFunc 37 args).run Tryd.prog W = .ok (.enter 37 args) W := by kernel_rfl
theorem enterNothing (args : Array Value) (W : World) : (callFunc 39 args).run Tryd.prog W = .ok (.enter 39 args) W := by kernel_rfl
theorem folL_8 {p : Rl → Bool} {rs : List Rl} (h8 : ∀ x ∈ rs, In8 x) : ∀ (xs : List Int) (mode t : Int), 0 ≤ mode ∧ mode < 8 → folL p rs mode xs = some t → 0 ≤ t ∧ t < 8
  | [], mode, t, hm, h => by
    rw [folL] at h
    rw [← Option.some.inj h]; exact hm
  | i :: r, mode, t, hm, h => by
    by_cases h3 : 0 ≤ i ∧ i < (rs.length : Int)
    · obtain ⟨k, rfl⟩ : ∃ k : Nat, i = (k : Int) := ⟨i.toNat, by omega⟩
      have hk : k < rs.length := by omega
      rw [folL_in hk] at h
      split at h
      · exact folL_8 h8 r _ t (h8 _ (List.getElem_mem hk)).2 h
      · cases h
    · rw [folL_out h3] at h; cases h
/-- What provesStuck asks. -/
def psB (l : Nat) (rs : List Rl) (xs : List Int) : Bool :=
  if xs.length = 0 then true else match folL (fun _ => true) rs 0 xs with
    | some t => l.testBit 0 && !l.testBit t.toNat
    | none => false

set_option maxHeartbeats 2000000 in
set_option maxRecDepth 100000 in
theorem PStuck_any (m acc r l : Nat) (a b : Option Addr) (c d : Nat) (rs : List Rl) (xs : List Int) (w : World) (hlv : l < 256) (hx : RlsAt w w.heap.size (.slice a rs.length c) rs) (hl : rs.length ≤ 100000) (h8 : ∀ x ∈ rs, In8 x)
    (hy : NumsAt w w.heap.size (.slice b xs.length d) xs) (hxl : xs.length ≤ maxLen) :
    Calls Tryd.prog 28 #[.agg #[.int .i64 (m : Nat), .int .u8 (acc : Nat), .slice a rs.length c], .agg #[.int .u8 (r : Nat), .int .u8 (l : Nat)], .slice b xs.length d] w fun e w' => e = .returned (.bool (psB l rs xs)) ∧ Below w.heap.size w w' := by
  have b1 := (Below.refl w.heap.size w).alloc (Nat.le_refl _) (.cells #[.int .i64 (m : Nat), .int .u8 (acc : Nat), .slice a rs.length c] 28)
  have b2 := b1.alloc b1.size (.cells #[.int .u8 (r : Nat), .int .u8 (l : Nat)] 51)
  have s1 := (SchBlock.new w (.int .i64 (m : Nat)) (.int .u8 (acc : Nat)) (.slice a rs.length c)).below ((Below.refl _ _).alloc (Nat.le_refl _) (.cells #[.int .u8 (r : Nat), .int .u8 (l : Nat)] 51))
  have k1 := KBlock.new (w.alloc (.cells #[.int .i64 (m : Nat), .int .u8 (acc : Nat), .slice a rs.length c] 28)) r l
  rw [World.size_alloc] at k1
  have CF := fun W (h : Below w.heap.size w W) => Lib.hid (Follow_any 37 (fun _ => true) enterAny takesAny_any m acc a b c d rs 0 xs W (hx.on h) hl (hy.on h) hxl)
  obtain ⟨P, hP0⟩ : ∃ P, P = psB l rs xs := ⟨_, rfl⟩
  rw [← hP0]
  have HP0 := Lib.hid hP0
  have H8 := Lib.hid h8
  obtain ⟨s0, sa, s2⟩ := s1.cells
  have K1 := Lib.hid k1
  have B2 := Lib.hid b2
  unfold maxLen at hxl
  clear hx hy h8 s1 k1 b1 b2 hP0
  by_cases hn : xs.length = 0
  · have HN := Lib.hid (show P = true by rw [HP0.out, psB, if_pos hn])
    have hz : ((xs.length : Int) == 0) = true := by simp [hn]
    clear hn
    go_enter Tryd.func28, Tryd.ntmps28
    go_wp2_with fail
    go_ret
    exact ⟨by rw [HN.out]; rfl, B2.out⟩
  · have hz : ((xs.length : Int) == 0) = false := by
      have q : ¬ ((xs.length : Int) = 0) := by omega
      exact beq_eq_false_iff_ne.2 q
    have HQ := HP0.out
    rw [psB, if_neg hn] at HQ
    clear hn
    go_enter Tryd.func28, Tryd.ntmps28
    go_upto_region 1 with fail
    generalize (w.alloc _).alloc _ = x1 at *
    go_wp2_with fail
    refine ((CF x1 B2.out).out).mono ?_
    rintro e W2 ⟨rfl, hb⟩
    have K2 := Lib.hid (K1.out.below hb)
    have HB2 := Lib.hid (B2.out.trans (hb.mono B2.out.size))
    clear hb CF K1 B2 s0 sa s2
    cases ho : folL (fun _ => true) rs 0 xs with
    | none =>
      rw [ho] at HQ
      have HN := Lib.hid (show P = false from HQ)
      clear HQ ho
      go_wp2_with fail
      go_ret
      exact ⟨by rw [HN.out]; rfl, HB2.out⟩
    | some t =>
      rw [ho] at HQ
      obtain ⟨t0, t8⟩ := folL_8 H8.out xs 0 t (by decide) ho
      obtain ⟨n, hnt⟩ : ∃ n : Nat, t = (n : Int) := ⟨t.toNat, by omega⟩
      subst hnt
      have hn8 : n < 8 := by omega
      have HQ2 := Lib.hid (show P = (l.testBit 0 && !l.testBit n) from HQ)
      have CA := fun W => Lib.hid (hasM_any l 0 hlv (by decide) W)
      have CB := fun W => Lib.hid (hasM_any l n hlv hn8 W)
      obtain ⟨k0, k1⟩ := K2.out.cells
      clear HQ ho t0 t8
      go_wp2_with fail
      refine ((CA _).out).mono ?_
      rintro e W3 ⟨rfl, rfl⟩
      cases h0 : l.testBit 0 with
      | false =>
        have HN := Lib.hid (show P = false by rw [HQ2.out, h0]; rfl)
        clear h0
        go_wp2_with fail
        go_ret
        exact ⟨by rw [HN.out]; rfl, HB2.out⟩
      | true =>
        have HN := Lib.hid (show P = !l.testBit n by rw [HQ2.out, h0]; rfl)
        clear h0
        go_wp2_with fail
        refine ((CB _).out).mono ?_
        rintro e W4 ⟨rfl, rfl⟩
        go_wp2_with fail
        go_ret
        exact ⟨by rw [HN.out]; rfl, HB2.out⟩
end Go.Proofs.YtadaijepalhohabDoor

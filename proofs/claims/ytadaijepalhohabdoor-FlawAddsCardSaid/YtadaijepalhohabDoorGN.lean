/-
  flaw.Proves of schemes that are not valid; the law's two.
-/
import Derived.Test.YtadaijepalhohabDoorGG
import Derived.Test.YtadaijepalhohabDoorGM
import Derived.Test.YtadaijepalhohabDoorRO
namespace Go.Proofs.YtadaijepalhohabDoor
open Go.RowKit
open Pl

set_option maxHeartbeats 400000 in
set_option maxRecDepth 100000 in
theorem Proves_no (m acc : Nat) (a : Option Addr) (c : Nat) (rs : List Rl) (a1 a2 a3 : Option Addr) (n1 n2 n3 c1 c2 c3 : Nat) (w : World) (hT : StrTab w) (h0 : 0 < w.heap.size) (hm : m ≤ 1000) (hacc : acc < 256) (hv : validB m acc rs = false) (hx : RlsAt w w.heap.size (.slice a rs.length c) rs) (hcap : rs.length ≤ c) (hl : rs.length ≤ 100000)
    (hz : ∀ x ∈ rs, x.inp.length ≤ maxLen ∧ x.out.length ≤ maxLen) :
    Calls Tryd.prog 15 #[.agg #[.int .i64 (m : Nat), .int .u8 (acc : Nat), .slice a rs.length c], .agg #[.slice a1 n1 c1, .slice a2 n2 c2, .slice a3 n3 c3]] w fun e w' => e = .returned (.bool false) ∧ Below w.heap.size w w' := by
  have b1 := (Below.refl w.heap.size w).alloc (Nat.le_refl _) (.cells #[.int .i64 (m : Nat), .int .u8 (acc : Nat), .slice a rs.length c] 28)
  have b2 := b1.alloc b1.size (.cells #[.slice a1 n1 c1, .slice a2 n2 c2, .slice a3 n3 c3] 37)
  have s1 := (SchBlock.new w (.int .i64 (m : Nat)) (.int .u8 (acc : Nat)) (.slice a rs.length c)).below ((Below.refl _ _).alloc (Nat.le_refl _) (.cells #[.slice a1 n1 c1, .slice a2 n2 c2, .slice a3 n3 c3] 37))
  have CV := fun W (h : Below w.heap.size w W) => Lib.hid (Valid_any m acc a c rs W (hT.below h h0) (Nat.lt_of_lt_of_le h0 h.size) (hx.on h) hcap (by unfold maxLen; omega) hz (by omega) (by omega) (by omega) (by omega))
  rw [hv] at CV
  obtain ⟨s0, sa, s2⟩ := s1.cells
  have B2 := Lib.hid b2
  clear hT h0 hx hz b1 b2 s1 hv
  go_enter Tryd.func15, Tryd.ntmps15
  go_upto_region 1 with fail
  generalize (w.alloc _).alloc _ = x1 at *
  go_wp2_with fail
  refine ((CV x1 B2.out).out).mono ?_
  rintro e x2 ⟨rfl, hb⟩
  have B3 := Lib.hid (B2.out.trans (hb.mono B2.out.size))
  clear hb
  go_wp2_with fail
  go_ret
  exact ⟨rfl, B3.out⟩
set_option maxHeartbeats 400000 in
set_option maxRecDepth 100000 in
theorem Two_any (a : Option Addr) (n c : Nat) (w : World) :
    Calls Tryd.prog 13 #[.slice a n c] w fun e w' => e = .returned (.agg #[.int .i64 2, .int .u8 1, .slice a n c]) ∧ Below w.heap.size w w' := by
  have NB := SchBlock.new w (.int .i64 0) (.int .u8 0) (.slice none 0 0)
  have al := Lib.hid ((Below.refl w.heap.size w).alloc (Nat.le_refl _) (.cells #[.int .i64 0, .int .u8 0, .slice none 0 0] 28))
  go_enter Tryd.func13, Tryd.ntmps13
  go_wp2_with (first | (refine wpList_store_sch rfl _ _ rfl _ _ _ _ NB rfl 2 1 a n c rfl ?_; intro W7 SB7 hg' hs'; clear NB))
  refine ret_sch rfl rfl rfl SB7 ?_
  exact ⟨rfl, al.out.grown hg' al.out.size (by simp)⟩
/-- Rules laid by a literal. -/
theorem rls_new (w : World) (rs : List Rl) (cs : Array Value) (h : cs = (rs.flatMap rlCells).toArray) : RlsAt (w.alloc (.cells cs 31)) (w.alloc (.cells cs 31)).heap.size (.slice (some ⟨w.heap.size, 0, none⟩) rs.length rs.length) rs := by
  subst h
  have h1 := heap_alloc_new w (.cells (rs.flatMap rlCells).toArray 31)
  have hc : ∀ j u, (rs.flatMap rlCells)[j]? = some u → (w.alloc (.cells (rs.flatMap rlCells).toArray 31)).cell? ⟨w.heap.size, j, none⟩ = some u := fun j u hj => by
    simp only [World.cell?, h1]
    simpa using hj
  refine ⟨_, _, rfl, fun _ => ⟨w.heap.size, 0, rfl, by rw [World.size_alloc]; omega, fun i hi => ?_⟩⟩
  obtain ⟨k0, k1, k2, k3, k4⟩ := rlCells_get rs i hi
  rw [Nat.zero_add]
  exact ⟨hc _ _ k0, hc _ _ k1, hc _ _ k2, hc _ _ k3, hc _ _ k4⟩
theorem nums_new (w : World) (xs : List Int) (cs : Array Value) (h : cs = (intC xs).toArray) : NumsAt (w.alloc (.cells cs 3)) (w.alloc (.cells cs 3)).heap.size (.slice (some ⟨w.heap.size, 0, none⟩) xs.length xs.length) xs := by
  subst h
  have h1 := heap_alloc_new w (.cells (intC xs).toArray 3)
  refine ⟨_, _, rfl, fun _ => ⟨w.heap.size, 0, rfl, by rw [World.size_alloc]; omega, fun i hi => ?_⟩⟩
  simp only [World.cell?, h1, Nat.zero_add]
  simp [intC, hi]
theorem nums_none (W : World) : NumsAt W W.heap.size (.slice none 0 0) [] := ⟨none, 0, rfl, fun h => absurd h (by decide)⟩
end Go.Proofs.YtadaijepalhohabDoor

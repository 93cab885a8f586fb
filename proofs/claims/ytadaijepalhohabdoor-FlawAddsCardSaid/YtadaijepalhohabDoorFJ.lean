/-
  Chains in memory of their own: slices.Clone, flaw.with.
-/
import Derived.Test.YtadaijepalhohabDoorFH
import Derived.Test.YtadaijepalhohabDoorShelf
namespace Go.Proofs.YtadaijepalhohabDoor
open Go.RowKit
open Pl

theorem NumsAt.cellAt {W : World} {B0 : Nat} {a : Option Addr} {c : Nat} {xs : List Int} (h : NumsAt W B0 (.slice a xs.length c) xs) (p : Addr) (hp : a = some p) : ∀ j u, (intC xs)[j]? = some u → W.cell? (p.add j) = some u := by
  intro j u hu
  obtain ⟨a', c', hv, hP⟩ := h
  obtain ⟨rfl, -⟩ : a = a' ∧ c = c' := by simpa using hv
  have hj : j < xs.length := by
    have := (List.getElem?_eq_some_iff.1 hu).1
    simpa [intC] using this
  obtain ⟨b, off, ha, -, hc⟩ := hP (by omega)
  rw [hp] at ha
  obtain rfl := Option.some.inj ha
  have h2 := hc j hj
  have h3 : (intC xs)[j]? = some (.int .i64 xs[j]) := by simp [intC, List.getElem?_map, List.getElem?_eq_getElem hj]
  rw [h3] at hu
  obtain rfl := Option.some.inj hu
  rw [show (⟨b, off, none⟩ : Addr).add j = ⟨b, off + j, none⟩ by cases j <;> rfl]
  exact h2
theorem nil_yes (W : World) : (binOp .eql 35 (.slice none 0 0) (.slice none 0 0)).run Tryd.prog W = .ok (.bool true) W := by kernel_rfl
theorem nil_no (p : Addr) (n c : Nat) (W : World) : (binOp .eql 35 (.slice (some p) n c) (.slice none 0 0)).run Tryd.prog W = .ok (.bool false) W := by kernel_rfl

set_option maxHeartbeats 1000000 in
set_option maxRecDepth 100000 in
theorem Clone_any (xs : List Int) (a : Option Addr) (c : Nat) (w : World) (hx : NumsAt w w.heap.size (.slice a xs.length c) xs) (hl : xs.length ≤ 1000) (hc : a = none → c = 0) :
    Calls Tryd.prog 57 #[.slice a xs.length c] w fun e w' => ∃ v, e = .returned v ∧ NumsOwn w' w.heap.size v xs ∧ Below w.heap.size w w' := by
  obtain ⟨i0, hi0, hz0, hz1, hz2⟩ := infoInt_parts
  cases a with
  | none =>
    have hn : xs.length = 0 := by
      obtain ⟨a', c', hv, hP⟩ := hx
      obtain ⟨rfl, -⟩ : none = a' ∧ c = c' := by simpa using hv
      rcases Nat.eq_zero_or_pos xs.length with h | h
      · exact h
      · obtain ⟨b, off, ha, -⟩ := hP h; cases ha
    obtain rfl := List.eq_nil_of_length_eq_zero hn
    obtain rfl := hc rfl
    clear hx
    have HNY := nil_yes
    go_enter Tryd.func57, Tryd.ntmps57
    go_wp2_with fail
    go_ret
    exact ⟨_, rfl, NumsOwn.nil _ _, Below.refl _ _⟩
  | some p =>
    have HC := Lib.hid (hx.on (Below.refl _ _) |>.cellAt p rfl)
    have al := (Below.refl w.heap.size w).alloc (Nat.le_refl _) (.cells #[] 3)
    have HC2 := Lib.hid ((hx.on al).cellAt p rfl)
    have HAL := Lib.hid al
    have hmx : 0 + xs.length ≤ maxLen := by unfold maxLen; omega
    have hby : (0 + xs.length) * 8 ≤ 140737488355328 := by omega
    have hln : (intC xs).length = xs.length * 1 := by simp [intC]
    have hba : w.heap.size ≤ (w.alloc (.cells #[] 3)).heap.size := by simp
    have O0 := Lib.hid (World.ownsRow_lit w #[] 0 (by omega) (by decide) rfl : (w.alloc (.cells #[] 3)).ownsRow w.heap.size 3 1 (.slice (some ⟨w.heap.size, 0, none⟩) 0 0) 0 [])
    clear hx hc al
    have HNN := nil_no p
    go_enter Tryd.func57, Tryd.ntmps57
    go_wp2_with (first
      | (at_builtin; refine wpList_append_own _ rfl _ _ 35 rfl w.heap.size 3 i0 (.int .i64 0) 1 8 Tryd.underlying35 hi0 hz0 hz1 hz2 rfl (by decide) _ _ _ rfl O0.out p xs.length c (intC xs) rfl hln HC2.out (ints_oneCell .i64 xs) hmx hby hba ?_; intro v2 w2 hown2 hgrow2 hnil2)
      | fail)
    have hg : (w.alloc (.cells #[] 3)).grownBy w2 (Value.slice (some ⟨w.heap.size, 0, none⟩) 0 0).ownBlock := hgrow2
    have HBE := Lib.hid (HAL.out.grown hg (by simp) (fun k hk => by have := O0.out; exact NumsOwn.blk (xs := []) (show NumsOwn (w.alloc (.cells #[] 3)) w.heap.size (.slice (some ⟨w.heap.size, 0, none⟩) 0 0) [] from this) k hk))
    have HOE := Lib.hid (show NumsOwn w2 w.heap.size v2 xs by
      have h := hown2
      rw [Nat.zero_add, List.nil_append] at h
      exact h)
    clear hown2 hgrow2 hnil2 hg
    go_ret
    exact ⟨v2, rfl, HOE.out, HBE.out⟩
theorem NumsOwn.nilCap {W : World} {b : Nat} {a : Option Addr} {c : Nat} {xs : List Int} (h : NumsOwn W b (.slice a xs.length c) xs) : a = none → c = 0 := by
  intro ha
  rcases h.2 with ⟨h0, _⟩ | ⟨g, cap, cur, h0, _⟩
  · have : c = 0 := by simpa using (show a = none ∧ xs.length = 0 ∧ c = 0 by simpa using h0).2.2
    exact this
  · subst ha; simp at h0
set_option maxHeartbeats 1000000 in
set_option maxRecDepth 100000 in
theorem With_any (xs : List Int) (i : Int) (a : Option Addr) (c : Nat) (w : World) (hx : NumsAt w w.heap.size (.slice a xs.length c) xs) (hl : xs.length ≤ 1000) (hc : a = none → c = 0) :
    Calls Tryd.prog 48 #[.slice a xs.length c, .int .i64 i] w fun e w' => ∃ v, e = .returned v ∧ NumsOwn w' w.heap.size v (xs ++ [i]) ∧ Below w.heap.size w w' := by
  obtain ⟨i0, hi0, hz0, hz1, hz2⟩ := infoInt_parts
  have CC := Lib.hid (Clone_any xs a c w hx hl hc)
  clear hx hc
  go_enter Tryd.func48, Tryd.ntmps48
  go_wp2_with fail
  refine (CC.out).mono ?_
  rintro e w1 ⟨v, rfl, ho, hb⟩
  obtain ⟨va, vc, rfl⟩ := ho.shape
  have HO := Lib.hid ho
  have HB := Lib.hid hb
  have hmx : xs.length + 1 ≤ maxLen := by unfold maxLen; omega
  have hby : (xs.length + 1) * 8 ≤ 140737488355328 := by omega
  have hba : w.heap.size ≤ (w1.alloc (.cells #[.int .i64 i] 3)).heap.size := by have := hb.size; simp; omega
  have hbl := Lib.hid (hb.alloc hb.size (.cells #[.int .i64 i] 3))
  have hob := Lib.hid ho.blk
  clear ho hb CC
  go_wp2_with (first
    | (at_builtin; refine wpList_append_own _ rfl _ _ 35 rfl w.heap.size 3 i0 (.int .i64 0) 1 8 Tryd.underlying35 hi0 hz0 hz1 hz2 rfl (by decide) _ _ _ rfl (World.ownsRow.alloc HO.out _) ⟨w1.heap.size, 0, none⟩ 1 1 [.int .i64 i] rfl rfl (cell_one_new _ _ _) (ints_oneCell .i64 [i]) hmx hby hba ?_; intro v2 w2 hown2 hgrow2 hnil2)
    | fail)
  have HBE := Lib.hid (hbl.out.grown hgrow2 hba (fun k hk => hob.out k hk))
  have HOE := Lib.hid (show NumsOwn w2 w.heap.size v2 (xs ++ [i]) by
    unfold NumsOwn
    rw [intC_snoc, List.length_append, List.length_singleton]; exact hown2)
  clear hown2 hgrow2 hnil2
  go_ret
  exact ⟨v2, rfl, HOE.out, HBE.out⟩
end Go.Proofs.YtadaijepalhohabDoor

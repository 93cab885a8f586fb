/-
  event.readNumbers: the numbers of a rest, each with a space before it.
-/
import Derived.Test.YtmioocmjlbjfpaaDoorC
import Derived.WalkSmall
namespace Go.Proofs.YtmioocmjlbjfpaaDoor
open Go.RowKit
open Pl

theorem info3 : (Tryd.prog.info? 3).map (fun i => (i.zero, i.size, i.bytes)) = some (some (.int .i64 0), 1, 8) := by kernel_rfl
def nats (xs : List Nat) : List Value := xs.map fun n : Nat => Value.int .i64 (n : Int)
theorem nats_snoc (xs : List Nat) (n : Nat) : nats (xs ++ [n]) = nats xs ++ [.int .i64 (n : Int)] := by simp [nats]
def strLen : Value → Nat | .string s => s.size | _ => 0

theorem readNumber_any (s : ByteArray) (w : World) (hm : s.size ≤ maxLen) :
    Calls Tryd.prog 60 #[.string s] w fun e w' => e = .returned (numR (readNum s.data.toList)) ∧ ∃ n, w' = w.drewN n := by
  cases h : (cutB s.data.toList).2 with
  | true => exact readNumber_yes s w hm h
  | false =>
    refine (readNumber_no s w h).mono ?_
    rintro e w' ⟨rfl, rfl⟩
    exact ⟨by rw [readNum_none h]; rfl, 0, rfl⟩

theorem readNumber_nope (l : List UInt8) (w : World) (hm : l.length ≤ maxLen) (h : readNum l = none) :
    Calls Tryd.prog 60 #[.string (B l)] w fun e w' => e = .returned (.tuple #[.int .i64 0, .string ⟨#[]⟩, .bool false]) ∧ ∃ n, w' = w.drewN n := by
  refine (readNumber_any (B l) w (by rw [size_B]; exact hm)).mono ?_
  rintro e w' ⟨he, hw⟩
  rw [toList_B, h] at he
  exact ⟨he, hw⟩
theorem readNumber_yep (l : List UInt8) (w : World) (hm : l.length ≤ maxLen) {n : Nat} {r : List UInt8} (h : readNum l = some (n, r)) :
    Calls Tryd.prog 60 #[.string (B l)] w fun e w' => e = .returned (.tuple #[.int .i64 n, .string (B r), .bool true]) ∧ ∃ n, w' = w.drewN n := by
  refine (readNumber_any (B l) w (by rw [size_B]; exact hm)).mono ?_
  rintro e w' ⟨he, hw⟩
  rw [toList_B, h] at he
  exact ⟨he, hw⟩
theorem isEmpty_nil : (B []).toList.isEmpty = true := by rw [ByteArray.toList_eq, toList_B]; rfl
theorem isEmpty_cons {l : List UInt8} (h : l ≠ []) : (B l).toList.isEmpty = false := by
  rw [ByteArray.toList_eq, toList_B]; cases l with
  | nil => exact absurd rfl h
  | cons c d => rfl
theorem own_drewN {w : World} {b : Nat} {e : TypeId} {z : Nat} {v : Value} {n : Nat} {xs : List Value} (h : w.ownsRow b e z v n xs) (k : Nat) : (w.drewN k).ownsRow b e z v n xs := h
theorem own_shape {w : World} {b : Nat} {e : TypeId} {z : Nat} {v : Value} {n : Nat} {xs : List Value} (h : w.ownsRow b e z v n xs) : ∃ a c, v = .slice a n c := by
  rcases h.2 with ⟨rfl, rfl⟩ | ⟨g, cap, cur, rfl, _⟩
  · exact ⟨_, _, rfl⟩
  · exact ⟨_, _, rfl⟩
theorem own_block {w : World} {b : Nat} {e : TypeId} {z : Nat} {v : Value} {n : Nat} {xs : List Value} (h : w.ownsRow b e z v n xs) : ∀ k, v.ownBlock = some k → b ≤ k := by
  intro k hk
  rcases h.2 with ⟨rfl, rfl⟩ | ⟨g, cap, cur, rfl, hg, _⟩
  · cases hk
  · cases hk; exact hg
/-- What readNumbers hands back. -/
def NumsPost (most : Nat) (s : List UInt8) (w : World) (e : Ending) (w' : World) : Prop :=
  ∃ v, e = .returned (.tuple #[v, .bool (readNums most s).isSome]) ∧ w'.ownsRow w.heap.size 3 1 v ((readNums most s).getD []).length (nats ((readNums most s).getD [])) ∧ Below w.heap.size w w'
theorem NumsPost_none {most : Nat} {s : List UInt8} {w w' : World} (h : readNums most s = none) (hb : Below w.heap.size w w') : NumsPost most s w (.returned (.tuple #[.slice none 0 0, .bool false])) w' := by
  refine ⟨_, by rw [h]; rfl, ?_, hb⟩
  rw [h]
  exact ⟨rfl, Or.inl ⟨rfl, rfl⟩⟩
theorem NumsPost_some {most : Nat} {s : List UInt8} {w w' : World} {xs : List Nat} {v : Value} (h : readNums most s = some xs) (ho : w'.ownsRow w.heap.size 3 1 v xs.length (nats xs)) (hb : Below w.heap.size w w') : NumsPost most s w (.returned (.tuple #[v, .bool true])) w' :=
  ⟨v, by rw [h]; rfl, by rw [h]; exact ho, hb⟩

set_option maxHeartbeats 2000000 in
set_option maxRecDepth 100000 in
theorem readNumbers_any (s : List UInt8) (most : Nat) (w : World) (hm : s.length ≤ maxLen) (hmost : most ≤ 100) :
    Calls Tryd.prog 49 #[.string (B s), .int .i64 most] w (NumsPost most s w) := by
  obtain ⟨i0, hi, hz0, hz1, hz2⟩ := info_parts info3
  go_enter Tryd.func49, Tryd.ntmps49
  go_wp2_with fail
  go_loopw [0, 6] (fun r v wr => ∃ (xs : List Nat) (l : List UInt8), r = .string (B l) ∧ wr.ownsRow w.heap.size 3 1 v xs.length (nats xs) ∧ Below w.heap.size w wr ∧ Nums most s xs l ∧ l.length ≤ s.length) (fun r _ _ => strLen r)
  case atStart => exact ⟨[], s, rfl, ⟨rfl, Or.inl ⟨rfl, rfl⟩⟩, Below.refl _ _, Nums_start most s, Nat.le_refl _⟩
  case round =>
    obtain ⟨xs, l, rfl, hown, hbel, hn, hl⟩ := hrel
    obtain ⟨va, vc, rfl⟩ := own_shape hown
    have Hn := Lib.hid hn
    have hx := hn.1
    clear hn
    by_cases hl0 : l = []
    · subst hl0
      have H0 := isEmpty_nil
      have He := Lib.hid (Nums_end Hn.out)
      go_wp2_with fail
      go_ret2
      exact NumsPost_some He.out hown hbel
    · have H0 := isEmpty_cons hl0
      cases hr : readNum l with
      | none =>
        have C := fun w => Lib.hid (readNumber_nope l w (by omega) hr)
        have Z := Lib.hid (Nums_none Hn.out hl0 (Or.inl hr))
        clear hr hl0
        go_wp2_with fail
        refine ((C _).out).mono ?_
        rintro e w1 ⟨rfl, k, rfl⟩
        go_wp2_with fail
        go_ret2
        exact NumsPost_none Z.out (below_drewN hbel k)
      | some nr =>
        obtain ⟨n, r⟩ := nr
        have C := fun w => Lib.hid (readNumber_yep l w (by omega) hr)
        have hsh := readNum_shorter hr
        by_cases hxm : xs.length = most
        · have Z := Lib.hid (Nums_none Hn.out hl0 (Or.inr hxm))
          have hxm' : ((xs.length : Int) == (most : Int)) = true := by rw [hxm]; simp
          clear hr hl0 hxm
          go_wp2_with fail
          refine ((C _).out).mono ?_
          rintro e w1 ⟨rfl, k, rfl⟩
          go_wp2_with fail
          go_ret2
          exact NumsPost_none Z.out (below_drewN hbel k)
        · have Z := Lib.hid (Nums_step Hn.out hl0 hr hxm)
          have hxm' : ((xs.length : Int) == (most : Int)) = false := by simp; omega
          clear hr hl0 hxm
          go_wp2_with fail
          refine ((C _).out).mono ?_
          rintro e w1 ⟨rfl, k, rfl⟩
          have hown1 := own_drewN hown k
          have hbel1 := below_drewN hbel k
          clear hown hbel
          generalize wr.drewN k = w1 at *
          have hsz := hbel1.size
          have hmx : xs.length + 1 ≤ maxLen := by unfold maxLen; omega
          have hby : (xs.length + 1) * 8 ≤ 140737488355328 := by omega
          have hba : w.heap.size ≤ (w1.alloc (.cells #[.int .i64 (n : Int)] 3)).heap.size := by simp; omega
          have hbl := hbel1.alloc hsz (.cells #[.int .i64 (n : Int)] 3)
          have hob := Lib.hid (own_block hown1)
          have hx' : xs.length < most := by have := Z.out.1; simp at this; omega
          go_wp2_with (first
            | (at_builtin; refine wpList_append_own _ rfl _ _ 78 rfl w.heap.size 3 i0 (.int .i64 0) 1 8 Tryd.underlying78 hi hz0 hz1 hz2 rfl (by decide) _ _ _ rfl (hown1.alloc _) ⟨w1.heap.size, 0, none⟩ 1 1 [.int .i64 (n : Int)] rfl rfl (cell_one_new _ _ _) (ints_oneCell .i64 [(n : Int)]) hmx hby hba ?_; intro v' w2 hown2 hgrow2 _)
            | fail)
          have hbel2 := hbl.grown hgrow2 hba hob.out
          go_roundw
          case rel => exact ⟨xs ++ [n], r, rfl, by rw [nats_snoc, List.length_append]; exact hown2, hbel2, Z.out, by omega⟩
          case measure => simp only [strLen, size_B]; exact hsh.1
end Go.Proofs.YtmioocmjlbjfpaaDoor

/-
  Numbers and lines as scheme writes them: strconv.Itoa, writeLine.
-/
import Derived.Test.YtnbiedijofdjhaaDoorSH
import Derived.Test.YtnbiedijofdjhaaDoorShelf
import Derived.Lib.AppendIntMem
namespace Go.Proofs.YtnbiedijofdjhaaDoor
open Go.RowKit
open Pl

def PowTab (w : World) : Prop := Lib.TabIs Tryd.prog w "internal/strconv.uint64pow10" .u64 Lib.pow10Tab
theorem PowTab.below {w w' : World} (h : PowTab w) (hb : Below w.heap.size w w') : PowTab w' := Lib.tabBelow_of_tabIs h w' hb
theorem itoa_any (n : Nat) (hn : n ≤ 1000000) (w : World) (hT : PowTab w) :
    Calls Tryd.prog 58 #[.int .i64 (n : Int)] w fun e w' => e = .returned (.string (B (Lib.decDigits n))) ∧ Below w.heap.size w w' := by
  refine (Tryd.strconv_Itoa (n : Int) (by omega) (by omega) w hT).mono ?_
  rintro e w' ⟨rfl, k, os, rfl⟩
  refine ⟨?_, Lib.below_grow _ w (Nat.le_refl _) k os⟩
  have : Lib.itoa (n : Int) = Lib.decDigits n := by unfold Lib.itoa; rw [if_neg (by omega)]; rfl
  rw [this]; rfl
theorem join_any (bk o c : Nat) (xs : List (List UInt8)) (w : World) (hcells : ∀ (j : Nat) x, xs[j]? = some x → w.cell? ⟨bk, o + j, none⟩ = some (.string (B x))) (hbk : bk < w.heap.size) (hN : xs.length ≤ 1000) (hcap : xs.length ≤ c) (hlen : (Lib.join xs [32]).length ≤ 1000000) :
    Calls Tryd.prog 85 #[.slice (some ⟨bk, o, none⟩) xs.length c, .string ⟨#[32]⟩] w fun e w' => e = .returned (.string (B (Lib.join xs [32]))) ∧ Below w.heap.size w w' := by
  have e1 : (xs.map B).map (·.data.toList) = xs := by rw [List.map_map]; exact List.map_id'' (fun x => rfl) xs
  have h := Tryd.strings_Join bk o c (xs.map B) ⟨#[32]⟩ w (fun j x hx => by
    rw [List.getElem?_map] at hx
    obtain ⟨y, hy, rfl⟩ := Option.map_eq_some_iff.1 hx
    exact hcells j y hy) hbk (by rw [List.length_map]; omega) (by rw [List.length_map]; exact hcap) (by rw [e1]; exact Nat.le_trans hlen (by decide))
  rw [e1, List.length_map] at h
  exact h
def lineS (xs : List (List UInt8)) : List UInt8 := Lib.join xs [32] ++ [10]
set_option maxHeartbeats 400000 in
theorem writeLine_any (bk o c : Nat) (xs : List (List UInt8)) (w : World) (hcells : ∀ (j : Nat) x, xs[j]? = some x → w.cell? ⟨bk, o + j, none⟩ = some (.string (B x))) (hbk : bk < w.heap.size) (hN : xs.length ≤ 1000) (hcap : xs.length ≤ c) (hlen : (Lib.join xs [32]).length ≤ 1000000) :
    Calls Tryd.prog 57 #[.slice (some ⟨bk, o, none⟩) xs.length c] w fun e w' => e = .returned (.string (B (lineS xs))) ∧ Below w.heap.size w w' := by
  have C := Lib.hid (join_any bk o c xs w hcells hbk hN hcap hlen)
  have hs : (B (Lib.join xs [32])).size ≤ 1000000 := by rw [size_B]; exact hlen
  have h : ¬ 9223372036854775807 < (B (Lib.join xs [32])).size + 1 := by omega
  have h' : ¬ 9223372036854775807 ≤ (B (Lib.join xs [32])).size := by omega
  have E := Lib.hid (show B (Lib.join xs [32]) ++ ⟨#[10]⟩ = B (lineS xs) by
    rw [← B_toList (B (Lib.join xs [32]) ++ ⟨#[10]⟩)]
    simp [B, lineS])
  generalize B (Lib.join xs [32]) = t at *
  clear hcells hbk hN hcap hlen hs
  go_enter Tryd.func57, Tryd.ntmps57
  go_wp2_with fail
  refine (C.out).mono ?_
  rintro e x1 ⟨rfl, hb⟩
  have HB := Lib.hid hb
  clear hb C
  go_wp2_with fail
  go_ret
  exact ⟨ret_str E.out, HB.out⟩
end Go.Proofs.YtnbiedijofdjhaaDoor

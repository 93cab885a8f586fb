/-
  Fields: readMask, readText; lines: cutLine, cutFields.
-/
import Derived.Test.YtnbiedijofdjhaaDoorSK
namespace Go.Proofs.YtnbiedijofdjhaaDoor
open Go.RowKit
open Pl

def maskE : Option Nat → Ending
  | some n => .returned (.int .u8 n)
  | none => .panicked pcF
def textE : Option (List UInt8) → Ending
  | some l => .returned (.string (B l))
  | none => .panicked pcF
set_option maxHeartbeats 1000000 in
set_option maxRecDepth 100000 in
theorem readMask_any (s : ByteArray) (w : World) (hT : StrTab w) (h0 : 0 < w.heap.size) (hm : s.size ≤ 9223372036854775807) :
    Calls Tryd.prog 113 #[.string s] w fun e w' => e = maskE (maskW s.data.toList) ∧ Below w.heap.size w w' := by
  have C := Lib.hid (readNumber_any s w hT h0 hm)
  clear hT h0 hm
  have E := Lib.hid (show maskW s.data.toList = match numW s.data.toList with | some n => if n ≤ 255 then some n else none | none => none from rfl)
  generalize maskW s.data.toList = mw at *
  cases hn : numW s.data.toList with
  | none =>
    rw [hn] at C E
    clear hn
    obtain rfl : mw = none := E.out
    go_enter Tryd.func113, Tryd.ntmps113
    go_wp2_with fail
    refine (C.out).mono ?_
    rintro e x1 ⟨rfl, hb⟩
    have HB1 := Lib.hid hb
    clear hb C
    exact ⟨rfl, rfl, HB1.out⟩
  | some n =>
    rw [hn] at C E
    clear hn
    by_cases h : n ≤ 255
    · obtain rfl : mw = some n := E.out.trans (if_pos h)
      have h' : ¬ (255 : Int) < (n : Int) := by omega
      have hw : IntKind.u8.wrap (n : Int) = (n : Int) := IntWalk.u8_in _ (by omega)
      go_enter Tryd.func113, Tryd.ntmps113
      go_wp2_with fail
      refine (C.out).mono ?_
      rintro e x1 ⟨rfl, hb⟩
      have HB1 := Lib.hid hb
      clear hb C
      dsimp only [numE]
      go_wp2_with fail
      go_ret
      exact ⟨rfl, HB1.out⟩
    · obtain rfl : mw = none := E.out.trans (if_neg h)
      have h' : (255 : Int) < (n : Int) := by omega
      go_enter Tryd.func113, Tryd.ntmps113
      go_wp2_with fail
      refine (C.out).mono ?_
      rintro e x1 ⟨rfl, hb⟩
      have HB1 := Lib.hid hb
      clear hb C
      dsimp only [numE]
      go_wp2_with fail
      exact ⟨rfl, rfl, HB1.out⟩
theorem nonempty_B {l : List UInt8} (h : l ≠ []) : (B l).toList.isEmpty = false := by cases l with
  | nil => exact absurd rfl h
  | cons a t => simp [B, ByteArray.toList_eq]
set_option maxHeartbeats 400000 in
set_option maxRecDepth 100000 in
theorem readText_any (l : List UInt8) (w : World) : Calls Tryd.prog 114 #[.string (B l)] w fun e w' => e = textE (textW l) ∧ w' = w := by
  by_cases h : l = []
  · subst h
    have H0 : (B []).toList.isEmpty = true := by rw [ByteArray.toList_eq, toList_B]; rfl
    go_enter Tryd.func114, Tryd.ntmps114
    go_wp2_with fail
    exact ⟨rfl, rfl, rfl⟩
  have H0 := nonempty_B h
  by_cases h2 : l = [45]
  · subst h2
    have H2 : ((B [45]).toList == [45]) = true := by rw [ByteArray.toList_eq, toList_B]; rfl
    clear h
    go_enter Tryd.func114, Tryd.ntmps114
    go_wp2_with fail
    go_ret
    exact ⟨rfl, rfl⟩
  · have E := Lib.hid (show textW l = some l by unfold textW; rw [if_neg h, if_neg h2])
    have H2 : ((B l).toList == [45]) = false := by rw [ByteArray.toList_eq, toList_B, beq_eq_false_iff_ne]; exact h2
    clear h h2
    go_enter Tryd.func114, Tryd.ntmps114
    go_wp2_with fail
    go_ret
    exact ⟨by rw [E.out]; rfl, rfl⟩

def MaxVar (w : World) (m : Int) : Prop := w.cell? ⟨2, 0, none⟩ = some (.int .i64 m)
theorem MaxVar.below {w w' : World} {m : Int} (h : MaxVar w m) (h0 : 2 < w.heap.size) (hb : Below w.heap.size w w') : MaxVar w' m := (hb.cell (p := ⟨2, 0, none⟩) h0).trans h
/-- A line and what is behind it. -/
def lineW (l : List UInt8) : Option (List UInt8 × List UInt8) := if (Lib.cut l [10]).2.2 then some ((Lib.cut l [10]).1, (Lib.cut l [10]).2.1) else none
def lineE : Option (List UInt8 × List UInt8) → Ending
  | some (l, r) => .returned (.tuple #[.string (B l), .string (B r)])
  | none => .panicked pcF
set_option maxHeartbeats 400000 in
set_option maxRecDepth 100000 in
theorem cutLine_any (l : List UInt8) (m : Int) (w : World) (hs : l.length < 4294967281) (hm : MaxVar w m) :
    Calls Tryd.prog 88 #[.string (B l)] w fun e w' => e = lineE (lineW l) ∧ Below w.heap.size w w' := by
  have C := Lib.hid (Tryd.strings_Cut (B l) ⟨#[10]⟩ m w (by rw [size_B]; exact hs) hm)
  rw [toList_B, show ((⟨#[10]⟩ : ByteArray).data.toList) = [10] from rfl] at C
  have E := Lib.hid (show lineW l = if (Lib.cut l [10]).2.2 then some ((Lib.cut l [10]).1, (Lib.cut l [10]).2.1) else none from rfl)
  generalize lineW l = lw at *
  generalize Lib.cut l [10] = z at *
  obtain ⟨z1, z2, z3⟩ := z
  clear hs hm
  cases z3
  · obtain rfl : lw = none := E.out
    go_enter Tryd.func88, Tryd.ntmps88
    go_wp2_with fail
    refine (C.out).mono ?_
    rintro e x1 ⟨rfl, n, rfl⟩
    have HB1 := Lib.hid (below_drewN (Below.refl w.heap.size w) n)
    clear C
    generalize w.drewN n = x1 at *
    go_wp2_with fail
    exact ⟨rfl, rfl, HB1.out⟩
  · obtain rfl : lw = some (z1, z2) := E.out
    go_enter Tryd.func88, Tryd.ntmps88
    go_wp2_with fail
    refine (C.out).mono ?_
    rintro e x1 ⟨rfl, n, rfl⟩
    have HB1 := Lib.hid (below_drewN (Below.refl w.heap.size w) n)
    clear C
    generalize w.drewN n = x1 at *
    go_wp2_with fail
    go_ret2
    exact ⟨rfl, HB1.out⟩

/-- The fields of a line, at most so many. -/
def fieldsK (k : Nat) (l : List UInt8) : List (List UInt8) := Lib.splitK [32] 0 (min k (l.length + 1) - 1) l
def fieldsW (name : List UInt8) (n : Nat) (l : List UInt8) : Option (List (List UInt8)) := if (fieldsK (n + 2) l).length = n + 1 ∧ (fieldsK (n + 2) l).head? = some name then some (fieldsK (n + 2) l).tail else none
/-- The fields lie in a row of strings. -/
def StrsAt (W : World) (v : Value) (xs : List (List UInt8)) : Prop := ∃ b o c, v = .slice (some ⟨b, o, none⟩) xs.length c ∧ xs.length ≤ c ∧ b < W.heap.size ∧ ∀ (j : Nat) (h : j < xs.length), W.cell? ⟨b, o + j, none⟩ = some (.string (B xs[j]))
def FieldsE (fw : Option (List (List UInt8))) (e : Ending) (W : World) : Prop := (fw = none ∧ e = .panicked pcF) ∨ (∃ xs v, fw = some xs ∧ e = .returned v ∧ StrsAt W v xs)
theorem split_map (l : List UInt8) (k : Nat) : (Lib.splitB ⟨#[32]⟩ 0 k (B l)) = (Lib.splitK [32] 0 k l).map B := by
  have h := Lib.splitB_data ⟨#[32]⟩ 0 k (B l)
  rw [toList_B, show ((⟨#[32]⟩ : ByteArray).data.toList) = [32] from rfl] at h
  rw [← h, List.map_map]
  exact (List.map_id'' (fun s => B_toList s) _).symm
theorem cells_fields (W : World) (fs : List (List UInt8)) (N : Nat) (j : Nat) (h : j < fs.length) : (W.alloc (.cells (Lib.cellsOf (fs.map B) N) 9)).cell? ⟨W.heap.size, j, none⟩ = some (.string (B fs[j])) := by
  rw [cell_new]
  unfold Lib.cellsOf
  rw [List.getElem?_toArray, List.getElem?_append_left (by simpa using h)]
  simp [h]
set_option maxHeartbeats 1000000 in
set_option maxRecDepth 100000 in
theorem cutFields_any (name : List UInt8) (n : Nat) (h2 : 2 ≤ n) (hn : n ≤ 100) (l : List UInt8) (m : Int) (w : World) (hs : l.length < 4294967281) (hm : MaxVar w m) :
    Calls Tryd.prog 111 #[.string (B l), .string (B name), .int .i64 (n : Int)] w fun e w' => FieldsE (fieldsW name n l) e w' ∧ Below w.heap.size w w' := by
  have C := Lib.hid (Tryd.strings_SplitN (B l) ⟨#[32]⟩ (n + 2) m w (by rw [size_B]; exact hs) hm (by decide) (by omega) (by omega))
  have hle := Lib.splitB_length_le ⟨#[32]⟩ 0 (min (n + 2) ((B l).size + 1) - 1) (B l)
  rw [split_map] at C hle
  have E := Lib.hid (show fieldsW name n l = if (fieldsK (n + 2) l).length = n + 1 ∧ (fieldsK (n + 2) l).head? = some name then some (fieldsK (n + 2) l).tail else none from rfl)
  rw [show Lib.splitK [32] 0 (min (n + 2) ((B l).size + 1) - 1) l = fieldsK (n + 2) l by rw [size_B]; rfl] at C hle
  rw [show ((n + 2 : Nat) : Int) = (n : Int) + 2 by omega] at C
  have hw2 : IntKind.i64.wrap ((n : Int) + 2) = (n : Int) + 2 := IntWalk.i64_in _ (by omega)
  have hcap : (fieldsK (n + 2) l).length ≤ min (n + 2) ((B l).size + 1) := by rw [List.length_map] at hle; omega
  rw [List.length_map] at C
  generalize fieldsW name n l = fw at *
  generalize fieldsK (n + 2) l = fs at *
  generalize min (n + 2) ((B l).size + 1) = cap at *
  clear hs hm hle
  go_enter Tryd.func111, Tryd.ntmps111
  go_wp2_with fail
  refine (C.out).mono ?_
  rintro e x1 ⟨rfl, rfl⟩
  have HB1 := Lib.hid (show Below w.heap.size w (w.alloc (.cells (Lib.cellsOf (fs.map B) cap) 9)) from (Below.refl _ _).alloc (Nat.le_refl _) _)
  have HC := fun j h => Lib.hid (cells_fields w fs cap j h)
  have HS := Lib.hid (show w.heap.size < (w.alloc (.cells (Lib.cellsOf (fs.map B) cap) 9)).heap.size by rw [World.size_alloc]; omega)
  clear C
  generalize w.alloc _ = x1 at *
  by_cases hl : fs.length = n + 1
  · have heq : ((fs.length : Int) == (n : Int) + 1) = true := by rw [beq_iff_eq]; omega
    cases fs with
    | nil => simp at hl
    | cons f0 tl =>
      have hl' : tl.length = n := by simpa using hl
      have z0 := (HC 0 (by simp)).out
      rw [List.getElem_cons_zero] at z0
      have h0 : (0 : Int) < ((f0 :: tl).length : Int) := by omega
      by_cases hf : f0 = name
      · have hs : ((B f0).toList == (B name).toList) = true := by rw [str_eq]; exact decide_eq_true hf
        have E2 := Lib.hid (show fw = some tl by rw [E.out, if_pos ⟨hl, by rw [List.head?_cons, hf]⟩]; rfl)
        have h1 : (1 : Int) ≤ ((f0 :: tl).length : Int) := by omega
        have h3 : ((f0 :: tl).length : Int) ≤ (cap : Int) := by omega
        have h4 : (1 : Int) ≤ (cap : Int) := by omega
        have h5 : ¬ cap = 1 := by omega
        have HCt := fun j (h : j < tl.length) => (HC (j + 1) (by simpa using h)).out
        go_wp2_with fail
        go_ret
        have hxs : tl.length ≤ cap - 1 := by simp only [List.length_cons] at hcap; omega
        exact ⟨Or.inr ⟨tl, _, E2.out, rfl, w.heap.size, 1, cap - 1, by rw [hl']; rfl, hxs, HS.out, fun j h => by rw [Nat.add_comm 1 j]; have := HCt j h; simpa using this⟩, HB1.out⟩
      · have hs : ((B f0).toList == (B name).toList) = false := by rw [str_eq]; exact decide_eq_false hf
        have E2 := Lib.hid (show fw = none by rw [E.out, if_neg (fun h => hf (by simpa using h.2))])
        go_wp2_with fail
        exact ⟨rfl, Or.inl ⟨E2.out, rfl⟩, HB1.out⟩
  · have E2 := Lib.hid (show fw = none by rw [E.out, if_neg (fun h => hl h.1)])
    have hne : ((fs.length : Int) == (n : Int) + 1) = false := by rw [beq_eq_false_iff_ne]; omega
    go_wp2_with fail
    exact ⟨rfl, Or.inl ⟨E2.out, rfl⟩, HB1.out⟩
end Go.Proofs.YtnbiedijofdjhaaDoor

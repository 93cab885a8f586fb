/-
  event.split: a line is parted before its first space.
-/
import Derived.Test.YtmioocmjlbjfpaaDoorK
import Derived.Lib.IndexLaws
namespace Go.Proofs.YtmioocmjlbjfpaaDoor
open Go.RowKit
open Pl

def splitB (l : List UInt8) : List UInt8 × List UInt8 := (l.takeWhile (· != 32), l.dropWhile (· != 32))
theorem tw_all {p : UInt8 → Bool} : ∀ {l : List UInt8}, (∀ x ∈ l, p x = true) → l.takeWhile p = l ∧ l.dropWhile p = []
  | [], _ => ⟨rfl, rfl⟩
  | a :: r, h => by
    have h1 := h a (by simp)
    have h2 := tw_all (l := r) (fun x hx => h x (by simp [hx]))
    rw [List.takeWhile_cons_of_pos h1, List.dropWhile_cons_of_pos h1, h2.1, h2.2]
    exact ⟨rfl, rfl⟩
theorem splitB_none {l : List UInt8} (h : ∀ k : Nat, l[k]? ≠ some 32) : splitB l = (l, []) := by
  unfold splitB
  have : ∀ x ∈ l, (x != 32) = true := by
    intro x hx
    obtain ⟨k, hk, rfl⟩ := List.getElem_of_mem hx
    have := h k
    rw [List.getElem?_eq_getElem hk] at this
    simpa using this
  rw [(tw_all this).1, (tw_all this).2]
theorem splitB_at : ∀ {l : List UInt8} {o : Nat}, l[o]? = some 32 → (∀ k : Nat, k < o → l[k]? ≠ some 32) → splitB l = (l.take o, l.drop o)
  | [], o, h, _ => by simp at h
  | a :: r, 0, h, _ => by
    have : a = 32 := by simpa using h
    subst this
    rfl
  | a :: r, o + 1, h, hk => by
    have ha : (a != 32) = true := by
      have := hk 0 (by omega)
      simpa using this
    have ih := splitB_at (l := r) (o := o) (by simpa using h) (fun k hk' => by
      have := hk (k + 1) (by omega)
      simpa using this)
    unfold splitB at ih ⊢
    simp only [Prod.mk.injEq] at ih
    rw [List.takeWhile_cons_of_pos (by simpa using ha), List.dropWhile_cons_of_pos (by simpa using ha), ih.1, ih.2]
    simp
theorem ret_ss {a b c d : ByteArray} (h : a = b) (k : c = d) : Ending.returned (.tuple #[.string a, .string c]) = .returned (.tuple #[.string b, .string d]) := by rw [h, k]

set_option maxHeartbeats 2000000 in
set_option maxRecDepth 100000 in
theorem split_any (s : ByteArray) (w : World) :
    Calls Tryd.prog 26 #[.string s] w fun e w' => e = .returned (.tuple #[.string (B (splitB s.data.toList).1), .string (B (splitB s.data.toList).2)]) ∧ ∃ n, w' = w.drewN n := by
  have C := fun w => Lib.hid (Tryd.strings_IndexByte s 32 w)
  have e32 : ((32 : Int).toNat.toUInt8) = 32 := rfl
  rw [e32] at C
  have hge := Lib.indexByte_ge s.data.toList 32
  by_cases hn : Lib.indexByte s.data.toList 32 = -1
  · have hS := Lib.hid (splitB_none (Lib.indexByte_none hn))
    rw [hn] at C
    have hB := Lib.hid (B_toList s)
    clear hn hge e32
    go_enter Tryd.func26, Tryd.ntmps26
    go_wp2_with fail
    refine ((C _).out).mono ?_
    rintro e w' ⟨rfl, rfl⟩
    go_wp2_with fail
    go_ret2
    exact ⟨ret_ss (by rw [hS.out, hB.out]) (by rw [hS.out]; rfl), 0, rfl⟩
  · obtain ⟨o, ho⟩ : ∃ o : Nat, Lib.indexByte s.data.toList 32 = o := ⟨(Lib.indexByte s.data.toList 32).toNat, by omega⟩
    have h1 := Lib.indexByte_some ho
    have hos : o < s.size := by
      rcases Nat.lt_or_ge o s.size with h | h
      · exact h
      · have := h1.1
        rw [List.getElem?_eq_none (by simpa using h)] at this
        cases this
    have hS := Lib.hid (splitB_at h1.1 h1.2)
    rw [ho] at C
    have hE1 := Lib.hid (ext_from_0 s o)
    have hE2 := Lib.hid (ext_to_end s o)
    have ho0 : (0 : Int) ≤ (o : Int) := by omega
    have ho1 : (o : Int) ≤ (s.size : Int) := by omega
    have ho2 : ¬ (o : Int) < 0 := by omega
    clear hn hge e32 ho h1
    go_enter Tryd.func26, Tryd.ntmps26
    go_wp2_with fail
    refine ((C _).out).mono ?_
    rintro e w' ⟨rfl, rfl⟩
    go_wp2_with fail
    go_quiet (fail)
    go_wp2_with fail
    go_ret2
    exact ⟨ret_ss (by rw [hS.out]; exact hE1.out) (by rw [hS.out]; exact hE2.out), _, rfl⟩
end Go.Proofs.YtmioocmjlbjfpaaDoor

/-
  event.Parse: what a text is read as.
-/
import Derived.Test.YtmioocmjlbjfpaaDoorM
namespace Go.Proofs.YtmioocmjlbjfpaaDoor
open Go.RowKit
open Pl

theorem own_form {W : World} {b : Nat} {v : Value} {ps : List (Int × Int)} (h : OwnsP W b v ps) : ∃ a c, v = .slice a ps.length c := by
  obtain ⟨a, c, hv, _⟩ := h.pts
  exact ⟨a, c, hv⟩

set_option maxHeartbeats 1000000 in
set_option maxRecDepth 100000 in
theorem Parse_none (l : List UInt8) (w : World) (hm : l.length ≤ maxLen) (hp : parseS l = none) :
    Calls Tryd.prog 7 #[.string (B l)] w (PsPost (.int .i64 0) (.int .i64 3) none w) := by
  have C1 := fun w => Lib.hid (forms_any w)
  have C2 := fun b w hT => Lib.hid (parse_any b l w hT hm)
  rw [hp] at C2
  clear hp
  go_enter Tryd.func7, Tryd.ntmps7
  go_wp2_with fail
  refine ((C1 _).out).mono ?_
  rintro e x1 ⟨rfl, hTab⟩
  have hT1 : Hid (TabAt x1 (w.heap.size + 1)) := by have := hTab.at; rw [World.size_alloc] at this; exact this
  have hb1 := Lib.hid hTab.2.1
  have hE1 := Lib.hid ((EvBlock.new w (.int .i64 0) (.string ⟨#[]⟩) (.slice none 0 0) (.string ⟨#[]⟩) (.int .i64 0) (.int .i64 0)).below hTab.2.1)
  have hw1 := Lib.hid (((Below.refl w.heap.size w).alloc (Nat.le_refl _) (.cells #[.int .i64 0, .string ⟨#[]⟩, .slice none 0 0, .string ⟨#[]⟩, .int .i64 0, .int .i64 0] 31)).trans (hTab.2.1.mono (by simp)))
  clear C1 hTab hb1
  go_wp2_with fail
  refine ((C2 (w.heap.size + 1) _ hT1.out).out).mono ?_
  rintro e x2 ⟨rfl, hb2⟩
  have hE2 := Lib.hid ((hE1.out.below hb2).alloc (.cells #[.int .i64 0, .string ⟨#[]⟩, .slice none 0 0, .string ⟨#[]⟩, .int .i64 0, .int .i64 0] 31))
  have hw2' := hw1.out.trans (hb2.mono hw1.out.size)
  have hw2 := Lib.hid (hw2'.alloc hw2'.size (.cells #[.int .i64 0, .string ⟨#[]⟩, .slice none 0 0, .string ⟨#[]⟩, .int .i64 0, .int .i64 0] 31))
  clear C2 hb2 hT1 hE1 hw1 hw2'
  have hz : evVal Ev.zero (.slice none 0 0) = .agg #[.int .i64 0, .string ⟨#[]⟩, .slice none 0 0, .string ⟨#[]⟩, .int .i64 0, .int .i64 0] := rfl
  rw [hz]
  clear hz
  go_wp2_with (first | (refine wpList_store_ev rfl _ _ rfl _ _ _ _ _ _ _ hE2.out rfl _ _ _ _ _ _ _ _ rfl ?_; intro W' hB' hg' hs'))
  refine ret_ev rfl rfl rfl hB' ?_
  exact PsPost.no rfl rfl (hw2.out.grown hg' hw2.out.size (by simp))

set_option maxHeartbeats 1000000 in
set_option maxRecDepth 100000 in
theorem Parse_some (l : List UInt8) (w : World) (hm : l.length ≤ maxLen) (ev : Ev) (hp : parseS l = some ev) :
    Calls Tryd.prog 7 #[.string (B l)] w (PsPost (.int .i64 0) (.int .i64 3) (some ev) w) := by
  have C1 := fun w => Lib.hid (forms_any w)
  have C2 := fun b w hT => Lib.hid (parse_any b l w hT hm)
  rw [hp] at C2
  clear hp
  go_enter Tryd.func7, Tryd.ntmps7
  go_wp2_with fail
  refine ((C1 _).out).mono ?_
  rintro e x1 ⟨rfl, hTab⟩
  have hT1 : Hid (TabAt x1 (w.heap.size + 1)) := by have := hTab.at; rw [World.size_alloc] at this; exact this
  have hlt1 : w.heap.size + 1 ≤ x1.heap.size := by have := hTab.2.1.size; simpa using this
  have hE1 := Lib.hid ((EvBlock.new w (.int .i64 0) (.string ⟨#[]⟩) (.slice none 0 0) (.string ⟨#[]⟩) (.int .i64 0) (.int .i64 0)).below hTab.2.1)
  have hw1 := Lib.hid (((Below.refl w.heap.size w).alloc (Nat.le_refl _) (.cells #[.int .i64 0, .string ⟨#[]⟩, .slice none 0 0, .string ⟨#[]⟩, .int .i64 0, .int .i64 0] 31)).trans (hTab.2.1.mono (by simp)))
  clear C1 hTab
  go_wp2_with fail
  refine ((C2 (w.heap.size + 1) _ hT1.out).out).mono ?_
  rintro e x2 ⟨⟨v, rfl, hO⟩, hb2⟩
  obtain ⟨va, vc, rfl⟩ := own_form hO
  have hE2 := Lib.hid ((hE1.out.below hb2).alloc (.cells #[.int .i64 ev.kind, .string (B ev.keys), .slice va ev.p.length vc, .string (B ev.text), .int .i64 ev.n, .int .i64 ev.l] 31))
  have hL2 := Lib.hid (EvBlock.new x2 (.int .i64 ev.kind) (.string (B ev.keys)) (.slice va ev.p.length vc) (.string (B ev.text)) (.int .i64 ev.n) (.int .i64 ev.l))
  have hO2 := Lib.hid (show OwnsP (x2.alloc (.cells #[.int .i64 ev.kind, .string (B ev.keys), .slice va ev.p.length vc, .string (B ev.text), .int .i64 ev.n, .int .i64 ev.l] 31)) (w.heap.size + 1) (.slice va ev.p.length vc) ev.p from World.ownsRow.alloc (hO.base hlt1) _)
  have hw2' := hw1.out.trans (hb2.mono hw1.out.size)
  have hw2 := Lib.hid (hw2'.alloc hw2'.size (.cells #[.int .i64 ev.kind, .string (B ev.keys), .slice va ev.p.length vc, .string (B ev.text), .int .i64 ev.n, .int .i64 ev.l] 31))
  clear C2 hb2 hT1 hE1 hw1 hw2' hO
  unfold evVal
  obtain ⟨g0, g1, g2, g3, g4, g5⟩ := hL2.out.cells
  go_wp2_with (first | (refine wpList_store_ev rfl _ _ rfl _ _ _ _ _ _ _ hE2.out rfl _ _ _ _ _ _ _ _ rfl ?_; intro W' hB' hg' hs'))
  refine ret_ev rfl rfl rfl hB' ?_
  exact PsPost.yes rfl rfl ((hO2.out.grown hg' (by omega)).base (by omega)) (hw2.out.grown hg' hw2.out.size (by simp))

theorem Parse_any (l : List UInt8) (w : World) (hm : l.length ≤ maxLen) :
    Calls Tryd.prog 7 #[.string (B l)] w (PsPost (.int .i64 0) (.int .i64 3) (parseS l) w) := by
  cases hp : parseS l with
  | none => exact Parse_none l w hm hp
  | some ev => exact Parse_some l w hm ev hp
end Go.Proofs.YtmioocmjlbjfpaaDoor

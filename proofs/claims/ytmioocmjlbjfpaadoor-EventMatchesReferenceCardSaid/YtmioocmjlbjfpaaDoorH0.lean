/-
  Facts for the walk of the reference's Made.
-/
import Derived.Test.YtmioocmjlbjfpaaDoorGG
namespace Go.Proofs.YtmioocmjlbjfpaaDoor
open Go.RowKit
open Pl

theorem BytesAt.up {W : World} {B0 B1 : Nat} {v : Value} {n : Nat} (h : BytesAt W B0 v n) (hb : B0 ≤ B1) : BytesAt W B1 v n := by
  obtain ⟨a, c, rfl, h⟩ := h
  refine ⟨a, c, rfl, fun hp => ?_⟩
  obtain ⟨b, off, rfl, hlt, hc⟩ := h hp
  exact ⟨b, off, rfl, by omega, hc⟩
theorem pos_of_ne {t : List UInt8} (h : (B t).toList.isEmpty = false) : 1 ≤ t.length := by
  rcases t with _ | ⟨c, r⟩
  · rw [isEmpty_nil] at h; cases h
  · simp
theorem ret_ev1 {fn : Func} {p : Tmp} (h : fn.results = #[.cell p 31]) {R : Ending → World → Prop} {a : Act} {W : World} {b : Nat} {c0 c1 c2 c3 c4 c5 : Value}
    (hp : a.tmps.getD p undef = .pointer (some ⟨b, 0, none⟩)) (hd : a.defers = []) (hb : EvBlock W b c0 c1 c2 c3 c4 c5)
    (hR : R (.returned (.agg #[c0, c1, c2, c3, c4, c5])) W) : bodyPost Tryd.prog fn R .ret a W := by
  refine bodyPost_ret ?_ hd hR
  have hp' : a.tmps[p]?.getD undef = .pointer (some ⟨b, 0, none⟩) := by simpa using hp
  have hl := run_loadVar_row (P := Tryd.prog) W b 31 31 #[c0, c1, c2, c3, c4, c5] (0, 0) _ hb Tryd.underlying31 rfl info31
  simp [results, h, hp', asAddr, hl]
theorem pts_nil (W : World) (b : Nat) : PtsAt W b (.slice none 0 0) [] := ⟨none, 0, rfl, fun h => by simp at h⟩
theorem own_open {W : World} {b : Nat} {a : Option Addr} {c : Nat} {ps : List (Int × Int)} (h : OwnsP W b (.slice a ps.length c) ps) (hp : 0 < ps.length) : ∃ g, a = some ⟨g, 0, none⟩ ∧ ps.length ≤ c ∧ c ≤ maxLen := by
  rcases h.2 with ⟨_, h0⟩ | ⟨g, cap, cur, hv, hb, hg, hn, hm, _⟩
  · omega
  · obtain ⟨rfl, rfl⟩ : a = some ⟨g, 0, none⟩ ∧ c = cap := by simpa using hv
    exact ⟨g, rfl, hn, hm⟩
theorem pts_first {W : World} {b : Nat} {a : Option Addr} {c c' : Nat} {ps : List (Int × Int)} (h : PtsAt W b (.slice a ps.length c) ps) (hp : 0 < ps.length) : PtsAt W b (.slice a 1 c') [ps[0]] := by
  obtain ⟨a', c'', hv, h1⟩ := h
  obtain ⟨rfl, -⟩ : a = a' ∧ c = c'' := by simpa using hv
  obtain ⟨g, off, rfl, hlt, hc⟩ := h1 hp
  refine ⟨_, _, rfl, fun _ => ⟨g, off, rfl, hlt, fun i hi => ?_⟩⟩
  obtain rfl : i = 0 := by simpa using hi
  exact hc 0 hp
theorem ptCells_one {ps : List (Int × Int)} (hp : 0 < ps.length) : ptCells [ps[0]] = (ptCells ps).take 2 := by
  cases ps with
  | nil => simp at hp
  | cons q r => rfl
theorem own_first {W : World} {b g c : Nat} {ps : List (Int × Int)} (h : OwnsP W b (.slice (some ⟨g, 0, none⟩) ps.length c) ps) (hp : 0 < ps.length) : OwnsP W b (.slice (some ⟨g, 0, none⟩) 1 c) [ps[0]] := by
  obtain ⟨h1, h2⟩ := h
  refine ⟨rfl, ?_⟩
  rcases h2 with ⟨h0, -⟩ | ⟨g', cap, cur, hv, hb, hg, hn, hm, hc, ht⟩
  · cases h0
  · obtain ⟨hgg, -, hcc⟩ : (some (⟨g, 0, none⟩ : Addr) = some ⟨g', 0, none⟩) ∧ ps.length = ps.length ∧ c = cap := by simpa using hv
    obtain rfl : g = g' := by simpa using hgg
    subst hcc
    refine Or.inr ⟨g, c, cur, rfl, hb, hg, ?_, hm, hc, ?_⟩
    · show [ps[0]].length ≤ c
      simp; omega
    · rw [ptCells_one hp, ← ht, List.take_take]
      congr 1
      simp; omega
theorem inside_one {ps : List (Int × Int)} (h : insideB ps = true) (hp : 0 < ps.length) : insideB [ps[0]] = true := by
  unfold insideB at h ⊢
  rw [List.all_eq_true] at h ⊢
  intro q hq
  obtain rfl : q = ps[0] := by simpa using hq
  exact h _ (List.getElem_mem _)
theorem letters_take {t : List UInt8} (h : lettersB t = true) (i : Nat) : lettersB (t.take i) = true := by
  unfold lettersB at h ⊢
  rw [List.all_eq_true] at h ⊢
  exact fun x hx => h x (List.mem_of_mem_take hx)
theorem letsOf_nil {t : List UInt8} (h : (B t).toList.isEmpty = true) : letsOf t = [97] := by
  rcases t with _ | ⟨c, r⟩
  · rfl
  · rw [isEmpty_cons (by simp)] at h; cases h
theorem letsOf_ne {t : List UInt8} (h : (B t).toList.isEmpty = false) : letsOf t = t := by
  rcases t with _ | ⟨c, r⟩
  · rw [isEmpty_nil] at h; cases h
  · rfl
theorem take_first {ps : List (Int × Int)} (h : 0 < ps.length) : [ps[0]] = ps.take 1 := by
  rcases ps with _ | ⟨q, r⟩
  · simp at h
  · rfl
theorem crd_in (x : Nat) (h : x ≤ 255) : 0 ≤ crd x ∧ crd x ≤ 1000 := by
  unfold crd
  rw [IntWalk.i64_in (x : Int) (by omega), IntWalk.i64_in (4 * (x : Int)) (by omega), Int.tmod_eq_emod_of_nonneg (by omega)]
  omega
/-- The three blocks that Made lays first. -/
theorem md_start (w : World) (k n m kd : Int) (lv pv : Value) :
    (RwBlock (((w.alloc (.cells #[.int .u8 k, lv, pv, .int .u8 n, .int .u8 m] 25)).alloc (.cells #[.int .i64 0, .string ⟨#[]⟩, .slice none 0 0, .string ⟨#[]⟩, .int .i64 0, .int .i64 0] 31)).alloc (.cells #[.int .i64 kd, .string ⟨#[]⟩, .slice none 0 0, .string ⟨#[]⟩, .int .i64 0, .int .i64 0] 31)) w.heap.size k lv pv n m ∧
    EvBlock (((w.alloc (.cells #[.int .u8 k, lv, pv, .int .u8 n, .int .u8 m] 25)).alloc (.cells #[.int .i64 0, .string ⟨#[]⟩, .slice none 0 0, .string ⟨#[]⟩, .int .i64 0, .int .i64 0] 31)).alloc (.cells #[.int .i64 kd, .string ⟨#[]⟩, .slice none 0 0, .string ⟨#[]⟩, .int .i64 0, .int .i64 0] 31)) (w.heap.size + 1) (.int .i64 0) (.string ⟨#[]⟩) (.slice none 0 0) (.string ⟨#[]⟩) (.int .i64 0) (.int .i64 0) ∧
    EvBlock (((w.alloc (.cells #[.int .u8 k, lv, pv, .int .u8 n, .int .u8 m] 25)).alloc (.cells #[.int .i64 0, .string ⟨#[]⟩, .slice none 0 0, .string ⟨#[]⟩, .int .i64 0, .int .i64 0] 31)).alloc (.cells #[.int .i64 kd, .string ⟨#[]⟩, .slice none 0 0, .string ⟨#[]⟩, .int .i64 0, .int .i64 0] 31)) (w.heap.size + 1 + 1) (.int .i64 kd) (.string ⟨#[]⟩) (.slice none 0 0) (.string ⟨#[]⟩) (.int .i64 0) (.int .i64 0)) ∧
    Below w.heap.size w (((w.alloc (.cells #[.int .u8 k, lv, pv, .int .u8 n, .int .u8 m] 25)).alloc (.cells #[.int .i64 0, .string ⟨#[]⟩, .slice none 0 0, .string ⟨#[]⟩, .int .i64 0, .int .i64 0] 31)).alloc (.cells #[.int .i64 kd, .string ⟨#[]⟩, .slice none 0 0, .string ⟨#[]⟩, .int .i64 0, .int .i64 0] 31)) := by
  have e1 : (w.alloc (.cells #[.int .u8 k, lv, pv, .int .u8 n, .int .u8 m] 25)).heap.size = w.heap.size + 1 := World.size_alloc _ _
  have e2 : ((w.alloc (.cells #[.int .u8 k, lv, pv, .int .u8 n, .int .u8 m] 25)).alloc (.cells #[.int .i64 0, .string ⟨#[]⟩, .slice none 0 0, .string ⟨#[]⟩, .int .i64 0, .int .i64 0] 31)).heap.size = w.heap.size + 1 + 1 := by rw [World.size_alloc, e1]
  refine ⟨⟨((RwBlock.new w k lv pv n m).alloc _).alloc _, ?_, ?_⟩, (((Below.refl _ _).alloc (Nat.le_refl _) _).alloc (by omega) _).alloc (by omega) _⟩
  · rw [← e1]; exact (EvBlock.new _ _ _ _ _ _ _).alloc _
  · rw [← e2]; exact EvBlock.new _ _ _ _ _ _ _

end Go.Proofs.YtmioocmjlbjfpaaDoor

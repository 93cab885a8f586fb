/-
  Texts that are made: Text, Back.
-/
import Derived.Test.YtadaijepalhohaaAQ
import Derived.Laws.IdiomStrings
namespace Go.Proofs.Ytadaijepalhohaa
open Go.RowKit
open Pl

/-- The slice reads as n bytes. -/
def U8At (W : World) (B0 : Nat) (v : Value) (n : Nat) : Prop :=
  ∃ a c, v = .slice a n c ∧ (0 < n → ∃ b off, a = some ⟨b, off, none⟩ ∧ b < B0 ∧ ∀ i, i < n → ∃ x : Nat, W.cell? ⟨b, off + i, none⟩ = some (.int .u8 (x : Nat)) ∧ x < 256)
theorem U8At.on {W W' : World} {v : Value} {n : Nat} (h : U8At W W.heap.size v n) (hb : Below W.heap.size W W') : U8At W' W'.heap.size v n := by
  obtain ⟨a, c, rfl, h⟩ := h
  refine ⟨a, c, rfl, fun hp => ?_⟩
  obtain ⟨b, off, rfl, hlt, hc⟩ := h hp
  refine ⟨b, off, rfl, Nat.lt_of_lt_of_le hlt hb.size, fun i hi => ?_⟩
  obtain ⟨x, h1, h2⟩ := hc i hi
  exact ⟨x, (hb.cell (p := ⟨b, _, none⟩) hlt).trans h1, h2⟩
abbrev u8V (c : UInt8) : Value := .int .u8 (c.toNat : Nat)
theorem infoU8 : (Try.prog.info? 5).map (fun i => (i.zero, i.size, i.bytes)) = some (some (.int .u8 0), 1, 1) := by kernel_rfl
/-- Bytes in memory of their own. -/
def BtsOwn (W : World) (base : Nat) (v : Value) (l : List UInt8) : Prop := W.ownsRow base 5 1 v l.length (l.map u8V)
theorem BtsOwn.shape {W : World} {b : Nat} {v : Value} {l : List UInt8} (h : BtsOwn W b v l) : ∃ a c, v = .slice a l.length c := by
  rcases h.2 with ⟨rfl, h0⟩ | ⟨g, cap, cur, rfl, _⟩
  · exact ⟨none, 0, by rw [h0]⟩
  · exact ⟨_, _, rfl⟩
theorem BtsOwn.blk {W : World} {b : Nat} {v : Value} {l : List UInt8} (h : BtsOwn W b v l) : ∀ k, v.ownBlock = some k → b ≤ k := by
  intro k hk
  rcases h.2 with ⟨rfl, _⟩ | ⟨g, cap, cur, rfl, hg, _⟩
  · cases hk
  · cases hk; exact hg
theorem BtsOwn.new (w : World) : BtsOwn (w.alloc (.cells #[] 5)) w.heap.size (.slice (some ⟨w.heap.size, 0, none⟩) 0 0) [] :=
  ⟨rfl, Or.inr ⟨w.heap.size, 0, #[], rfl, Nat.le_refl _, heap_alloc_new w _, Nat.le_refl _, by unfold maxLen; omega, rfl, rfl⟩⟩
theorem BtsOwn.snoc {W : World} {b : Nat} {v : Value} {l : List UInt8} {c : UInt8} (h : W.ownsRow b 5 1 v (l.length + 1) (l.map u8V ++ [u8V c])) : BtsOwn W b v (l ++ [c]) := by
  unfold BtsOwn
  rw [List.map_append, List.length_append, List.length_singleton]
  exact h
/-- The text of bytes in memory of their own. -/
theorem BtsOwn.str {W : World} {b : Nat} {a : Option Addr} {c n : Nat} {l : List UInt8} (h : BtsOwn W b (.slice a n c) l) : (convert 26 9 (.slice a n c)).run Try.prog W = .ok (.string (B l)) W := by
  rcases h.2 with ⟨hv, h0⟩ | ⟨g, cap, cur, hv, hg, hh, h1, h2, h3, h4⟩
  · simp only [Value.slice.injEq] at hv
    obtain ⟨rfl, rfl, rfl⟩ := hv
    obtain rfl := List.length_eq_zero_iff.1 h0
    rw [run_convert_bytes_string W 26 9 5 none 0 0 Try.underlying26 Try.underlying5 Try.underlying9]
    simp [Conv.bytesToString]
    rfl
  · simp only [Value.slice.injEq] at hv
    obtain ⟨rfl, rfl, rfl⟩ := hv
    refine run_convert_bytes_back W 26 9 5 ⟨g, 0, none⟩ c l Try.underlying26 Try.underlying5 Try.underlying9 fun j hj => ?_
    have e : (l.map u8V)[j]? = some (u8V l[j]) := by rw [List.getElem?_map, List.getElem?_eq_getElem hj]; rfl
    rw [← h4, Nat.mul_one, List.getElem?_take_of_lt hj] at e
    have hp : (⟨g, 0, none⟩ : Addr).add j = ⟨g, j, none⟩ := by unfold Addr.add; split <;> simp_all
    rw [hp]
    simp only [World.cell?, hh]
    simpa using e
theorem letter_of (r : Nat) (hr : r < 4) : (((97 + r).toUInt8).toNat : Int) = 97 + (r : Int) := by
  rcases (show r = 0 ∨ r = 1 ∨ r = 2 ∨ r = 3 by omega) with rfl | rfl | rfl | rfl <;> rfl
set_option maxHeartbeats 2000000 in
set_option maxRecDepth 100000 in
theorem Text_any (a : Option Addr) (n c k : Nat) (w : World) (hv : U8At w w.heap.size (.slice a n c) n) (hn : n ≤ maxLen) (hk : k ≤ 1000) :
    Calls Try.prog 13 #[.slice a n c, .int .i64 (k : Nat)] w fun e w' => (∃ l : List UInt8, e = .returned (.string (B l)) ∧ l.length ≤ k) ∧ Below w.heap.size w w' := by
  obtain ⟨i0, hi0, hz0, hz1, hz2⟩ := info_parts infoU8
  unfold maxLen at hn
  have HV := Lib.hid hv
  have RR := Lib.hid (show BtsOwn (w.alloc (.cells #[] 5)) w.heap.size (.slice (some ⟨w.heap.size, 0, none⟩) 0 0) [] ∧ Below w.heap.size w (w.alloc (.cells #[] 5)) from ⟨BtsOwn.new w, (Below.refl _ _).alloc (Nat.le_refl _) _⟩)
  clear hv
  go_enter Try.func13, Try.ntmps13
  go_wp2_with fail
  go_loopw [5, 6] (fun v iv wr => ∃ (i : Nat) (l : List UInt8), iv = .int .i64 (i : Nat) ∧ i ≤ n ∧ i ≤ k ∧ l.length = i ∧ BtsOwn wr w.heap.size v l ∧ Below w.heap.size w wr) (fun _ iv _ => n - (intOf iv).toNat)
  case atStart => exact ⟨0, [], rfl, Nat.zero_le _, Nat.zero_le _, rfl, RR.out.1, RR.out.2⟩
  case round =>
    obtain ⟨i, l, rfl, hin, hik, hll, hown, hb⟩ := hrel
    obtain ⟨va, vc, rfl⟩ := hown.shape
    have OW := Lib.hid hown
    have HB := Lib.hid hb
    have HL := Lib.hid hll
    clear hown hb hll RR
    have i0' : (0 : Int) ≤ (i : Int) := by omega
    by_cases h1 : (i : Int) < (n : Int)
    · by_cases h2 : (i : Int) < (k : Int)
      · obtain ⟨a', c', hv, hP⟩ := HV.out.on HB.out
        obtain ⟨rfl, -⟩ : a = a' ∧ c = c' := by simpa using hv
        obtain ⟨b, off, ha, hlt, hc⟩ := hP (by omega)
        subst ha
        obtain ⟨x, p0, hx⟩ := hc i (by omega)
        obtain ⟨r, hr⟩ : ∃ r : Nat, r = x % 4 := ⟨_, rfl⟩
        have hr4 : r < 4 := by omega
        have hxr : (x : Int) % 4 = (r : Int) := by omega
        have x0 : (0 : Int) ≤ (x : Int) := by omega
        have x1 : (x : Int) ≤ 255 := by omega
        have r0 : (0 : Int) ≤ (r : Int) := by omega
        have r1 : (r : Int) ≤ 3 := by omega
        have hmx : l.length + 1 ≤ maxLen := by unfold maxLen; have := HL.out; omega
        have hby : (l.length + 1) * 1 ≤ 140737488355328 := by have := HL.out; omega
        have hba : w.heap.size ≤ (wr.alloc (.cells #[.int .u8 (97 + (r : Int))] 5)).heap.size := by have := HB.out.size; simp; omega
        have own1 := Lib.hid (World.ownsRow.alloc OW.out (.cells #[.int .u8 (97 + (r : Int))] 5))
        have nw := Lib.hid (heap_alloc_new wr (.cells #[.int .u8 (97 + (r : Int))] 5))
        have hob := Lib.hid OW.out.blk
        have hbl := Lib.hid (HB.out.alloc HB.out.size (.cells #[.int .u8 (97 + (r : Int))] 5))
        have LE := Lib.hid (letter_of r hr4)
        clear hc hP hv hlt hr hx hr4
        go_wp2_with (first
          | (at_builtin; refine wpList_append_own _ rfl _ _ 26 rfl w.heap.size 5 i0 _ 1 1 Try.underlying26 hi0 hz0 hz1 hz2 rfl (by decide) _ _ _ rfl own1.out ⟨wr.heap.size, 0, none⟩ 1 1 [.int .u8 (97 + (r : Int))] rfl rfl (World.news_of_block (cs := #[.int .u8 (97 + (r : Int))]) (t := 5) (fr := (0, 0)) nw.out) (by simp [Value.oneCell']) hmx hby hba ?_; intro v2 w4 hown2 hgrow2 hnil2)
          | fail)
        have RN := Lib.hid (show BtsOwn w4 w.heap.size v2 (l ++ [(97 + r).toUInt8]) ∧ Below w.heap.size w w4 from ⟨BtsOwn.snoc (by unfold u8V; rw [LE.out]; exact hown2), hbl.out.grown hgrow2 hba (fun k hk => hob.out k hk)⟩)
        clear hown2 hgrow2 hnil2 own1 nw hob hbl
        go_roundw
        case rel => exact ⟨i + 1, l ++ [(97 + r).toUInt8], by go_num, by omega, by omega, by rw [List.length_append, HL.out]; rfl, RN.out.1, RN.out.2⟩
        case measure => simp [intOf]; omega
      · have ST := fun (s d : TypeId) => OW.out.str
        have STR := OW.out.str
        go_wp2_with fail
        go_ret
        exact ⟨⟨l, rfl, by rw [HL.out]; omega⟩, HB.out⟩
    · have STR := OW.out.str
      go_wp2_with fail
      go_ret
      exact ⟨⟨l, rfl, by rw [HL.out]; omega⟩, HB.out⟩
end Go.Proofs.Ytadaijepalhohaa

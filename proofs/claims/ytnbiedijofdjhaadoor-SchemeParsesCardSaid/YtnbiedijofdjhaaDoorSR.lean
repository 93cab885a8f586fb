/-
  scheme.readScheme.
-/
import Derived.Test.YtnbiedijofdjhaaDoorSV
import Derived.Deep.Onto
import Derived.Deep.AppendLies
namespace Go.Proofs.YtnbiedijofdjhaaDoor
open Go.RowKit
open Pl

theorem cut_shorter {l : List UInt8} (h : (Lib.cut l [10]).2.2 = true) (hl : l ≠ []) : (Lib.cut l [10]).2.1.length < l.length := by
  unfold Lib.cut at h ⊢
  split at h
  · rename_i h0
    rw [if_pos h0]
    have : 0 < l.length := by cases l with
      | nil => exact absurd rfl hl
      | cons a r => simp
    simp; omega
  · cases h
theorem lineW_short {l a r : List UInt8} (h : lineW l = some (a, r)) : a.length ≤ l.length ∧ r.length ≤ l.length ∧ (l ≠ [] → r.length < l.length) := by
  unfold lineW at h
  split at h
  · rename_i hc
    have h' := Option.some.inj h
    have h1 : (Lib.cut l [10]).1 = a := congrArg (·.1) h'
    have h2 : (Lib.cut l [10]).2.1 = r := congrArg (·.2) h'
    refine ⟨?_, ?_, fun hl => h2 ▸ cut_shorter hc hl⟩
    · rw [← h1]; unfold Lib.cut; split
      · simp; omega
      · simp
    · rw [← h2]; unfold Lib.cut; split
      · simp
      · simp
  · cases h
/-- The rules of the lines ahead of the first wrong one, and whether there is none; at most so many lines as the first number says. -/
def rulesW : Nat → List UInt8 → List Rl × Bool
  | 0, _ => ([], false)
  | f + 1, l => if l = [] then ([], true) else match lineW l with
    | none => ([], false)
    | some (a, r) => match ruleW a with
      | none => ([], false)
      | some x => (x :: (rulesW f r).1, (rulesW f r).2)
theorem rulesW_nil (f : Nat) : rulesW (f + 1) [] = ([], true) := by simp [rulesW]
theorem rulesW_line {f : Nat} {l : List UInt8} (hl : l ≠ []) (h : lineW l = none) : rulesW (f + 1) l = ([], false) := by
  rw [rulesW, if_neg hl, h]
theorem rulesW_rule {f : Nat} {l a r : List UInt8} (hl : l ≠ []) (h : lineW l = some (a, r)) (h2 : ruleW a = none) : rulesW (f + 1) l = ([], false) := by
  rw [rulesW, if_neg hl, h]; simp only [h2]
theorem rulesW_good {f : Nat} {l a r : List UInt8} {x : Rl} (hl : l ≠ []) (h : lineW l = some (a, r)) (h2 : ruleW a = some x) : rulesW (f + 1) l = (x :: (rulesW f r).1, (rulesW f r).2) := by
  rw [rulesW, if_neg hl, h]; simp only [h2]
/-- At each round's head: what has been read, what is left. -/
def RwRel (F : Nat) (s : List UInt8) (rs : List Rl) (l : List UInt8) : Prop := ∃ f, l.length < f ∧ rs.length + l.length ≤ s.length ∧ rulesW F s = (rs ++ (rulesW f l).1, (rulesW f l).2)
theorem RwRel.start (s : List UInt8) : RwRel (s.length + 1) s [] s := ⟨s.length + 1, by omega, by simp, by simp⟩
theorem RwRel.fin {F : Nat} {s : List UInt8} {rs : List Rl} (h : RwRel F s rs []) : rulesW F s = (rs, true) := by
  obtain ⟨f, hf, _, h⟩ := h
  obtain ⟨g, rfl⟩ : ∃ g, f = g + 1 := ⟨f - 1, by simp at hf; omega⟩
  rw [h, rulesW_nil]; simp
theorem RwRel.bad {F : Nat} {s : List UInt8} {rs : List Rl} {l : List UInt8} (h : RwRel F s rs l) (hl : l ≠ []) (hb : lineW l = none ∨ ∃ a r, lineW l = some (a, r) ∧ ruleW a = none) : rulesW F s = (rs, false) := by
  obtain ⟨f, hf, _, h⟩ := h
  obtain ⟨g, rfl⟩ : ∃ g, f = g + 1 := ⟨f - 1, by omega⟩
  rcases hb with hb | ⟨a, r, hb, hb2⟩
  · rw [h, rulesW_line hl hb]; simp
  · rw [h, rulesW_rule hl hb hb2]; simp
theorem RwRel.step {F : Nat} {s : List UInt8} {rs : List Rl} {l a r : List UInt8} {x : Rl} (h : RwRel F s rs l) (hl : l ≠ []) (hb : lineW l = some (a, r)) (hb2 : ruleW a = some x) : RwRel F s (rs ++ [x]) r := by
  obtain ⟨f, hf, hle, h⟩ := h
  obtain ⟨g, rfl⟩ : ∃ g, f = g + 1 := ⟨f - 1, by omega⟩
  have hs := (lineW_short hb).2.2 hl
  refine ⟨g, by omega, by simp; omega, ?_⟩
  rw [h, rulesW_good hl hb hb2]; simp
def readW (s : List UInt8) : Option (Nat × Nat × List Rl × Bool) := match lineW s with
  | none => none
  | some (a, r) => match firstW a with
    | none => none
    | some (m, x) => some (m, x, rulesW (r.length + 1) r)
def rlCells (r : Rl) : List Value := [.int .i64 r.src, .int .i64 r.dst, .string (B r.inp), .string (B r.out), .int .i64 r.cost]
/-- The slice v is a list of rules in memory from block number base on. -/
def RlsOwn (W : World) (base : Nat) (v : Value) (rs : List Rl) : Prop := W.ownsRow base 29 5 v rs.length (rs.flatMap rlCells)
theorem SchBlock.free {W : World} {b : Nat} {c0 c1 c2 : Value} (h : SchBlock W b c0 c1 c2) : W.frozen? ⟨b, 2, none⟩ = false := by
  unfold SchBlock at h; simp [World.frozen?, h]
theorem put_getD {a : Act} {d t : Nat} {v : Value} (h : d ≠ t) : (Act.put a (some d) v).tmps.getD t undef = a.tmps.getD t undef := by
  simp [Act.put, Array.getElem?_setIfInBounds_ne h]
theorem SchBlock.put2 {W : World} {b : Nat} {c0 c1 c2 v : Value} (h : SchBlock W b c0 c1 c2) : SchBlock (W.setCell ⟨b, 2, none⟩ v) b c0 c1 v := by
  unfold SchBlock at h ⊢
  simp [World.setCell, Array.getElem?_modify, h]
theorem SchBlock.keptBy {W W' : World} {b : Nat} {c0 c1 c2 : Value} {row : Option Nat} (h : SchBlock W b c0 c1 c2) (hg : W.grownBy W' row) (hne : row ≠ some b) : SchBlock W' b c0 c1 c2 := by
  have hlt := lt_of_heap h
  unfold SchBlock at h ⊢; rw [hg.block b hlt (fun e => hne e.symm)]; exact h
theorem ErBlock.keptBy {W W' : World} {b : Nat} {x : Int} {row : Option Nat} (h : ErBlock W b x) (hg : W.grownBy W' row) (hne : row ≠ some b) : ErBlock W' b x := by
  have hlt := lt_of_heap h
  unfold ErBlock at h ⊢; rw [hg.block b hlt (fun e => hne e.symm)]; exact h
theorem ErBlock.setCell {W : World} {b b' o : Nat} {x : Int} {u : Value} (h : ErBlock W b x) (hne : b' ≠ b) : ErBlock (W.setCell ⟨b', o, none⟩ u) b x := by
  unfold ErBlock at h ⊢
  simp only [World.setCell, Array.getElem?_modify, if_neg hne]; exact h
theorem RlsOwn.keep {W W' : World} {base : Nat} {v : Value} {rs : List Rl} (h : RlsOwn W base v rs) (hk : ∀ g, base ≤ g → g < W.heap.size → W'.heap[g]? = W.heap[g]?) : RlsOwn W' base v rs := by
  refine ⟨h.1, ?_⟩
  rcases h.2 with h | ⟨g, cap, cur, hv, hgb, hg, r⟩
  · exact Or.inl h
  · exact Or.inr ⟨g, cap, cur, hv, hgb, by rw [hk g hgb (lt_of_heap hg)]; exact hg, r⟩
theorem RlsOwn.later {W W' : World} {base : Nat} {v : Value} {rs : List Rl} (h : RlsOwn W base v rs) (hb : Below W.heap.size W W') : RlsOwn W' base v rs := h.keep fun g _ hg => hb.block g hg
theorem RlsOwn.base {W : World} {b b' : Nat} {v : Value} {rs : List Rl} (h : RlsOwn W b v rs) (hb : b' ≤ b) : RlsOwn W b' v rs := World.ownsRow.mono h hb
theorem RlsOwn.ne {W : World} {b : Nat} {v : Value} {rs : List Rl} (h : RlsOwn W b v rs) {k : Nat} (hk : k < b) : v.ownBlock ≠ some k := by
  rcases h.2 with ⟨rfl, -⟩ | ⟨g, cap, cur, rfl, hg, -⟩
  · simp [Value.ownBlock]
  · intro e
    have : g = k := by simpa [Value.ownBlock] using e
    omega
theorem infoRl : (Tryd.prog.info? 29).map (fun i => (i.zero, i.size, i.bytes)) = some (some (.agg #[.int .i64 0, .int .i64 0, .string ⟨#[]⟩, .string ⟨#[]⟩, .int .i64 0]), 5, 56) := by kernel_rfl
def strLen : Value → Nat
  | .string s => s.size
  | _ => 0
def schZ : Value := .agg #[.int .i64 0, .int .u8 0, .slice none 0 0]
/-- What readScheme hands back. -/
def RsPost (s : List UInt8) (w : World) (e : Ending) (w' : World) : Prop := Below w.heap.size w w' ∧ match readW s with
  | none => e = .returned (.tuple #[schZ, .int .i64 (-1), .int .i64 3])
  | some (_, _, rs, false) => e = .returned (.tuple #[schZ, .int .i64 (rs.length : Nat), .int .i64 3])
  | some (m, x, rs, true) => ∃ v, e = .returned (.tuple #[.agg #[.int .i64 m, .int .u8 x, v], .int .i64 (rs.length : Nat), .int .i64 0]) ∧ RlsOwn w' w.heap.size v rs

set_option maxHeartbeats 1000000 in
set_option maxRecDepth 100000 in
theorem readScheme_any (s : List UInt8) (m : Int) (w : World) (hT : StrTab w) (h0 : 0 < w.heap.size) (hs : s.length < 4294967281) (hm : MaxVar w m) (hg : 2 < w.heap.size) :
    Calls Tryd.prog 63 #[.string (B s)] w (RsPost s w) := by
  have hmf : ∀ (fn : Fn) (first cap : Array Value) (w : World), (Instr.makeFunc fn first cap).run Tryd.prog w = .ok (.func fn first cap) w := fun _ _ _ _ => rfl
  have hb : Below w.heap.size w ((w.alloc (.cells #[.int .i64 0, .int .u8 0, .slice none 0 0] 24)).alloc (.cells #[.int .i64 0] 33)) := ((Below.refl _ _).alloc (Nat.le_refl _) _).alloc (by simp) _
  have SB0 := Lib.hid (show SchBlock ((w.alloc (.cells #[.int .i64 0, .int .u8 0, .slice none 0 0] 24)).alloc (.cells #[.int .i64 0] 33)) w.heap.size (.int .i64 0) (.int .u8 0) (.slice none 0 0) from (SchBlock.new w _ _ _).alloc _)
  have EB0 := Lib.hid (show ErBlock ((w.alloc (.cells #[.int .i64 0, .int .u8 0, .slice none 0 0] 24)).alloc (.cells #[.int .i64 0] 33)) (w.heap.size + 1) 0 by
    have := heap_alloc_new (w.alloc (.cells #[.int .i64 0, .int .u8 0, .slice none 0 0] 24)) (.cells #[.int .i64 0] 33)
    rw [World.size_alloc] at this
    exact this)
  have CL := Lib.hid (cutLine_any s m _ hs (hm.below hg hb))
  have HB := Lib.hid hb
  have HT := Lib.hid hT
  have H0 := Lib.hid h0
  have HM := Lib.hid hm
  have HG := Lib.hid hg
  have HS := Lib.hid hs
  clear hT h0 hs hm hg hb
  go_enter_defers Tryd.func63, Tryd.ntmps63
  go_wp2_with fail
  generalize (w.alloc _).alloc _ = w1 at *
  refine (CL.out).mono ?_
  rintro e x1 ⟨he, hb⟩
  have HB1 := Lib.hid (HB.out.trans (hb.mono HB.out.size))
  have SB1 := Lib.hid (SB0.out.below hb)
  have EB1 := Lib.hid (EB0.out.below hb)
  clear hb CL HB SB0 EB0
  cases hl : lineW s with
  | none =>
    rw [hl] at he
    obtain rfl : e = .panicked pcF := he
    have HR := Lib.hid (show readW s = none by unfold readW; rw [hl])
    exact door_p (base := w.heap.size) (w0 := w) (-1) rfl rfl rfl SB1.out EB1.out (by omega) (Nat.le_refl _) (by omega) HB1.out fun w' hb' => ⟨hb', by rw [HR.out]; rfl⟩
  | some p =>
    obtain ⟨a, r⟩ := p
    rw [hl] at he
    obtain rfl : e = .returned (.tuple #[.string (B a), .string (B r)]) := he
    have HLs := Lib.hid (lineW_short hl)
    have ER := Lib.hid (show readW s = match firstW a with | none => none | some (m, x) => some (m, x, rulesW (r.length + 1) r) by unfold readW; rw [hl])
    have CF := Lib.hid (readFirst_any a m _ (HT.out.below HB1.out H0.out) (Nat.lt_of_lt_of_le H0.out HB1.out.size) (by have := HLs.out.1; have := HS.out; omega) (HM.out.below HG.out HB1.out) (Nat.lt_of_lt_of_le HG.out HB1.out.size))
    clear hl
    go_wp2_with fail
    refine (CF.out).mono ?_
    rintro e x2 ⟨he, hb⟩
    have HB2 := Lib.hid (HB1.out.trans (hb.mono HB1.out.size))
    have SB2 := SB1.out.below hb
    have EB2 := Lib.hid (EB1.out.below hb)
    clear hb CF HB1 SB1 EB1
    cases hf : firstW a with
    | none =>
      rw [hf] at he ER
      obtain rfl : e = .panicked pcF := he
      exact door_p (base := w.heap.size) (w0 := w) (-1) rfl rfl rfl SB2 EB2.out (by omega) (Nat.le_refl _) (by omega) HB2.out fun w' hb' => ⟨hb', by rw [ER.out]; rfl⟩
    | some p =>
      obtain ⟨md, mk⟩ := p
      rw [hf] at he ER
      obtain rfl : e = .returned (.agg #[.int .i64 md, .int .u8 mk, .slice none 0 0]) := he
      clear hf
      go_wp2_with (first | (refine wpList_store_sch rfl _ _ rfl _ _ _ _ SB2 rfl _ _ _ _ _ rfl ?_; intro W' hB' hg' hs'; clear SB2))
      have SB3 := Lib.hid hB'
      have EB3 := Lib.hid (EB2.out.kept hg' (by omega))
      have HB3 := Lib.hid (HB2.out.grown hg' HB2.out.size (by simp))
      clear hB' hg' hs' HB2 EB2
      go_loopw [3, 6] (fun n q wr => ∃ (rs : List Rl) (l : List UInt8) (va : Option Addr) (vc : Nat), n = .int .i64 (rs.length : Nat) ∧ q = .string (B l) ∧ SchBlock wr w.heap.size (.int .i64 md) (.int .u8 mk) (.slice va rs.length vc) ∧ ErBlock wr (w.heap.size + 1) 0 ∧ RlsOwn wr (w.heap.size + 2) (.slice va rs.length vc) rs ∧ Below w.heap.size w wr ∧ RwRel (r.length + 1) r rs l) (fun _ q _ => strLen q)
      case atStart => exact ⟨[], r, none, 0, rfl, rfl, SB3.out, EB3.out, ⟨rfl, Or.inl ⟨rfl, rfl⟩⟩, HB3.out, RwRel.start r⟩
      case round =>
        obtain ⟨rs, l, va, vc, rfl, rfl, hSB, hEB, hO, hb, hR⟩ := hrel
        have HR := Lib.hid hR
        have HRl := Lib.hid (show rs.length + l.length ≤ r.length by obtain ⟨f, _, h, _⟩ := hR; exact h)
        have HO := Lib.hid hO
        have HBR := Lib.hid hb
        have SB4 := Lib.hid hSB
        have EB4 := Lib.hid hEB
        clear hR hO hb hEB SB3 EB3 HB3
        obtain ⟨s0, s1, s2⟩ := hSB.cells
        by_cases hl0 : l = []
        · subst hl0
          have H00 : (B []).toList.isEmpty = true := by rw [ByteArray.toList_eq, toList_B]; rfl
          have EF := Lib.hid (HR.out.fin)
          clear HR
          go_wp2_with (first | (refine wpList_store_sch rfl _ _ rfl _ _ _ _ hSB rfl _ _ _ _ _ rfl ?_; intro W' hB' hg' hs'; obtain ⟨e1, e2⟩ := (EB4.out.kept hg' (by omega)).cell))
          refine door_r (rs.length : Nat) rfl rfl rfl (hB'.setCell (by omega)) (x := 0) (by simp [go_sem, e1]) ⟨(HBR.out.grown hg' HBR.out.size (by simp)).setCell (by simp) _, ?_⟩
          rw [ER.out, EF.out]
          refine ⟨_, rfl, (HO.out.keep fun g hg1 hg2 => ?_).base (by omega)⟩
          simp only [World.setCell, Array.getElem?_modify, if_neg (show ¬ w.heap.size + 1 = g by omega)]
          exact hg'.block g hg2 (by simp; omega)
        · have H00 : (B l).toList.isEmpty = false := nonempty_B hl0
          have CL := Lib.hid (cutLine_any l m wr (by have := HRl.out; have := HLs.out.2.1; have := HS.out; omega) (HM.out.below HG.out HBR.out))
          clear hSB
          go_wp2_with fail
          refine (CL.out).mono ?_
          rintro e x5 ⟨he, hb⟩
          have HB5 := Lib.hid (HBR.out.trans (hb.mono HBR.out.size))
          have SB5 := Lib.hid (SB4.out.below hb)
          have EB5 := Lib.hid (EB4.out.below hb)
          have HO5 := Lib.hid (HO.out.later hb)
          clear hb CL HBR SB4 EB4 HO s0 s1 s2
          cases hl : lineW l with
          | none =>
            rw [hl] at he
            obtain rfl : e = .panicked pcF := he
            have EF := Lib.hid (HR.out.bad hl0 (Or.inl hl))
            exact door_p (base := w.heap.size) (w0 := w) (rs.length : Nat) rfl rfl rfl SB5.out EB5.out (by omega) (Nat.le_refl _) (by omega) HB5.out fun w' hb' => ⟨hb', by rw [ER.out, EF.out]; rfl⟩
          | some p =>
            obtain ⟨la, q⟩ := p
            rw [hl] at he
            obtain rfl : e = .returned (.tuple #[.string (B la), .string (B q)]) := he
            have HLs2 := Lib.hid (lineW_short hl)
            have CR := fun W hb => Lib.hid (readRule_any la m W (HT.out.below (HB5.out.trans (Below.mono hb HB5.out.size)) H0.out) (Nat.lt_of_lt_of_le H0.out (HB5.out.trans (Below.mono hb HB5.out.size)).size) (by have := HLs2.out.1; have := HRl.out; have := HLs.out.2.1; have := HS.out; omega) (HM.out.below HG.out (HB5.out.trans (Below.mono hb HB5.out.size))) (Nat.lt_of_lt_of_le HG.out (HB5.out.trans (Below.mono hb HB5.out.size)).size))
            obtain ⟨s0, s1, s2⟩ := SB5.out.cells
            cases hr : ruleW la with
            | none =>
              rw [hr] at CR
              have EF := Lib.hid (HR.out.bad hl0 (Or.inr ⟨la, q, hl, hr⟩))
              clear HR hr hl
              go_upto_region 9 with fail
              refine wp_mono (Q := fun e a' w' => e = .panic pcF ∧ (a'.tmps.getD 2 undef = .pointer (some ⟨w.heap.size, 0, none⟩) ∧ a'.tmps.getD 3 undef = .int .i64 (rs.length : Nat) ∧ a'.tmps.getD 4 undef = .pointer (some ⟨w.heap.size + 1, 0, none⟩) ∧ a'.defers = [{ target := .fn (.func 87) #[.pointer (some ⟨w.heap.size, 0, none⟩), .pointer (some ⟨w.heap.size + 1, 0, none⟩)], args := #[] }]) ∧ Below x5.heap.size x5 w') ?_ ?_
              · refine wp_region_late (C := fun W => W.cell? ⟨w.heap.size, 2, none⟩ = some (.slice va rs.length vc)) (.pointer (some ⟨w.heap.size, 2, none⟩)) (.slice va rs.length vc) 5 (by kernel_rfl) (by kernel_rfl) s2 (fun c a w h => by rw [put_getD (by decide), put_getD (by decide), put_getD (by decide), put_defers] at h; exact h) (fun c a w h => by rw [put_getD (by decide), put_getD (by decide), put_getD (by decide), put_defers] at h; exact h) (fun W => by go_simp) (fun W h => by go_simp) ?_
                intro K hK
                go_simp
                go_big_quiet_on
                have s2' : x5.drew.cell? ⟨w.heap.size, 2, none⟩ = some (.slice va rs.length vc) := s2
                refine wpListC_value (w' := x5.drew) (.string (B la)) rfl (by go_simp) s2' ?_
                intro K hK
                go_simp
                go_big_quiet_on
                refine wpListC_call 90 #[.string (B la)] rfl (by go_simp) (CR x5.drew (Below.refl _ _).drew).out ?_
                rintro e x6 ⟨rfl, hb6⟩
                exact Or.inr ⟨pcF, rfl, rfl, ⟨rfl, rfl, rfl, rfl⟩, (Below.refl _ _).drew.trans hb6⟩
              · rintro e a' w' ⟨rfl, ⟨t2, t3, t4, td⟩, hb⟩
                obtain ⟨tm, df⟩ := a'
                obtain rfl : df = _ := td
                exact door_p (base := w.heap.size) (w0 := w) (rs.length : Nat) t2 t3 t4 (SB5.out.below hb) (EB5.out.below hb) (by omega) (Nat.le_refl _) (by omega) (HB5.out.trans (hb.mono HB5.out.size)) fun w' hb' => ⟨hb', by rw [ER.out, EF.out]; rfl⟩
            | some x =>
              rw [hr] at CR
              have HX := Lib.hid (HR.out.step hl0 hl hr)
              clear HR hr hl
              have hcx : SchBlock x5.drew w.heap.size (.int .i64 md) (.int .u8 mk) (.slice va rs.length vc) := SB5.out
              go_upto_region 9 with fail
              refine wp_normal ?_
              refine wp_region_late (C := fun W => W.cell? ⟨w.heap.size, 2, none⟩ = some (.slice va rs.length vc)) (.pointer (some ⟨w.heap.size, 2, none⟩)) (.slice va rs.length vc) 5 (by kernel_rfl) (by kernel_rfl) s2 (fun _ _ _ h => by cases h.1) (fun _ _ _ h => by cases h.1) (fun W => by go_simp) (fun W h => by go_simp) ?_
              intro K hK
              go_simp
              go_big_quiet_on
              have s2' : x5.drew.cell? ⟨w.heap.size, 2, none⟩ = some (.slice va rs.length vc) := s2
              refine wpListC_value (w' := x5.drew) (.string (B la)) rfl (by go_simp) s2' ?_
              intro K hK
              go_simp
              go_big_quiet_on
              refine wpListC_call 90 #[.string (B la)] rfl (by go_simp) (CR x5.drew (Below.refl _ _).drew).out ?_
              rintro e x6 ⟨rfl, hb6⟩
              have s6 : x6.cell? ⟨w.heap.size, 2, none⟩ = some (.slice va rs.length vc) := (hb6.cell (p := ⟨w.heap.size, 2, none⟩) SB5.out.lt).trans s2
              refine Or.inl ⟨_, rfl, s6, ?_⟩
              intro K hK
              go_simp
              go_big_quiet_on
              have HB6 := Lib.hid (HB5.out.trans ((Below.refl _ _).drew.trans hb6 |>.mono HB5.out.size))
              have SB6 := Lib.hid (SB5.out.below ((Below.refl _ _).drew.trans hb6))
              have EB6 := Lib.hid (EB5.out.below ((Below.refl _ _).drew.trans hb6))
              have HO6 := Lib.hid (HO5.out.later ((Below.refl _ _).drew.trans hb6))
              clear s0 s1 s2 s2' hb6 CR SB5 EB5 HO5 HB5 hcx
              have al := (Below.refl x6.heap.size x6).alloc (Nat.le_refl _) (.cells #[.int .i64 x.src, .int .i64 x.dst, .string (B x.inp), .string (B x.out), .int .i64 x.cost] 29)
              refine wpListC_value (w' := x6.alloc (.cells #[.int .i64 x.src, .int .i64 x.dst, .string (B x.inp), .string (B x.out), .int .i64 x.cost] 29)) (.slice (some ⟨x6.heap.size, 0, none⟩) 1 1) rfl (by go_simp) ((al.cell (p := ⟨w.heap.size, 2, none⟩) SB6.out.lt).trans s6) ?_
              intro K hK
              go_simp
              go_big_quiet_on
              refine wpListC_rest _ _ _ _ (fun j hj => decide_eq_true hj) (by simp) ?_
              have HB7 := Lib.hid (HB6.out.trans (al.mono HB6.out.size))
              have SB7 := SB6.out.below al
              have EB7 := EB6.out.below al
              have HO7 := HO6.out.later al
              have hne1 := HO6.out.ne (show w.heap.size < w.heap.size + 2 by omega)
              have hne2 := HO6.out.ne (show w.heap.size + 1 < w.heap.size + 2 by omega)
              have hob : ∀ k, (Value.slice va rs.length vc).ownBlock = some k → w.heap.size ≤ k := fun k hk => by
                rcases Nat.lt_or_ge k (w.heap.size + 2) with h | h
                · exact absurd hk (HO6.out.ne h)
                · omega
              have hn' : rs.length + 1 ≤ maxLen := by have := HRl.out; have := HLs.out.2.1; have := HS.out; unfold maxLen; omega
              have hby : (rs.length + 1) * 56 ≤ 140737488355328 := by have := HRl.out; have := HLs.out.2.1; have := HS.out; omega
              have hsz7 : w.heap.size + 2 ≤ (x6.alloc (.cells #[.int .i64 x.src, .int .i64 x.dst, .string (B x.inp), .string (B x.out), .int .i64 x.cost] 29)).heap.size := by have := EB7.lt; omega
              obtain ⟨i0, hi0, hz0, hz1, hz2⟩ := info_parts infoRl
              refine wpList_append_lies _ rfl _ _ _ rfl (w.heap.size + 2) 29 i0 _ 5 56 Tryd.underlying22 hi0 hz0 hz1 hz2 rfl (by omega) (.slice va rs.length vc) rs.length (rs.flatMap rlCells) (by rfl) HO7 ⟨x6.heap.size, 0, none⟩ 1 1 (rlCells x) (by rfl) (by rfl) (World.news_of_block (cs := (rlCells x).toArray) (t := 29) (fr := (0, 0)) (heap_alloc_new x6 _)) (by simp [rlCells, Value.oneCell']) (by omega) hn' hby hsz7 (x6.heap.size + 1) (by simp) ?_
              intro gg cap' w8 hown8 hgrow hat hlt8
              obtain ⟨z0, z1, z2⟩ := (SB7.keptBy hgrow hne1).cells
              have zf := (SB7.keptBy hgrow hne1).free
              go_wp2_with fail
              have hlen : (rs ++ [x]).length = rs.length + 1 := by simp
              have hO8 : RlsOwn w8 (w.heap.size + 2) (.slice (some ⟨gg, 0, none⟩) (rs.length + 1) cap') (rs ++ [x]) := by
                unfold RlsOwn
                rw [hlen, List.flatMap_append]
                simpa using hown8
              have hk8 : ∀ g, w.heap.size + 2 ≤ g → (w8.setCell ⟨w.heap.size, 2, none⟩ (.slice (some ⟨gg, 0, none⟩) (rs.length + 1) cap')).heap[g]? = w8.heap[g]? := fun g hg => by
                simp only [World.setCell, Array.getElem?_modify, if_neg (show ¬ w.heap.size = g by omega)]
              go_roundw
              case rel => exact ⟨rs ++ [x], q, some ⟨gg, 0, none⟩, cap', by rw [hlen]; rfl, rfl, by rw [hlen]; exact (SB7.keptBy hgrow hne1).put2, (EB7.keptBy hgrow hne2).setCell (by omega), by rw [hlen]; exact hO8.keep fun g hg _ => hk8 g hg, (HB7.out.grown hgrow HB7.out.size hob).setCell (Nat.le_refl _) _, HX.out⟩
              case measure => simp only [strLen, size_B]; exact HLs2.out.2.2 hl0
end Go.Proofs.YtnbiedijofdjhaaDoor

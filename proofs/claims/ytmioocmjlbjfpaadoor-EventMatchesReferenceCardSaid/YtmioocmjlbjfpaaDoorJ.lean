/-
  The table of the kinds: what a look-up and a walk over it give; event.fits, event.kindOf.
-/
import Derived.Test.YtmioocmjlbjfpaaDoorI
import Derived.Laws.EntriesVeiled
namespace Go.Proofs.YtmioocmjlbjfpaaDoor
open Go.RowKit
open Pl
open Go.ChangeMaps (setBlock)

def nameTab : Nat → List UInt8
  | 0 => [107, 101, 121]
  | 1 => [99, 104, 111, 114, 100]
  | 2 => [116, 111, 117, 99, 104]
  | 3 => [115, 116, 114, 111, 107, 101]
  | 4 => [112, 97, 115, 116, 101]
  | 5 => [101, 114, 97, 115, 101]
  | 6 => [108, 101, 102, 116]
  | 7 => [114, 105, 103, 104, 116]
  | 8 => [104, 111, 108, 100]
  | 9 => [99, 104, 111, 111, 115, 101]
  | 10 => [99, 111, 109, 109, 105, 116]
  | 11 => [99, 97, 110, 99, 101, 108]
  | _ => []
def spanTab : Nat → List Int
  | 0 => [1, 1, 0, 0, 0, 0, 0, 0, 0, 0]
  | 1 => [2, 4, 0, 0, 0, 0, 0, 0, 0, 0]
  | 2 => [0, 0, 1, 1, 0, 0, 0, 0, 0, 0]
  | 3 => [0, 0, 2, 12, 0, 0, 0, 0, 0, 0]
  | 4 => [0, 0, 0, 0, 1, 20, 0, 0, 0, 0]
  | 5 => [0, 0, 0, 0, 0, 0, 0, 0, 0, 0]
  | 6 => [0, 0, 0, 0, 0, 0, 0, 0, 0, 0]
  | 7 => [0, 0, 0, 0, 0, 0, 0, 0, 0, 0]
  | 8 => [0, 0, 0, 0, 0, 0, 0, 39, 1, 40]
  | 9 => [0, 0, 0, 0, 0, 0, 0, 49, 0, 0]
  | 10 => [0, 0, 0, 0, 0, 0, 0, 0, 0, 0]
  | 11 => [0, 0, 0, 0, 0, 0, 0, 0, 0, 0]
  | _ => []
def spanAt (i j : Nat) : Int := (spanTab i).getD j 0
def wrTab : Nat → Nat
  | 0 => 28
  | 1 => 28
  | 2 => 30
  | 3 => 30
  | 4 => 32
  | 5 => 50
  | 6 => 50
  | 7 => 50
  | 8 => 35
  | 9 => 37
  | 10 => 50
  | 11 => 50
  | _ => 0
def rdTab : Nat → Nat
  | 0 => 29
  | 1 => 29
  | 2 => 31
  | 3 => 31
  | 4 => 33
  | 5 => 51
  | 6 => 51
  | 7 => 51
  | 8 => 36
  | 9 => 38
  | 10 => 51
  | 11 => 51
  | _ => 0
theorem under12 {Q : Nat → Prop} (h0 : Q 0) (h1 : Q 1) (h2 : Q 2) (h3 : Q 3) (h4 : Q 4) (h5 : Q 5) (h6 : Q 6) (h7 : Q 7) (h8 : Q 8) (h9 : Q 9) (h10 : Q 10) (h11 : Q 11) : ∀ i, i < 12 → Q i
  | 0, _ => h0 | 1, _ => h1 | 2, _ => h2 | 3, _ => h3 | 4, _ => h4 | 5, _ => h5 | 6, _ => h6 | 7, _ => h7 | 8, _ => h8 | 9, _ => h9 | 10, _ => h10 | 11, _ => h11
  | n + 12, h => absurd h (by omega)
theorem formAt_eq (i : Nat) (hi : i < 12) : formAt i = .agg #[.string (B (nameTab i)), .int .i64 (spanAt i 0), .int .i64 (spanAt i 1), .int .i64 (spanAt i 2), .int .i64 (spanAt i 3), .int .i64 (spanAt i 4), .int .i64 (spanAt i 5), .int .i64 (spanAt i 6), .int .i64 (spanAt i 7), .int .i64 (spanAt i 8), .int .i64 (spanAt i 9), .func (.func (wrTab i)) #[] #[], .func (.func (rdTab i)) #[] #[]] :=
  under12 (Q := fun i => formAt i = .agg #[.string (B (nameTab i)), .int .i64 (spanAt i 0), .int .i64 (spanAt i 1), .int .i64 (spanAt i 2), .int .i64 (spanAt i 3), .int .i64 (spanAt i 4), .int .i64 (spanAt i 5), .int .i64 (spanAt i 6), .int .i64 (spanAt i 7), .int .i64 (spanAt i 8), .int .i64 (spanAt i 9), .func (.func (wrTab i)) #[] #[], .func (.func (rdTab i)) #[] #[]]) rfl rfl rfl rfl rfl rfl rfl rfl rfl rfl rfl rfl i hi
theorem mem_table {e : MapEntry} (h : e ∈ tableEs.toList) : ∃ i, i < 12 ∧ e = entryAt i := by
  have h' : e ∈ [entryAt 0, entryAt 1, entryAt 2, entryAt 3, entryAt 4, entryAt 5, entryAt 6, entryAt 7, entryAt 8, entryAt 9, entryAt 10, entryAt 11] := h
  simp only [List.mem_cons, List.not_mem_nil, or_false] at h'
  rcases h' with h | h | h | h | h | h | h | h | h | h | h | h <;> exact ⟨_, by omega, h⟩
theorem table_mem (i : Nat) (hi : i < 12) : entryAt i ∈ tableEs.toList := by
  have h' : entryAt i ∈ [entryAt 0, entryAt 1, entryAt 2, entryAt 3, entryAt 4, entryAt 5, entryAt 6, entryAt 7, entryAt 8, entryAt 9, entryAt 10, entryAt 11] := by
    revert i
    exact under12 (by simp) (by simp) (by simp) (by simp) (by simp) (by simp) (by simp) (by simp) (by simp) (by simp) (by simp) (by simp)
  exact h'
/-- Block b is the table. -/
def TabAt (W : World) (b : Nat) : Prop := W.heap[b]? = some (.map tableEs 12)
theorem Tab.at {B : Nat} {w0 W : World} (h : Tab B w0 tableEs W) : TabAt W B := h.1
theorem TabAt.lt {W : World} {b : Nat} (h : TabAt W b) : b < W.heap.size := lt_of_heap h
theorem TabAt.below {W W' : World} {b : Nat} (h : TabAt W b) (hb : Below W.heap.size W W') : TabAt W' b := by
  have := h.lt
  unfold TabAt at h ⊢; rw [hb.block b this]; exact h
theorem TabAt.alloc {W : World} {b : Nat} (h : TabAt W b) (o : Obj) : TabAt (W.alloc o) b := h.below ((Below.refl _ _).alloc (Nat.le_refl _) o)

theorem find_yes : ∀ (i : Nat), i < 12 → Instr.findNow (.int .i64) (.int .i64 ((i + 1 : Nat) : Int)) tableEs.toList 0 = some (some (i, formAt i)) :=
  under12 rfl rfl rfl rfl rfl rfl rfl rfl rfl rfl rfl rfl
theorem find_no (k : Int) (h : k < 1 ∨ 12 < k) : Instr.findNow (.int .i64) (.int .i64 k) tableEs.toList 0 = some none := by
  have e : ∀ (j : Nat) (l : List MapEntry), j < 12 → Instr.findNow (.int .i64) (.int .i64 k) (entryAt j :: l) j = Instr.findNow (.int .i64) (.int .i64 k) l (j + 1) := by
    intro j l hj
    have hne : (k == ((j + 1 : Nat) : Int)) = false := by rw [beq_eq_false_iff_ne]; omega
    simp only [Instr.findNow, entryAt, Instr.sameNow, if_true, hne]
  show Instr.findNow (.int .i64) (.int .i64 k) [entryAt 0, entryAt 1, entryAt 2, entryAt 3, entryAt 4, entryAt 5, entryAt 6, entryAt 7, entryAt 8, entryAt 9, entryAt 10, entryAt 11] 0 = some none
  rw [e 0 _ (by omega), e 1 _ (by omega), e 2 _ (by omega), e 3 _ (by omega), e 4 _ (by omega), e 5 _ (by omega), e 6 _ (by omega), e 7 _ (by omega), e 8 _ (by omega), e 9 _ (by omega), e 10 _ (by omega), e 11 _ (by omega)]
  rfl
theorem run_check (W : World) (k : Int) (c : Bool) : (Instr.checkKey c 10000 3 (.int .i64 k)).run Tryd.prog W = .ok () W := by
  rw [show (10000 : Nat) = 9999 + 1 from rfl, Instr.checkKey]
  simp [run_underlying Tryd.underlying3]
theorem look_yes {W : World} {b : Nat} (h : TabAt W b) (i : Nat) (hi : i < 12) (ok : Bool) :
    (Instr.lookup 52 (.map (some b)) (.int .i64 ((i + 1 : Nat) : Int)) ok).run Tryd.prog W = .ok (if ok then .tuple #[formAt i, .bool true] else formAt i) W := by
  have hf : (Instr.findKey 3 (.int .i64 ((i + 1 : Nat) : Int)) tableEs.toList).run Tryd.prog W = .ok (some (i, formAt i)) W := by
    simp only [Instr.findKey, Sem.run_bind, run_underlying Tryd.underlying3, Result.andThen, find_yes i hi]; rfl
  generalize ((i + 1 : Nat) : Int) = kk at *
  cases ok <;> simp [Instr.lookup, run_underlying Tryd.underlying52, MapKept.run_getObj_map h, run_check, hf, Result.andThen]
theorem look_no {W : World} {b : Nat} (h : TabAt W b) (k : Int) (hk : k < 1 ∨ 12 < k) :
    (Instr.lookup 52 (.map (some b)) (.int .i64 k) true).run Tryd.prog W = .ok (.tuple #[formAt 12, .bool false]) W := by
  have hf : (Instr.findKey 3 (.int .i64 k) tableEs.toList).run Tryd.prog W = .ok none W := by
    simp only [Instr.findKey, Sem.run_bind, run_underlying Tryd.underlying3, Result.andThen, find_no k hk]; rfl
  simp [Instr.lookup, run_underlying Tryd.underlying52, MapKept.run_getObj_map h, run_check, hf, Result.andThen]
  rfl

/-- Does an event with these fields fit the form number i? -/
def fitsK (i : Nat) (keys : List UInt8) (ps : List (Int × Int)) (text : List UInt8) (n l : Int) : Bool :=
  fitsB (spanAt i 0) (spanAt i 1) (spanAt i 2) (spanAt i 3) (spanAt i 4) (spanAt i 5) (spanAt i 6) (spanAt i 7) (spanAt i 8) (spanAt i 9) keys ps text n l

theorem formFits_any (nm : ByteArray) (k1 k2 p1 p2 t1 t2 n1 n2 s1 s2 : Int) (wr rd : Nat) (kd : Int) (keys : List UInt8) (va : Option Addr) (vc : Nat) (ps : List (Int × Int)) (text : List UInt8) (n l : Int) (w : World) (hP : PtsAt w w.heap.size (.slice va ps.length vc) ps) (hl : ps.length ≤ maxLen) :
    Calls Tryd.prog 44 #[.agg #[.string nm, .int .i64 k1, .int .i64 k2, .int .i64 p1, .int .i64 p2, .int .i64 t1, .int .i64 t2, .int .i64 n1, .int .i64 n2, .int .i64 s1, .int .i64 s2, .func (.func wr) #[] #[], .func (.func rd) #[] #[]], .agg #[.int .i64 kd, .string (B keys), .slice va ps.length vc, .string (B text), .int .i64 n, .int .i64 l]] w fun e w' => e = .returned (.bool (fitsB k1 k2 p1 p2 t1 t2 n1 n2 s1 s2 keys ps text n l)) ∧ Below w.heap.size w w' := by
  unfold fitsB
  cases h1 : hasB k1 k2 ((B keys).size : Int) with
  | false => exact fits_case0 nm k1 k2 p1 p2 t1 t2 n1 n2 s1 s2 wr rd kd keys va vc ps text n l w h1
  | true =>
  cases h2 : hasB p1 p2 (ps.length : Int) with
  | false => exact fits_case1 nm k1 k2 p1 p2 t1 t2 n1 n2 s1 s2 wr rd kd keys va vc ps text n l w h1 h2
  | true =>
  cases h3 : hasB t1 t2 ((B text).size : Int) with
  | false => exact fits_case2 nm k1 k2 p1 p2 t1 t2 n1 n2 s1 s2 wr rd kd keys va vc ps text n l w h1 h2 h3
  | true =>
  cases h4 : hasB n1 n2 n with
  | false => exact fits_case3 nm k1 k2 p1 p2 t1 t2 n1 n2 s1 s2 wr rd kd keys va vc ps text n l w h1 h2 h3 h4
  | true =>
  cases h5 : hasB s1 s2 l with
  | false => exact fits_case4 nm k1 k2 p1 p2 t1 t2 n1 n2 s1 s2 wr rd kd keys va vc ps text n l w h1 h2 h3 h4 h5
  | true =>
  cases h6 : lettersB keys with
  | false => exact fits_case5 nm k1 k2 p1 p2 t1 t2 n1 n2 s1 s2 wr rd kd keys va vc ps text n l w h1 h2 h3 h4 h5 h6
  | true =>
  cases h7 : incB keys with
  | false => exact fits_case6 nm k1 k2 p1 p2 t1 t2 n1 n2 s1 s2 wr rd kd keys va vc ps text n l w h1 h2 h3 h4 h5 h6 h7
  | true =>
  cases h8 : lettersB text with
  | false => exact fits_case7 nm k1 k2 p1 p2 t1 t2 n1 n2 s1 s2 wr rd kd keys va vc ps text n l w h1 h2 h3 h4 h5 h6 h7 h8
  | true =>
  cases h9 : insideB ps with
  | false => exact fits_case8 nm k1 k2 p1 p2 t1 t2 n1 n2 s1 s2 wr rd kd keys va vc ps text n l w h1 h2 h3 h4 h5 h6 h7 h8 h9 hP hl
  | true => exact fits_case9 nm k1 k2 p1 p2 t1 t2 n1 n2 s1 s2 wr rd kd keys va vc ps text n l w h1 h2 h3 h4 h5 h6 h7 h8 h9 hP hl

set_option maxHeartbeats 2000000 in
set_option maxRecDepth 100000 in
theorem fits_no (b : Nat) (kd : Int) (keys : List UInt8) (va : Option Addr) (vc : Nat) (ps : List (Int × Int)) (text : List UInt8) (n l : Int) (w : World) (hT : TabAt w b) (hk : kd < 1 ∨ 12 < kd) :
    Calls Tryd.prog 24 #[.map (some b), .agg #[.int .i64 kd, .string (B keys), .slice va ps.length vc, .string (B text), .int .i64 n, .int .i64 l]] w fun e w' => e = .returned (.bool false) ∧ Below w.heap.size w w' := by
  have hlk := look_no (hT.alloc (.cells #[.int .i64 kd, .string (B keys), .slice va ps.length vc, .string (B text), .int .i64 n, .int .i64 l] 31)) kd hk
  have hz : formAt 12 = .agg #[.string ⟨#[]⟩, .int .i64 0, .int .i64 0, .int .i64 0, .int .i64 0, .int .i64 0, .int .i64 0, .int .i64 0, .int .i64 0, .int .i64 0, .int .i64 0, .nilFunc, .nilFunc] := rfl
  clear hk hT
  go_enter Tryd.func24, Tryd.ntmps24
  go_wp2_with fail
  go_ret
  exact ⟨rfl, ((Below.refl _ _).alloc (Nat.le_refl _) _).alloc (by simp) _⟩

set_option maxHeartbeats 2000000 in
set_option maxRecDepth 100000 in
theorem fits_yes (b i : Nat) (hi : i < 12) (keys : List UInt8) (va : Option Addr) (vc : Nat) (ps : List (Int × Int)) (text : List UInt8) (n l : Int) (w : World) (hT : TabAt w b) (hP : PtsAt w w.heap.size (.slice va ps.length vc) ps) (hl : ps.length ≤ maxLen) :
    Calls Tryd.prog 24 #[.map (some b), .agg #[.int .i64 ((i + 1 : Nat) : Int), .string (B keys), .slice va ps.length vc, .string (B text), .int .i64 n, .int .i64 l]] w fun e w' => e = .returned (.bool (fitsK i keys ps text n l)) ∧ Below w.heap.size w w' := by
  have hlk := look_yes (hT.alloc (.cells #[.int .i64 ((i + 1 : Nat) : Int), .string (B keys), .slice va ps.length vc, .string (B text), .int .i64 n, .int .i64 l] 31)) i hi true
  rw [formAt_eq i hi] at hlk
  have C := fun w hP => Lib.hid (formFits_any (B (nameTab i)) (spanAt i 0) (spanAt i 1) (spanAt i 2) (spanAt i 3) (spanAt i 4) (spanAt i 5) (spanAt i 6) (spanAt i 7) (spanAt i 8) (spanAt i 9) (wrTab i) (rdTab i) ((i + 1 : Nat) : Int) keys va vc ps text n l w hP hl)
  have E : Hid (fitsK i keys ps text n l = fitsB (spanAt i 0) (spanAt i 1) (spanAt i 2) (spanAt i 3) (spanAt i 4) (spanAt i 5) (spanAt i 6) (spanAt i 7) (spanAt i 8) (spanAt i 9) keys ps text n l) := rfl
  generalize fitsB (spanAt i 0) (spanAt i 1) (spanAt i 2) (spanAt i 3) (spanAt i 4) (spanAt i 5) (spanAt i 6) (spanAt i 7) (spanAt i 8) (spanAt i 9) keys ps text n l = r at *
  generalize ((i + 1 : Nat) : Int) = kd at *
  generalize B (nameTab i) = nm at *
  generalize spanAt i 0 = k1 at *
  generalize spanAt i 1 = k2 at *
  generalize spanAt i 2 = p1 at *
  generalize spanAt i 3 = p2 at *
  generalize spanAt i 4 = t1 at *
  generalize spanAt i 5 = t2 at *
  generalize spanAt i 6 = n1 at *
  generalize spanAt i 7 = n2 at *
  generalize spanAt i 8 = s1 at *
  generalize spanAt i 9 = s2 at *
  generalize wrTab i = wr at *
  generalize rdTab i = rd at *
  have HP := Lib.hid hP
  clear hP hT hl
  have h2 : Below w.heap.size w ((w.alloc (.cells #[.int .i64 kd, .string (B keys), .slice va ps.length vc, .string (B text), .int .i64 n, .int .i64 l] 31)).alloc (.cells #[.string nm, .int .i64 k1, .int .i64 k2, .int .i64 p1, .int .i64 p2, .int .i64 t1, .int .i64 t2, .int .i64 n1, .int .i64 n2, .int .i64 s1, .int .i64 s2, .func (.func wr) #[] #[], .func (.func rd) #[] #[]] 62)) := ((Below.refl _ _).alloc (Nat.le_refl _) _).alloc (by simp) _
  have H2 := Lib.hid h2
  clear h2
  go_enter Tryd.func24, Tryd.ntmps24
  go_wp2_with fail
  refine ((C _ ((HP.out.below H2.out).up H2.out.size)).out).mono ?_
  rintro e w' ⟨rfl, hb⟩
  go_wp2_with fail
  go_ret
  exact ⟨ret_bool E.out.symm, H2.out.trans (hb.mono H2.out.size)⟩

end Go.Proofs.YtmioocmjlbjfpaaDoor

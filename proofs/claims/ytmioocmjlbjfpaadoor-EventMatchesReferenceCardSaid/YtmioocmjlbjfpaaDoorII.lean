/-
  Events as whole values: printing, reading back, comparing.
-/
import Derived.Test.YtmioocmjlbjfpaaDoorFF
namespace Go.Proofs.YtmioocmjlbjfpaaDoor
open Go.RowKit
open Pl

theorem str_eq (y z : List UInt8) : ((B y).toList == (B z).toList) = decide (y = z) := by
  rw [ByteArray.toList_eq, ByteArray.toList_eq, toList_B, toList_B, Bool.eq_iff_iff]
  simp
theorem sameB_iff (a b : Ev) : sameB a b = true ↔ a = b := by
  obtain ⟨k1, y1, p1, t1, n1, l1⟩ := a
  obtain ⟨k2, y2, p2, t2, n2, l2⟩ := b
  unfold sameB ptsEq
  rw [str_eq, str_eq]
  simp
theorem wrNums_len5 : ∀ (xs : List Nat), (∀ n ∈ xs, n < 10000) → (wrNums xs).length ≤ 5 * xs.length
  | [], _ => by simp [wrNums]
  | a :: r, h => by
    rw [wrNums_cons]
    have h1 := dec_len 3 a (h a (by simp))
    have h2 := wrNums_len5 r (fun n hn => h n (by simp [hn]))
    simp at h1 h2 ⊢
    omega
/-- The rest of the line of an event that fits its form is short. -/
def WrShort (i : Nat) : Prop := ∀ (keys : List UInt8) (ps : List (Int × Int)) (text : List UInt8) (n l : Int), fitsK i keys ps text n l = true → (wrK i keys ps text n l).length ≤ 200
theorem ws_keys (i : Nat) (h2 : ∀ keys ps text n l, wrK i keys ps text n l = 32 :: keys) (h3 : spanAt i 1 ≤ 100) : WrShort i := by
  intro keys ps text n l hf
  have h := (fitsB_true hf).1.1.2
  rw [size_B] at h
  rw [h2]; simp; omega
theorem ws_text (i : Nat) (h2 : ∀ keys ps text n l, wrK i keys ps text n l = 32 :: text) (h3 : spanAt i 5 ≤ 100) : WrShort i := by
  intro keys ps text n l hf
  have h := (fitsB_true hf).1.2.2.1.2
  rw [size_B] at h
  rw [h2]; simp; omega
theorem ws_none (i : Nat) (h2 : ∀ keys ps text n l, wrK i keys ps text n l = []) : WrShort i := by
  intro keys ps text n l hf
  rw [h2]; simp
theorem ws_pts (i : Nat) (h2 : ∀ keys ps text n l, wrK i keys ps text n l = wrNums (flatP ps)) (h3 : spanAt i 3 ≤ 12) : WrShort i := by
  intro keys ps text n l hf
  have h := fitsB_true hf
  have h4 := h.1.2.1.2
  have hl := flatP_len ps
  have := wrNums_len5 _ (flatP_lt h.2.2.2.2)
  rw [h2]; omega
theorem ws_hold (i : Nat) (h2 : ∀ keys ps text n l, wrK i keys ps text n l = wrNums [n.toNat, l.toNat]) (h3 : 0 ≤ spanAt i 6 ∧ spanAt i 7 ≤ 100 ∧ 0 ≤ spanAt i 8 ∧ spanAt i 9 ≤ 100) : WrShort i := by
  intro keys ps text n l hf
  have h := (fitsB_true hf).1.2.2.2
  have := wrNums_len5 [n.toNat, l.toNat] (by intro m hm; simp at hm; omega)
  rw [h2]; simp at this ⊢; omega
theorem ws_choose (i : Nat) (h2 : ∀ keys ps text n l, wrK i keys ps text n l = wrNums [n.toNat]) (h3 : 0 ≤ spanAt i 6 ∧ spanAt i 7 ≤ 100) : WrShort i := by
  intro keys ps text n l hf
  have h := (fitsB_true hf).1.2.2.2
  have := wrNums_len5 [n.toNat] (by intro m hm; simp at hm; omega)
  rw [h2]; simp at this ⊢; omega
theorem wr_short : ∀ i, i < 12 → WrShort i :=
  under12 (ws_keys 0 (fun _ _ _ _ _ => rfl) (by decide)) (ws_keys 1 (fun _ _ _ _ _ => rfl) (by decide)) (ws_pts 2 (fun _ _ _ _ _ => rfl) (by decide)) (ws_pts 3 (fun _ _ _ _ _ => rfl) (by decide))
    (ws_text 4 (fun _ _ _ _ _ => rfl) (by decide)) (ws_none 5 (fun _ _ _ _ _ => rfl)) (ws_none 6 (fun _ _ _ _ _ => rfl)) (ws_none 7 (fun _ _ _ _ _ => rfl))
    (ws_hold 8 (fun _ _ _ _ _ => rfl) (by decide)) (ws_choose 9 (fun _ _ _ _ _ => rfl) (by decide)) (ws_none 10 (fun _ _ _ _ _ => rfl)) (ws_none 11 (fun _ _ _ _ _ => rfl))
theorem validB_kind {ev : Ev} (h : validB ev = true) : ∃ i, i < 12 ∧ ev.kind = ((i + 1 : Nat) : Int) ∧ (ev.kind - 1).toNat = i ∧ fitsK i ev.keys ev.p ev.text ev.n ev.l = true := by
  unfold validB at h
  split at h
  · rename_i hk
    exact ⟨(ev.kind - 1).toNat, by omega, by omega, rfl, h⟩
  · cases h
theorem spans_p : ∀ i, i < 12 → spanAt i 3 ≤ 12 := under12 (by decide) (by decide) (by decide) (by decide) (by decide) (by decide) (by decide) (by decide) (by decide) (by decide) (by decide) (by decide)
theorem valid_pts {ev : Ev} (h : validB ev = true) : ev.p.length ≤ 12 := by
  obtain ⟨i, hi, _, _, hf⟩ := validB_kind h
  have := (fitsB_true hf).1.2.1.2
  have := spans_p i hi
  omega
theorem printS_len {ev : Ev} (h : validB ev = true) : (printS ev).length ≤ 206 := by
  obtain ⟨i, hi, _, hk, hf⟩ := validB_kind h
  have h1 := name_len i hi
  have h2 := wr_short i hi _ _ _ _ _ hf
  rw [size_B] at h1
  unfold printS
  rw [hk, List.length_append]
  omega
/-- The value of an event, written out. -/
abbrev evV (ev : Ev) (a : Option Addr) (c : Nat) : Value := .agg #[.int .i64 ev.kind, .string (B ev.keys), .slice a ev.p.length c, .string (B ev.text), .int .i64 ev.n, .int .i64 ev.l]
theorem print_ev (ev : Ev) (h : validB ev = true) (a : Option Addr) (c : Nat) (w : World) (hP : PtsAt w w.heap.size (.slice a ev.p.length c) ev.p) (hT : PowTab w) :
    Calls Tryd.prog 10 #[evV ev a c] w fun e w' => e = .returned (.string (B (printS ev))) ∧ Below w.heap.size w w' := by
  obtain ⟨i, hi, hk, hk', hf⟩ := validB_kind h
  have h2 := wr_short i hi _ _ _ _ _ hf
  have h3 := valid_pts h
  have := Print_valid i hi ev.keys a c ev.p ev.text ev.n ev.l w hf hP (by unfold maxLen; omega) hT (by rw [size_B]; omega)
  rw [← hk] at this
  unfold printS
  rw [hk']
  exact this
theorem parse_printed (ev : Ev) (h : validB ev = true) (w : World) :
    Calls Tryd.prog 7 #[.string (B (printS ev))] w fun e w' => (∃ a c, e = .returned (.tuple #[evV ev a c, .int .i64 0]) ∧ PtsAt w' w'.heap.size (.slice a ev.p.length c) ev.p) ∧ Below w.heap.size w w' :=
  parse_good _ ev (read_back ev h) (by have := printS_len h; omega) w
theorem same_evs (x y : Ev) (a b : Option Addr) (c d : Nat) (w : World) (hx : PtsAt w w.heap.size (.slice a x.p.length c) x.p) (hy : PtsAt w w.heap.size (.slice b y.p.length d) y.p) (hm : x.p.length ≤ 1000) :
    Calls Tryd.prog 9 #[evV x a c, evV y b d] w fun e w' => e = .returned (.bool (sameB x y)) ∧ Below w.heap.size w w' := by
  exact same_any x.kind x.keys a c x.p x.text x.n x.l y.kind y.keys b d y.p y.text y.n y.l w hx hy (by unfold maxLen; omega)
theorem line_eq (x y : Ev) (hx : validB x = true) (hy : validB y = true) : ((B (printS x)).toList == (B (printS y)).toList) = sameB x y := by
  rw [str_eq, Bool.eq_iff_iff, sameB_iff]
  simp [line_inj x y hx hy]
end Go.Proofs.YtmioocmjlbjfpaaDoor

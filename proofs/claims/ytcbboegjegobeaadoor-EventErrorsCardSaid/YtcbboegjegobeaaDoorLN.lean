/-
  The law's own lines: the text of a script made of raw events, and the list of its events.
-/
import Derived.Test.YtcbboegjegobeaaDoorRQ
namespace Go.Proofs.YtcbboegjegobeaaDoor
open Go.RowKit
open Pl

/-- The text of a script with these events. -/
def linesS (evs : List Ev) : List UInt8 := evs.flatMap fun ev => printS ev ++ [10]
theorem linesS_snoc (evs : List Ev) (ev : Ev) : linesS (evs ++ [ev]) = linesS evs ++ (printS ev ++ [10]) := by unfold linesS; rw [List.flatMap_append]; simp
theorem linesS_len : ∀ (evs : List Ev), (∀ ev ∈ evs, validB ev = true) → (linesS evs).length ≤ 207 * evs.length
  | [], _ => by simp [linesS]
  | ev :: r, h => by
    have h1 := linesS_len r (fun x hx => h x (by simp [hx]))
    have h2 := printS_len (h ev (by simp))
    unfold linesS at h1 ⊢
    rw [List.flatMap_cons, List.length_append, List.length_append]
    simp only [List.length_cons, List.length_nil]
    omega
/-- The slice v is a list of n raw events, which can be read. -/
def RawsAt (W : World) (B0 : Nat) (v : Value) (n : Nat) : Prop :=
  ∃ a c, v = .slice a n c ∧ (0 < n → ∃ b off, a = some ⟨b, off, none⟩ ∧ b < B0 ∧ ∀ i, i < n → ∃ (k1 n1 m1 : Int) (la pa : Option Addr) (ln lc pn pc : Nat), W.cell? ⟨b, off + i * 5, none⟩ = some (.int .u8 k1) ∧ W.cell? ⟨b, off + i * 5 + 1, none⟩ = some (.slice la ln lc) ∧ W.cell? ⟨b, off + i * 5 + 2, none⟩ = some (.slice pa pn pc) ∧ W.cell? ⟨b, off + i * 5 + 3, none⟩ = some (.int .u8 n1) ∧ W.cell? ⟨b, off + i * 5 + 4, none⟩ = some (.int .u8 m1) ∧ RawAt W W.heap.size (.agg #[.int .u8 k1, .slice la ln lc, .slice pa pn pc, .int .u8 n1, .int .u8 m1]))
theorem RawsAt.on {W W' : World} {v : Value} {n : Nat} (h : RawsAt W W.heap.size v n) (hb : Below W.heap.size W W') : RawsAt W' W'.heap.size v n := by
  obtain ⟨a, c, rfl, h⟩ := h
  refine ⟨a, c, rfl, fun hp => ?_⟩
  obtain ⟨b, off, rfl, hlt, hc⟩ := h hp
  refine ⟨b, off, rfl, Nat.lt_of_lt_of_le hlt hb.size, fun i hi => ?_⟩
  obtain ⟨k1, n1, m1, la, pa, ln, lc, pn, pc, h0, h1, h2, h3, h4, hR⟩ := hc i hi
  have e := fun o => (bcell hb).1 b o hlt
  exact ⟨k1, n1, m1, la, pa, ln, lc, pn, pc, (e _).trans h0, (e _).trans h1, (e _).trans h2, (e _).trans h3, (e _).trans h4, hR.into hb⟩

set_option maxHeartbeats 2000000 in
set_option maxRecDepth 100000 in
theorem lines_any (a : Option Addr) (n c m : Nat) (w : World) (hx : RawsAt w w.heap.size (.slice a n c) n) (hn : n ≤ maxLen) (hm : m ≤ 8) :
    Calls Tryd.prog 18 #[.slice a n c, .int .i64 (m : Int)] w fun e w' => ∃ (its : List (Ev × Value)) (v : Value), e = .returned (.tuple #[.string (B (linesS (its.map (·.1)))), v]) ∧ EvsOwn w' w.heap.size v its ∧ v ≠ .slice none 0 0 ∧ its.length ≤ 8 ∧ (∀ it ∈ its, validB it.1 = true) ∧ Below w.heap.size w w' := by
  obtain ⟨i0, hi, hz0, hz1, hz2⟩ := info_parts infoEv
  have HX := Lib.hid hx
  unfold maxLen at hn
  clear hx
  go_enter Tryd.func18, Tryd.ntmps18
  go_wp2_with fail
  have M0 := Lib.hid (show EvsOwn (w.alloc (.cells #[] 31)) w.heap.size (.slice (some ⟨w.heap.size, 0, none⟩) 0 0) [] from ⟨World.ownsRow_lit w #[] 0 (Nat.le_refl _) (by decide) rfl, fun _ h => by cases h⟩)
  have H0 := Lib.hid (show Below w.heap.size w (w.alloc (.cells #[] 31)) from (Below.refl _ _).alloc (Nat.le_refl _) _)
  go_loopw [6, 7, 8] (fun s v i wr => ∃ (its : List (Ev × Value)), s = .string (B (linesS (its.map (·.1)))) ∧ i = .int .i64 (its.length : Nat) ∧ its.length ≤ n ∧ its.length ≤ m ∧ EvsOwn wr w.heap.size v its ∧ v ≠ .slice none 0 0 ∧ (∀ it ∈ its, validB it.1 = true) ∧ Below w.heap.size w wr) (fun _ _ i _ => n - (intOf i).toNat)
  case atStart => exact ⟨[], rfl, rfl, Nat.zero_le _, Nat.zero_le _, M0.out, (by simp), (fun _ h => by cases h), H0.out⟩
  case round =>
    obtain ⟨its, rfl, rfl, hin, him, hE, hne, hV, hb⟩ := hrel
    obtain ⟨va, vc, rfl⟩ := own_shape hE.1
    have HN := Lib.hid hne
    have HE := Lib.hid hE
    have HV := Lib.hid hV
    have HB := Lib.hid hb
    have hlen : (linesS (its.map (·.1))).length ≤ 1656 := by
      have := linesS_len (its.map (·.1)) (fun ev he => by obtain ⟨it, h1, rfl⟩ := List.mem_map.1 he; exact hV it h1)
      rw [List.length_map] at this; omega
    clear hE hne hV hb M0 H0
    by_cases h1 : (its.length : Int) < (n : Int)
    · by_cases h2 : (its.length : Int) < (m : Int)
      · obtain ⟨a', c', hv, hR⟩ := HX.out.on HB.out
        obtain ⟨rfl, -⟩ : a = a' ∧ c = c' := by simpa using hv
        obtain ⟨b, off, rfl, hbl, hc⟩ := hR (by omega)
        obtain ⟨k1, n1, m1, la, pa, ln, lc, pn, pc, r0, r1, r2, r3, r4, hRaw⟩ := hc its.length (by omega)
        have HR := Lib.hid hRaw
        have hj0 : (0 : Int) ≤ (its.length : Int) := by omega
        clear hv hR hc hRaw
        go_wp2_with fail
        refine (made_raw _ _ HR.out).mono ?_
        rintro e x1 ⟨⟨ev, a1, c1, rfl, hv1, hO⟩, hb1⟩
        have HVe := Lib.hid hv1
        have hwx : w.heap.size ≤ wr.heap.size := HB.out.size
        have hal := below_alloc x1 (.cells #[.int .i64 ev.kind, .string (B ev.keys), .slice a1 ev.p.length c1, .string (B ev.text), .int .i64 ev.n, .int .i64 ev.l] 31)
        have E1 := EvBlock.new x1 (.int .i64 ev.kind) (.string (B ev.keys)) (.slice a1 ev.p.length c1) (.string (B ev.text)) (.int .i64 ev.n) (.int .i64 ev.l)
        have HE1 := Lib.hid ((HE.out.later hb1).later hal)
        have HB1 := Lib.hid ((HB.out.trans (hb1.mono hwx)).trans (hal.mono (Nat.le_trans hwx hb1.size)))
        have HO1 := Lib.hid (((hO.base hwx).later hal))
        clear hv1 hb1 hal hO r0 r1 r2 r3 r4 HE HB
        obtain ⟨g0, g1, g2, g3, g4, g5⟩ := E1.cells
        have HEb := Lib.hid E1
        clear E1
        unfold evVal
        go_wp2_with fail
        generalize hx2 : x1.alloc (.cells #[.int .i64 ev.kind, .string (B ev.keys), .slice a1 ev.p.length c1, .string (B ev.text), .int .i64 ev.n, .int .i64 ev.l] 31) = x2 at *
        refine (rprint_ev ev HVe.out a1 c1 _ HO1.out.pts).mono ?_
        rintro e x3 ⟨rfl, hb3⟩
        have HE3 := Lib.hid (HE1.out.later hb3)
        have HB3 := Lib.hid (HB1.out.trans (hb3.mono HB1.out.size))
        have HO3 := Lib.hid (HO1.out.later hb3)
        have E3 := HEb.out.below hb3
        have hps := printS_len HVe.out
        clear hb3 HE1 HB1 HO1 HEb g0 g1 g2 g3 g4 g5
        obtain ⟨g0, g1, g2, g3, g4, g5⟩ := E3.cells
        clear E3
        have HS1 := Lib.hid (show (B (printS ev)).size + (⟨#[10]⟩ : ByteArray).size ≤ 9223372036854775807 by
          rw [size_B]; have : (⟨#[10]⟩ : ByteArray).size = 1 := rfl
          omega)
        have HS2 := Lib.hid (show (B (linesS (its.map (·.1)))).size + (B (printS ev) ++ (⟨#[10]⟩ : ByteArray)).size ≤ 9223372036854775807 by
          have e : B (printS ev) ++ (⟨#[10]⟩ : ByteArray) = B (printS ev ++ [10]) := B_app _ [10]
          rw [e, size_B, size_B, List.length_append]; simp; omega)
        have hal := below_alloc x3 (.cells #[.int .i64 ev.kind, .string (B ev.keys), .slice a1 ev.p.length c1, .string (B ev.text), .int .i64 ev.n, .int .i64 ev.l] 31)
        have HE4 := Lib.hid (HE3.out.later hal)
        have HO4 := Lib.hid (HO3.out.later hal)
        have HB4 := Lib.hid (HB3.out.trans (hal.mono HB3.out.size))
        have hown := HE4.out.1
        have hmx : its.length + 1 ≤ maxLen := by unfold maxLen; omega
        have hby : (its.length + 1) * 80 ≤ 140737488355328 := by omega
        have hba : w.heap.size ≤ (x3.alloc (.cells #[.int .i64 ev.kind, .string (B ev.keys), .slice a1 ev.p.length c1, .string (B ev.text), .int .i64 ev.n, .int .i64 ev.l] 31)).heap.size := HB4.out.size
        have hnews := Lib.hid (World.news_of_block (w := x3.alloc (.cells #[.int .i64 ev.kind, .string (B ev.keys), .slice a1 ev.p.length c1, .string (B ev.text), .int .i64 ev.n, .int .i64 ev.l] 31)) (B := x3.heap.size) (cs := (itCells (ev, .slice a1 ev.p.length c1)).toArray) (t := 31) (fr := (0, 0)) (heap_alloc_new x3 (.cells #[.int .i64 ev.kind, .string (B ev.keys), .slice a1 ev.p.length c1, .string (B ev.text), .int .i64 ev.n, .int .i64 ev.l] 31)))
        have hob := Lib.hid (own_block hown)
        clear hal
        go_wp2_with (first
          | (refine cat_step rfl _ _ _ rfl (B (printS ev)) ⟨#[10]⟩ rfl rfl HS1.out ?_)
          | (refine cat_step rfl _ _ _ rfl (B (linesS (its.map (·.1)))) (B (printS ev) ++ ⟨#[10]⟩) rfl rfl HS2.out ?_)
          | (at_builtin; refine wpList_append_own _ rfl _ _ 48 rfl w.heap.size 31 i0 (.agg #[.int .i64 0, .string ⟨#[]⟩, .slice none 0 0, .string ⟨#[]⟩, .int .i64 0, .int .i64 0]) 6 80 Tryd.underlying48 hi hz0 hz1 hz2 rfl (by decide) _ _ _ rfl hown ⟨x3.heap.size, 0, none⟩ 1 1 (itCells (ev, .slice a1 ev.p.length c1)) rfl rfl hnews.out (by simp [itCells, Value.oneCell']) hmx hby hba ?_; intro v' w6 hown6 hgrow6 hnn)
          | fail)
        have hE6 := Lib.hid (HE4.out.step (Below.refl _ _) HO4.out hown6 rfl hown hgrow6)
        have hb6 := Lib.hid (HB4.out.grown hgrow6 HB4.out.size (fun k hk => hob.out k hk))
        go_roundw
        case rel => exact ⟨its ++ [(ev, .slice a1 ev.p.length c1)], by rw [List.map_append, List.map_singleton, linesS_snoc, ← B_app, ← B_app]; rfl, by rw [List.length_append]; go_num, by rw [List.length_append]; simp; omega, by rw [List.length_append]; simp; omega, hE6.out, (fun e => by have := (hnn.1 e).2; omega), (fun it hit => by rcases List.mem_append.1 hit with h | h; exact HV.out it h; obtain rfl := List.mem_singleton.1 h; exact HVe.out), hb6.out⟩
        case measure => simp [intOf]; omega
      · go_wp2_with fail
        go_ret2
        exact ⟨its, _, rfl, HE.out, HN.out, by omega, (fun a b h => HV.out (a, b) h), HB.out⟩
    · go_wp2_with fail
      go_ret2
      exact ⟨its, _, rfl, HE.out, HN.out, by omega, (fun a b h => HV.out (a, b) h), HB.out⟩
theorem own_ptr {W : World} {b : Nat} {v : Value} {its : List (Ev × Value)} (h : EvsOwn W b v its) (hne : v ≠ .slice none 0 0) : ∃ g c, v = .slice (some ⟨g, 0, none⟩) its.length c := by
  rcases h.1.2 with ⟨h0, _⟩ | ⟨g, cap, cur, hv, _⟩
  · exact absurd h0 hne
  · exact ⟨g, cap, hv⟩
theorem lines_evs (a : Option Addr) (n c m : Nat) (w : World) (hx : RawsAt w w.heap.size (.slice a n c) n) (hn : n ≤ maxLen) (hm : m ≤ 8) :
    Calls Tryd.prog 18 #[.slice a n c, .int .i64 (m : Int)] w fun e w' => ∃ (evs : List Ev) (g c : Nat), e = .returned (.tuple #[.string (B (linesS evs)), .slice (some ⟨g, 0, none⟩) evs.length c]) ∧ (∃ its : List (Ev × Value), its.map (·.1) = evs ∧ EvsOwn w' w.heap.size (.slice (some ⟨g, 0, none⟩) evs.length c) its) ∧ evs.length ≤ 8 ∧ (∀ ev ∈ evs, validB ev = true) ∧ Below w.heap.size w w' := by
  refine (lines_any a n c m w hx hn hm).mono ?_
  rintro e w' ⟨its, v, rfl, hE, hne, hl, hV, hb⟩
  obtain ⟨g, vc, rfl⟩ := own_ptr hE hne
  have hlen : (its.map (·.1)).length = its.length := List.length_map _
  refine ⟨its.map (·.1), g, vc, by rw [hlen], ⟨its, rfl, by rw [hlen]; exact hE⟩, by rw [hlen]; exact hl, fun ev he => ?_, hb⟩
  obtain ⟨it, h1, rfl⟩ := List.mem_map.1 he
  exact hV it h1

/-- No line of an event has a newline in it. -/
def noNl (l : List UInt8) : Bool := l.all (· != 10)
theorem noNl_app {a b : List UInt8} (ha : noNl a = true) (hb : noNl b = true) : noNl (a ++ b) = true := by
  unfold noNl at ha hb ⊢; rw [List.all_append, ha, hb]; rfl
theorem noNl_low {l : List UInt8} (h : lettersB l = true) : noNl l = true := by
  unfold noNl; rw [List.all_eq_true]
  intro c hc
  have := List.all_eq_true.1 h c hc
  simp [isLow] at this
  rw [bne_iff_ne]; intro e; subst e; exact absurd this.1 (by decide)
theorem dig_ne (r : Nat) (h : r < 10) : (UInt8.ofNat (48 + r) != 10) = true := by
  rcases (show r = 0 ∨ r = 1 ∨ r = 2 ∨ r = 3 ∨ r = 4 ∨ r = 5 ∨ r = 6 ∨ r = 7 ∨ r = 8 ∨ r = 9 by omega) with rfl | rfl | rfl | rfl | rfl | rfl | rfl | rfl | rfl | rfl <;> rfl
theorem noNl_dec : ∀ (f n : Nat), n < 10 ^ (f + 1) → noNl (Lib.decDigits n) = true
  | 0, n, h => by
    have h10 : n < 10 := by simpa using h
    rw [dec1 n h10]
    unfold noNl; rw [List.all_cons, dig_ne n h10]; rfl
  | f + 1, n, h => by
    by_cases h10 : n < 10
    · rw [dec1 n h10]
      unfold noNl; rw [List.all_cons, dig_ne n h10]; rfl
    · rw [dec_big (by omega)]
      refine noNl_app (noNl_dec f _ (by rw [Nat.pow_succ] at h; omega)) ?_
      unfold noNl; rw [List.all_cons, dig_ne _ (by omega)]; rfl
theorem noNl_nums : ∀ (xs : List Nat), (∀ n ∈ xs, n < 10000) → noNl (wrNums xs) = true
  | [], _ => rfl
  | a :: r, h => by
    rw [wrNums_cons]
    have h1 := noNl_app (noNl_dec 3 a (by have := h a (by simp); omega)) (noNl_nums r (fun n hn => h n (by simp [hn])))
    unfold noNl at h1 ⊢
    rw [List.all_cons, h1]; rfl
theorem noNl_part {l : List UInt8} (h : noNl l = true) : noNl (keyPart l) = true := by
  unfold keyPart; split
  · rfl
  · unfold noNl at h ⊢; rw [List.all_cons, h]; rfl
theorem noNl_name : ∀ i, i < 12 → noNl (nameTab i) = true := under12 rfl rfl rfl rfl rfl rfl rfl rfl rfl rfl rfl rfl
theorem noNl_n {k : Nat} {n : Int} (h0 : 0 ≤ n) (h1 : n ≤ 1000) : noNl (nPart k n) = true := by
  unfold nPart; split
  · have h := noNl_dec 3 n.toNat (by omega)
    unfold noNl at h ⊢; rw [List.all_cons, h]; rfl
  · rfl
theorem noNl_l {k : Nat} {n : Int} (h0 : 0 ≤ n) (h1 : n ≤ 1000) : noNl (lPart k n) = true := by
  unfold lPart; split
  · have h := noNl_dec 3 n.toNat (by omega)
    unfold noNl at h ⊢; rw [List.all_cons, h]; rfl
  · rfl
theorem noNl_ev {ev : Ev} (h : validB ev = true) : noNl (printS ev) = true := by
  obtain ⟨i, hi, hk, hi', hf⟩ := validB_kind h
  have hb := (fitsB_true hf).1
  have hs := spans_num i hi
  have hr := rq_all i hi ev.keys ev.p ev.text ev.n ev.l hf
  show noNl (nameTab (ev.kind - 1).toNat ++ wrK (ev.kind - 1).toNat ev.keys ev.p ev.text ev.n ev.l) = true
  rw [hi', ← hr, rpr_open]
  exact noNl_app (noNl_name i hi) (noNl_app (noNl_part (noNl_low (fitsB_true hf).2.1)) (noNl_app (noNl_nums _ (flatP_lt (fitsB_true hf).2.2.2.2)) (noNl_app (noNl_part (noNl_low (fitsB_true hf).2.2.2.1)) (noNl_app (noNl_n (by omega) (by omega)) (noNl_l (by omega) (by omega))))))
theorem index_nl : ∀ (a r : List UInt8), noNl a = true → Lib.index (a ++ 10 :: r) [10] = (a.length : Int)
  | [], r, _ => by unfold Lib.index; simp [List.isPrefixOf]
  | c :: l, r, h => by
    unfold noNl at h
    rw [List.all_cons, Bool.and_eq_true] at h
    have ih := index_nl l r h.2
    have hc : c ≠ 10 := by simpa using h.1
    rw [List.cons_append]
    unfold Lib.index
    have hp : List.isPrefixOf [10] (c :: (l ++ 10 :: r)) = false := by
      simp [List.isPrefixOf]; exact fun e => hc e.symm
    rw [hp, ih]
    have hne : (((l.length : Int)) == -1) = false := by rw [beq_eq_false_iff_ne]; omega
    simp [hne]
theorem cut_nl (a r : List UInt8) (h : noNl a = true) : Lib.cut (a ++ 10 :: r) [10] = (a, r, true) := by
  unfold Lib.cut
  rw [index_nl a r h, if_pos (by omega)]
  have e : ((a.length : Int)).toNat = a.length := by simp
  rw [e]
  simp [List.drop_append]
theorem linesS_cons (ev : Ev) (evs : List Ev) : linesS (ev :: evs) = printS ev ++ 10 :: linesS evs := by unfold linesS; rw [List.flatMap_cons]; simp
theorem scr_lines : ∀ (evs : List Ev) (f : Nat), (∀ ev ∈ evs, validB ev = true) → evs.length < f → scr f (linesS evs) = (evs, true)
  | [], f + 1, _, _ => scr_nil f
  | [], 0, _, h => absurd h (Nat.lt_irrefl _)
  | ev :: r, 0, _, h => absurd h (Nat.not_lt_zero _)
  | ev :: r, f + 1, hv, h => by
    have he := hv ev (by simp)
    have ih := scr_lines r f (fun x hx => hv x (by simp [hx])) (by simpa using h)
    have hc := cut_nl (printS ev) (linesS r) (noNl_ev he)
    rw [linesS_cons, scr_good (ev := ev) (by simp) (by rw [hc]; exact read_back ev he) (by rw [hc]), hc]
    rw [ih]
theorem linesS_ge : ∀ (evs : List Ev), evs.length ≤ (linesS evs).length
  | [] => Nat.zero_le _
  | ev :: r => by
    have := linesS_ge r
    rw [linesS_cons]; simp; omega
theorem linesS_app (a b : List Ev) : linesS (a ++ b) = linesS a ++ linesS b := by unfold linesS; rw [List.flatMap_append]
/-- A script of valid events is read as these events. -/
theorem script_lines (evs : List Ev) (hv : ∀ ev ∈ evs, validB ev = true) (hl : evs.length ≤ 100) (m : Int) (w : World) (hm : MaxVar w m) (hw0 : 0 < w.heap.size) :
    Calls Tryd.prog 19 #[.string (B (linesS evs))] w fun e w' => ∃ (a : Option Addr) (c : Nat), e = .returned (.tuple #[.slice a evs.length c, .int .i64 (evs.length : Nat), .int .i64 0]) ∧ EvsAt w' (.slice a evs.length c) evs ∧ Below w.heap.size w w' := by
  have hs := linesS_len evs hv
  have hsc := scr_lines evs ((linesS evs).length + 1) hv (by have := linesS_ge evs; omega)
  refine (script_is (linesS evs) evs true hsc (by omega) m w hm hw0).mono ?_
  rintro e w' ⟨⟨a, n, c, rfl, hE, hn⟩, hb⟩
  simp only [if_true] at hE hn
  subst hn
  exact ⟨a, c, rfl, hE, hb⟩
end Go.Proofs.YtcbboegjegobeaaDoor

/-
  What the reference reads of a line, as plain functions; it is what the package reads.
-/
import Derived.Test.YtmioocmjlbjfpaaDoorSP
import Derived.Test.YtmioocmjlbjfpaaDoorPP
namespace Go.Proofs.YtmioocmjlbjfpaaDoor
open Go.RowKit
open Pl

/-- The reference's number. -/
def capNum (l : List UInt8) : Nat := l.foldl (fun n c => min (10 * n + (c.toNat - 48)) 10000) 0
def numS (l : List UInt8) : Int := if l = [] then -1 else if l.all isDig then (capNum l : Int) else -1
theorem capNum_snoc (l : List UInt8) (c : UInt8) : capNum (l ++ [c]) = min (10 * capNum l + (c.toNat - 48)) 10000 := by unfold capNum; rw [List.foldl_append]; rfl
theorem capNum_is : ∀ l : List UInt8, capNum l = min (numOf l) 10000 :=
  snocInd rfl (fun l c ih => by rw [capNum_snoc, numOf_snoc, ih]; omega)
theorem capNum_le (l : List UInt8) : capNum l ≤ 10000 := by rw [capNum_is]; omega
theorem numS_dec {n : Nat} (h : n ≤ 10000) : numS (Lib.decDigits n) = (n : Int) := by
  unfold numS
  rw [if_neg (dec_ne n), if_pos (dec_all n n (Nat.le_refl _)), capNum_is, dec_num n n (Nat.le_refl _)]
  omega
def ptsOf : List (List UInt8) → List (Int × Int)
  | a :: b :: r => (numS a, numS b) :: ptsOf r
  | _ => []
def oneOf : List (List UInt8) → List UInt8
  | [a] => a
  | _ => []
def num1 : List (List UInt8) → Int
  | [a] => numS a
  | _ => 0
def num2 : List (List UInt8) → Int × Int
  | [a, b] => (numS a, numS b)
  | _ => (0, 0)
/-- The reference's fill. -/
def fillS (k : Nat) (fs : List (List UInt8)) : Ev :=
  ⟨(k : Int), if k = 1 ∨ k = 2 then oneOf fs else [], if k = 3 ∨ k = 4 then ptsOf fs else [], if k = 5 then oneOf fs else [], if k = 9 then (num2 fs).1 else if k = 10 then num1 fs else 0, if k = 9 then (num2 fs).2 else 0⟩

def noSp (l : List UInt8) : Bool := l.all (· != 32)
theorem split_none : ∀ (a cur : List UInt8), noSp a = true → splitS 32 cur a = [cur ++ a]
  | [], cur, _ => by simp [splitS]
  | c :: r, cur, h => by
    unfold noSp at h
    rw [List.all_cons, Bool.and_eq_true] at h
    rw [split_step_ne (by simpa using h.1), split_none r _ h.2]; simp
theorem split_at : ∀ (a cur r : List UInt8), noSp a = true → splitS 32 cur (a ++ 32 :: r) = (cur ++ a) :: splitS 32 [] r
  | [], cur, r, _ => by rw [List.nil_append, split_step_eq]; simp
  | c :: l, cur, r, h => by
    unfold noSp at h
    rw [List.all_cons, Bool.and_eq_true] at h
    rw [List.cons_append, split_step_ne (by simpa using h.1), split_at l _ r h.2]; simp
theorem noSp_low {l : List UInt8} (h : lettersB l = true) : noSp l = true := by
  unfold noSp; rw [List.all_eq_true]
  intro c hc
  have := List.all_eq_true.1 h c hc
  simp [isLow] at this
  rw [bne_iff_ne]; intro e; subst e; exact absurd this.1 (by decide)
theorem noSp_dec (n : Nat) : noSp (Lib.decDigits n) = true := by
  unfold noSp; rw [List.all_eq_true]
  intro c hc
  have := List.all_eq_true.1 (dec_all n n (Nat.le_refl _)) c hc
  simp [isDig] at this
  rw [bne_iff_ne]; intro e; subst e; exact absurd this.1 (by decide)
theorem noSp_name : ∀ i, i < 12 → noSp (nameTab i) = true := under12 rfl rfl rfl rfl rfl rfl rfl rfl rfl rfl rfl rfl
theorem split_nums : ∀ (xs : List Nat) (cur : List UInt8), noSp cur = true → splitS 32 [] (cur ++ wrNums xs) = cur :: xs.map Lib.decDigits
  | [], cur, h => by
    have e : wrNums [] = [] := rfl
    rw [e, List.append_nil, split_none _ _ h]; rfl
  | a :: r, cur, h => by
    rw [wrNums_cons, split_at _ _ _ h, split_nums r _ (noSp_dec a)]; rfl
theorem ptsOf_flat : ∀ (ps : List (Int × Int)), insideB ps = true → ptsOf ((flatP ps).map Lib.decDigits) = ps
  | [], _ => rfl
  | p :: r, h => by
    have hp := inside_mem h p (by simp)
    have hr : insideB r = true := by unfold insideB at h ⊢; rw [List.all_cons, Bool.and_eq_true] at h; exact h.2
    have e : flatP (p :: r) = p.1.toNat :: p.2.toNat :: flatP r := rfl
    rw [e, List.map_cons, List.map_cons]
    show (numS _, numS _) :: ptsOf _ = _
    rw [ptsOf_flat r hr, numS_dec (by omega), numS_dec (by omega)]
    have e1 : ((p.1.toNat : Nat) : Int) = p.1 := by omega
    have e2 : ((p.2.toNat : Nat) : Int) = p.2 := by omega
    rw [e1, e2]

/-- Of the line of a valid event the reference's fields are the event's. -/
def FlP (i : Nat) : Prop := ∀ (keys : List UInt8) (ps : List (Int × Int)) (text : List UInt8) (n l : Int), fitsK i keys ps text n l = true → ∃ fs, splitS 32 [] (nameTab i ++ wrK i keys ps text n l) = nameTab i :: fs ∧ fillS (i + 1) fs = ⟨((i + 1 : Nat) : Int), keys, ps, text, n, l⟩
theorem fl_keys (i : Nat) (hi : i = 0 ∨ i = 1) (h2 : ∀ keys ps text n l, wrK i keys ps text n l = 32 :: keys) (h3 : spanAt i 3 = 0 ∧ spanAt i 5 = 0 ∧ spanAt i 6 = 0 ∧ spanAt i 7 = 0 ∧ spanAt i 8 = 0 ∧ spanAt i 9 = 0) : FlP i := by
  intro keys ps text n l hf
  have h := (fitsB_true hf).1
  obtain rfl := nil_of_len (ps := ps) (by omega)
  obtain rfl := nil_of_size (l := text) (by omega)
  obtain rfl : n = 0 := by omega
  obtain rfl : l = 0 := by omega
  refine ⟨[keys], ?_, ?_⟩
  · rw [h2, split_at _ _ _ (noSp_name i (by omega)), split_none _ _ (noSp_low (fitsB_true hf).2.1)]; rfl
  · rcases hi with rfl | rfl <;> rfl
theorem fl_text : FlP 4 := by
  intro keys ps text n l hf
  have h := (fitsB_true hf).1
  have h3 : spanAt 4 1 = 0 ∧ spanAt 4 3 = 0 ∧ spanAt 4 6 = 0 ∧ spanAt 4 7 = 0 ∧ spanAt 4 8 = 0 ∧ spanAt 4 9 = 0 := ⟨rfl, rfl, rfl, rfl, rfl, rfl⟩
  obtain rfl := nil_of_len (ps := ps) (by omega)
  obtain rfl := nil_of_size (l := keys) (by omega)
  obtain rfl : n = 0 := by omega
  obtain rfl : l = 0 := by omega
  refine ⟨[text], ?_, rfl⟩
  have e : wrK 4 [] [] text 0 0 = 32 :: text := rfl
  rw [e, split_at _ _ _ (noSp_name 4 (by omega)), split_none _ _ (noSp_low (fitsB_true hf).2.2.2.1)]; rfl
theorem fl_none (i : Nat) (hi : i = 5 ∨ i = 6 ∨ i = 7 ∨ i = 10 ∨ i = 11) (h2 : ∀ keys ps text n l, wrK i keys ps text n l = []) (h3 : spanAt i 1 = 0 ∧ spanAt i 3 = 0 ∧ spanAt i 5 = 0 ∧ spanAt i 6 = 0 ∧ spanAt i 7 = 0 ∧ spanAt i 8 = 0 ∧ spanAt i 9 = 0) : FlP i := by
  intro keys ps text n l hf
  have h := (fitsB_true hf).1
  obtain rfl := nil_of_len (ps := ps) (by omega)
  obtain rfl := nil_of_size (l := keys) (by omega)
  obtain rfl := nil_of_size (l := text) (by omega)
  obtain rfl : n = 0 := by omega
  obtain rfl : l = 0 := by omega
  refine ⟨[], ?_, ?_⟩
  · rw [h2, List.append_nil, split_none _ _ (noSp_name i (by omega))]; rfl
  · rcases hi with rfl | rfl | rfl | rfl | rfl <;> rfl
theorem fl_pts (i : Nat) (hi : i = 2 ∨ i = 3) (h2 : ∀ keys ps text n l, wrK i keys ps text n l = wrNums (flatP ps)) (h3 : spanAt i 1 = 0 ∧ spanAt i 5 = 0 ∧ spanAt i 6 = 0 ∧ spanAt i 7 = 0 ∧ spanAt i 8 = 0 ∧ spanAt i 9 = 0) : FlP i := by
  intro keys ps text n l hf
  have h := (fitsB_true hf).1
  obtain rfl := nil_of_size (l := keys) (by omega)
  obtain rfl := nil_of_size (l := text) (by omega)
  obtain rfl : n = 0 := by omega
  obtain rfl : l = 0 := by omega
  refine ⟨(flatP ps).map Lib.decDigits, ?_, ?_⟩
  · rw [h2, split_nums _ _ (noSp_name i (by omega))]
  · have e := ptsOf_flat ps (fitsB_true hf).2.2.2.2
    rcases hi with rfl | rfl
    · show (⟨_, _, ptsOf _, _, _, _⟩ : Ev) = _
      rw [e]; rfl
    · show (⟨_, _, ptsOf _, _, _, _⟩ : Ev) = _
      rw [e]; rfl
theorem fl_hold : FlP 8 := by
  intro keys ps text n l hf
  have h := (fitsB_true hf).1
  have h3 : spanAt 8 1 = 0 ∧ spanAt 8 3 = 0 ∧ spanAt 8 5 = 0 ∧ 0 ≤ spanAt 8 6 ∧ spanAt 8 7 ≤ 100 ∧ 0 ≤ spanAt 8 8 ∧ spanAt 8 9 ≤ 100 := by decide
  obtain rfl := nil_of_len (ps := ps) (by omega)
  obtain rfl := nil_of_size (l := keys) (by omega)
  obtain rfl := nil_of_size (l := text) (by omega)
  obtain ⟨a, rfl⟩ := Int.eq_ofNat_of_zero_le (show 0 ≤ n by omega)
  obtain ⟨b, rfl⟩ := Int.eq_ofNat_of_zero_le (show 0 ≤ l by omega)
  refine ⟨[Lib.decDigits a, Lib.decDigits b], ?_, ?_⟩
  · have e : wrK 8 [] [] [] (a : Int) (b : Int) = wrNums [a, b] := rfl
    rw [e, split_nums _ _ (noSp_name 8 (by omega))]; rfl
  · show (⟨_, _, _, _, numS _, numS _⟩ : Ev) = _
    rw [numS_dec (by omega), numS_dec (by omega)]; rfl
theorem fl_choose : FlP 9 := by
  intro keys ps text n l hf
  have h := (fitsB_true hf).1
  have h3 : spanAt 9 1 = 0 ∧ spanAt 9 3 = 0 ∧ spanAt 9 5 = 0 ∧ 0 ≤ spanAt 9 6 ∧ spanAt 9 7 ≤ 100 ∧ spanAt 9 8 = 0 ∧ spanAt 9 9 = 0 := by decide
  obtain rfl := nil_of_len (ps := ps) (by omega)
  obtain rfl := nil_of_size (l := keys) (by omega)
  obtain rfl := nil_of_size (l := text) (by omega)
  obtain ⟨a, rfl⟩ := Int.eq_ofNat_of_zero_le (show 0 ≤ n by omega)
  obtain rfl : l = 0 := by omega
  refine ⟨[Lib.decDigits a], ?_, ?_⟩
  · have e : wrK 9 [] [] [] (a : Int) 0 = wrNums [a] := rfl
    rw [e, split_nums _ _ (noSp_name 9 (by omega))]; rfl
  · show (⟨_, _, _, _, numS _, _⟩ : Ev) = _
    rw [numS_dec (by omega)]; rfl
theorem fl_all : ∀ i, i < 12 → FlP i :=
  under12 (fl_keys 0 (Or.inl rfl) (fun _ _ _ _ _ => rfl) (by decide)) (fl_keys 1 (Or.inr rfl) (fun _ _ _ _ _ => rfl) (by decide)) (fl_pts 2 (Or.inl rfl) (fun _ _ _ _ _ => rfl) (by decide)) (fl_pts 3 (Or.inr rfl) (fun _ _ _ _ _ => rfl) (by decide))
    fl_text (fl_none 5 (by omega) (fun _ _ _ _ _ => rfl) (by decide)) (fl_none 6 (by omega) (fun _ _ _ _ _ => rfl) (by decide)) (fl_none 7 (by omega) (fun _ _ _ _ _ => rfl) (by decide))
    fl_hold fl_choose (fl_none 10 (by omega) (fun _ _ _ _ _ => rfl) (by decide)) (fl_none 11 (by omega) (fun _ _ _ _ _ => rfl) (by decide))

/-- The reference reads the line as an event of kind k. -/
def Hit (s : List UInt8) (k : Nat) : Prop := (splitS 32 [] s).head? = some (wordOf k) ∧ validB (fillS k (splitS 32 [] s).tail) = true ∧ printS (fillS k (splitS 32 [] s).tail) = s
theorem hit_read {s : List UInt8} {k : Nat} (h : Hit s k) : parseS s = some (fillS k (splitS 32 [] s).tail) := by
  have := read_back _ h.2.1
  rwa [h.2.2] at this
theorem read_hit {s : List UInt8} {ev : Ev} (h : parseS s = some ev) : ∃ k, 1 ≤ k ∧ k < 13 ∧ Hit s k := by
  obtain ⟨hv, hp⟩ := parse_back h
  obtain ⟨i, hi, hk, hi', hf⟩ := validB_kind hv
  obtain ⟨fs, h1, h2⟩ := fl_all i hi ev.keys ev.p ev.text ev.n ev.l hf
  have hs : nameTab i ++ wrK i ev.keys ev.p ev.text ev.n ev.l = s := by rw [← hp, printS, hi']
  rw [hs] at h1
  have he : fillS (i + 1) fs = ev := by rw [h2, ← hk]
  refine ⟨i + 1, by omega, by omega, ?_, ?_, ?_⟩
  · rw [h1]; rfl
  · rw [h1]; show validB (fillS (i + 1) fs) = true; rw [he]; exact hv
  · rw [h1]; show printS (fillS (i + 1) fs) = s; rw [he]; exact hp
theorem no_hit {s : List UInt8} (h : ∀ k, 1 ≤ k → k < 13 → ¬ Hit s k) : parseS s = none := by
  cases hp : parseS s with
  | none => rfl
  | some ev =>
    obtain ⟨k, h1, h2, h3⟩ := read_hit hp
    exact absurd h3 (h k h1 h2)
end Go.Proofs.YtmioocmjlbjfpaaDoor

/-
  A valid event is read back from its line.
-/
import Derived.Test.YtmioocmjlbjfpaaDoorBB
namespace Go.Proofs.YtmioocmjlbjfpaaDoor
open Go.RowKit
open Pl

theorem dw_app {p : UInt8 → Bool} : ∀ {l r : List UInt8}, l.all p = true → (∀ c t, r = c :: t → p c = false) → (l ++ r).dropWhile p = r
  | [], [], _, _ => rfl
  | [], c :: t, _, h => by simp [h c t rfl]
  | a :: l, r, ha, h => by
    have ha' : p a = true ∧ l.all p = true := by simpa using ha
    rw [List.cons_append, List.dropWhile_cons_of_pos ha'.1, dw_app ha'.2 h]
theorem splitB_app {s r : List UInt8} (hs : s.all (· != 32) = true) (hr : r = [] ∨ ∃ t, r = 32 :: t) : splitB (s ++ r) = (s, r) := by
  have h : ∀ c t, r = c :: t → (c != (32 : UInt8)) = false := by
    intro c t e
    rcases hr with rfl | ⟨u, rfl⟩
    · cases e
    · cases e; rfl
  unfold splitB
  rw [tw_app hs h, dw_app hs h]
theorem name_nosp : ∀ i, i < 12 → (nameTab i).all (· != 32) = true := under12 rfl rfl rfl rfl rfl rfl rfl rfl rfl rfl rfl rfl
theorem wrNums_cons (a : Nat) (r : List Nat) : wrNums (a :: r) = 32 :: (Lib.decDigits a ++ wrNums r) := by simp [wrNums]
theorem wrNums_head (xs : List Nat) : wrNums xs = [] ∨ ∃ t, wrNums xs = 32 :: t := by
  cases xs with
  | nil => exact Or.inl rfl
  | cons a r => exact Or.inr ⟨_, wrNums_cons a r⟩
theorem wrK_head : ∀ i, i < 12 → ∀ keys ps text n l, wrK i keys ps text n l = [] ∨ ∃ t, wrK i keys ps text n l = 32 :: t :=
  under12 (fun _ _ _ _ _ => Or.inr ⟨_, rfl⟩) (fun _ _ _ _ _ => Or.inr ⟨_, rfl⟩) (fun _ _ _ _ _ => wrNums_head _) (fun _ _ _ _ _ => wrNums_head _) (fun _ _ _ _ _ => Or.inr ⟨_, rfl⟩) (fun _ _ _ _ _ => Or.inl rfl) (fun _ _ _ _ _ => Or.inl rfl) (fun _ _ _ _ _ => Or.inl rfl)
    (fun _ _ _ _ _ => wrNums_head _) (fun _ _ _ _ _ => wrNums_head _) (fun _ _ _ _ _ => Or.inl rfl) (fun _ _ _ _ _ => Or.inl rfl)
theorem readNums_wr : ∀ (xs : List Nat) (k : Nat), xs.length ≤ k → (∀ n ∈ xs, n < 10000) → readNums k (wrNums xs) = some xs
  | [], k, _, _ => readNums_nil k
  | a :: r, 0, h, _ => by simp at h
  | a :: r, k + 1, h, hn => by
    have hd : ∀ c t, wrNums r = c :: t → isDig c = false := by
      intro c t e
      rcases wrNums_head r with h1 | ⟨u, h1⟩
      · rw [h1] at e; cases e
      · rw [h1] at e; cases e; rfl
    rw [wrNums_cons, readNums_some (by simp) (readNum_dec (hn a (by simp)) hd), readNums_wr r k (by simpa using h) (fun n hm => hn n (by simp [hm]))]
    rfl
theorem pairs_flat : ∀ (ps : List (Int × Int)), (∀ p ∈ ps, 0 ≤ p.1 ∧ 0 ≤ p.2) → pairs (flatP ps) = ps
  | [], _ => rfl
  | p :: r, h => by
    have h1 := h p (by simp)
    have e : flatP (p :: r) = p.1.toNat :: p.2.toNat :: flatP r := by simp [flatP]
    rw [e]
    show ((p.1.toNat : Int), (p.2.toNat : Int)) :: pairs (flatP r) = p :: r
    rw [pairs_flat r (fun q hq => h q (by simp [hq])), Int.toNat_of_nonneg h1.1, Int.toNat_of_nonneg h1.2]
theorem inside_mem {ps : List (Int × Int)} (h : insideB ps = true) : ∀ p ∈ ps, (0 ≤ p.1 ∧ p.1 ≤ 1000) ∧ 0 ≤ p.2 ∧ p.2 ≤ 1000 := by
  intro p hp
  obtain ⟨k, hk, rfl⟩ := List.getElem_of_mem hp
  exact inside_of ps h k hk
theorem flatP_lt {ps : List (Int × Int)} (h : insideB ps = true) : ∀ n ∈ flatP ps, n < 10000 := by
  intro n hn
  unfold flatP at hn
  rw [List.mem_flatMap] at hn
  obtain ⟨p, hp, hn⟩ := hn
  have := inside_mem h p hp
  simp at hn
  omega
theorem nil_of_size {l : List UInt8} (h : ((B l).size : Int) ≤ 0) : l = [] := by
  rw [size_B] at h
  exact List.length_eq_zero_iff.1 (by omega)
theorem nil_of_len {ps : List (Int × Int)} (h : (ps.length : Int) ≤ 0) : ps = [] := List.length_eq_zero_iff.1 (by omega)

/-- Reading what was written gives the fields again. -/
def RdWr (i : Nat) : Prop := ∀ (keys : List UInt8) (ps : List (Int × Int)) (text : List UInt8) (n l : Int), fitsK i keys ps text n l = true → rdK i (wrK i keys ps text n l) = some ⟨0, keys, ps, text, n, l⟩
theorem rw_keys (i : Nat) (h1 : ∀ r, rdK i r = rdKeys r) (h2 : ∀ keys ps text n l, wrK i keys ps text n l = 32 :: keys) (h3 : spanAt i 3 = 0 ∧ spanAt i 5 = 0 ∧ spanAt i 6 = 0 ∧ spanAt i 7 = 0 ∧ spanAt i 8 = 0 ∧ spanAt i 9 = 0) : RdWr i := by
  intro keys ps text n l hf
  have h := (fitsB_true hf).1
  obtain rfl := nil_of_len (ps := ps) (by omega)
  obtain rfl := nil_of_size (l := text) (by omega)
  obtain rfl : n = 0 := by omega
  obtain rfl : l = 0 := by omega
  rw [h1, h2]; rfl
theorem rw_text (i : Nat) (h1 : ∀ r, rdK i r = rdText r) (h2 : ∀ keys ps text n l, wrK i keys ps text n l = 32 :: text) (h3 : spanAt i 1 = 0 ∧ spanAt i 3 = 0 ∧ spanAt i 6 = 0 ∧ spanAt i 7 = 0 ∧ spanAt i 8 = 0 ∧ spanAt i 9 = 0) : RdWr i := by
  intro keys ps text n l hf
  have h := (fitsB_true hf).1
  obtain rfl := nil_of_len (ps := ps) (by omega)
  obtain rfl := nil_of_size (l := keys) (by omega)
  obtain rfl : n = 0 := by omega
  obtain rfl : l = 0 := by omega
  rw [h1, h2]; rfl
theorem rw_none (i : Nat) (h1 : ∀ r, rdK i r = rdNothing r) (h2 : ∀ keys ps text n l, wrK i keys ps text n l = []) (h3 : spanAt i 1 = 0 ∧ spanAt i 3 = 0 ∧ spanAt i 5 = 0 ∧ spanAt i 6 = 0 ∧ spanAt i 7 = 0 ∧ spanAt i 8 = 0 ∧ spanAt i 9 = 0) : RdWr i := by
  intro keys ps text n l hf
  have h := (fitsB_true hf).1
  obtain rfl := nil_of_len (ps := ps) (by omega)
  obtain rfl := nil_of_size (l := keys) (by omega)
  obtain rfl := nil_of_size (l := text) (by omega)
  obtain rfl : n = 0 := by omega
  obtain rfl : l = 0 := by omega
  rw [h1, h2]; rfl
theorem rw_pts (i : Nat) (h1 : ∀ r, rdK i r = rdPoints r) (h2 : ∀ keys ps text n l, wrK i keys ps text n l = wrNums (flatP ps)) (h3 : spanAt i 1 = 0 ∧ spanAt i 3 ≤ 12 ∧ spanAt i 5 = 0 ∧ spanAt i 6 = 0 ∧ spanAt i 7 = 0 ∧ spanAt i 8 = 0 ∧ spanAt i 9 = 0) : RdWr i := by
  intro keys ps text n l hf
  have h := (fitsB_true hf).1
  have hin := (fitsB_true hf).2.2.2.2
  obtain rfl := nil_of_size (l := keys) (by omega)
  obtain rfl := nil_of_size (l := text) (by omega)
  obtain rfl : n = 0 := by omega
  obtain rfl : l = 0 := by omega
  have hl := flatP_len ps
  rw [h1, h2]
  show rdPointsOf (readNums 24 (wrNums (flatP ps))) = _
  rw [readNums_wr (flatP ps) 24 (by omega) (flatP_lt hin), rdPointsOf_yes (by omega), pairs_flat ps (fun p hp => ⟨(inside_mem hin p hp).1.1, (inside_mem hin p hp).2.1⟩)]
  rfl
theorem rw_hold (i : Nat) (h1 : ∀ r, rdK i r = rdHold r) (h2 : ∀ keys ps text n l, wrK i keys ps text n l = wrNums [n.toNat, l.toNat]) (h3 : spanAt i 1 = 0 ∧ spanAt i 3 = 0 ∧ spanAt i 5 = 0 ∧ 0 ≤ spanAt i 6 ∧ spanAt i 7 ≤ 100 ∧ 0 ≤ spanAt i 8 ∧ spanAt i 9 ≤ 100) : RdWr i := by
  intro keys ps text n l hf
  have h := (fitsB_true hf).1
  obtain rfl := nil_of_len (ps := ps) (by omega)
  obtain rfl := nil_of_size (l := keys) (by omega)
  obtain rfl := nil_of_size (l := text) (by omega)
  obtain ⟨a, rfl⟩ := Int.eq_ofNat_of_zero_le (show 0 ≤ n by omega)
  obtain ⟨b, rfl⟩ := Int.eq_ofNat_of_zero_le (show 0 ≤ l by omega)
  rw [h1, h2]
  unfold rdHold
  rw [readNums_wr [(a : Int).toNat, (b : Int).toNat] 2 (by simp) (by intro m hm; simp at hm; omega)]
  rfl
theorem rw_choose (i : Nat) (h1 : ∀ r, rdK i r = rdChoose r) (h2 : ∀ keys ps text n l, wrK i keys ps text n l = wrNums [n.toNat]) (h3 : spanAt i 1 = 0 ∧ spanAt i 3 = 0 ∧ spanAt i 5 = 0 ∧ 0 ≤ spanAt i 6 ∧ spanAt i 7 ≤ 100 ∧ spanAt i 8 = 0 ∧ spanAt i 9 = 0) : RdWr i := by
  intro keys ps text n l hf
  have h := (fitsB_true hf).1
  obtain rfl := nil_of_len (ps := ps) (by omega)
  obtain rfl := nil_of_size (l := keys) (by omega)
  obtain rfl := nil_of_size (l := text) (by omega)
  obtain ⟨a, rfl⟩ := Int.eq_ofNat_of_zero_le (show 0 ≤ n by omega)
  obtain rfl : l = 0 := by omega
  rw [h1, h2]
  unfold rdChoose
  rw [readNums_wr [(a : Int).toNat] 1 (by simp) (by intro m hm; simp at hm; omega)]
  rfl
theorem rd_wr : ∀ i, i < 12 → RdWr i :=
  under12 (rw_keys 0 (fun _ => rfl) (fun _ _ _ _ _ => rfl) (by decide)) (rw_keys 1 (fun _ => rfl) (fun _ _ _ _ _ => rfl) (by decide)) (rw_pts 2 (fun _ => rfl) (fun _ _ _ _ _ => rfl) (by decide)) (rw_pts 3 (fun _ => rfl) (fun _ _ _ _ _ => rfl) (by decide))
    (rw_text 4 (fun _ => rfl) (fun _ _ _ _ _ => rfl) (by decide)) (rw_none 5 (fun _ => rfl) (fun _ _ _ _ _ => rfl) (by decide)) (rw_none 6 (fun _ => rfl) (fun _ _ _ _ _ => rfl) (by decide)) (rw_none 7 (fun _ => rfl) (fun _ _ _ _ _ => rfl) (by decide))
    (rw_hold 8 (fun _ => rfl) (fun _ _ _ _ _ => rfl) (by decide)) (rw_choose 9 (fun _ => rfl) (fun _ _ _ _ _ => rfl) (by decide)) (rw_none 10 (fun _ => rfl) (fun _ _ _ _ _ => rfl) (by decide)) (rw_none 11 (fun _ => rfl) (fun _ _ _ _ _ => rfl) (by decide))

/-- The line of a valid event. -/
def printS (ev : Ev) : List UInt8 := nameTab (ev.kind - 1).toNat ++ wrK (ev.kind - 1).toNat ev.keys ev.p ev.text ev.n ev.l
theorem read_back (ev : Ev) (h : validB ev = true) : parseS (printS ev) = some ev := by
  obtain ⟨kd, keys, ps, text, n, l⟩ := ev
  have hv : (if 1 ≤ kd ∧ kd ≤ 12 then fitsK (kd - 1).toNat keys ps text n l else false) = true := h
  split at hv
  · rename_i hk
    obtain ⟨i, hi⟩ : ∃ i : Nat, i = (kd - 1).toNat := ⟨_, rfl⟩
    have hi12 : i < 12 := by omega
    have hkd : ((i + 1 : Nat) : Int) = kd := by omega
    show parseS (nameTab (kd - 1).toNat ++ wrK (kd - 1).toNat keys ps text n l) = some ⟨kd, keys, ps, text, n, l⟩
    rw [← hi] at hv ⊢
    unfold parseS
    rw [splitB_app (name_nosp i hi12) (wrK_head i hi12 keys ps text n l)]
    dsimp only
    rw [kindIx_yes hi12 rfl]
    show parseK i (wrK i keys ps text n l) = _
    unfold parseK
    rw [rd_wr i hi12 keys ps text n l hv]
    show (if fitsK i keys ps text n l then some (⟨((i + 1 : Nat) : Int), keys, ps, text, n, l⟩ : Ev) else none) = _
    rw [hv, hkd]; rfl
  · cases hv
/-- Two valid events have the same line exactly if they are equal. -/
theorem line_inj (a b : Ev) (ha : validB a = true) (hb : validB b = true) : printS a = printS b ↔ a = b :=
  ⟨fun h => by have h1 := read_back a ha; rw [h, read_back b hb] at h1; exact (Option.some.inj h1).symm, fun h => by rw [h]⟩
end Go.Proofs.YtmioocmjlbjfpaaDoor

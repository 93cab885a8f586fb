/-
  The reference prints a valid event as the package does; the lines of a script, and the list of its events.
-/
import Derived.Test.YtmioocmjlbjfpaaDoorRP
import Derived.Test.YtmioocmjlbjfpaaDoorKK
namespace Go.Proofs.YtmioocmjlbjfpaaDoor
open Go.RowKit
open Pl

def RqP (i : Nat) : Prop := ∀ (keys : List UInt8) (ps : List (Int × Int)) (text : List UInt8) (n l : Int), fitsK i keys ps text n l = true → rpr (i + 1) ⟨((i + 1 : Nat) : Int), keys, ps, text, n, l⟩ = nameTab i ++ wrK i keys ps text n l
theorem rpr_open (i : Nat) (k : Int) (keys : List UInt8) (ps : List (Int × Int)) (text : List UInt8) (n l : Int) : rpr (i + 1) ⟨k, keys, ps, text, n, l⟩ = nameTab i ++ (keyPart keys ++ (wrNums (flatP ps) ++ (keyPart text ++ (nPart (i + 1) n ++ lPart (i + 1) l)))) := by
  unfold rpr; simp
theorem nil_nums : wrNums (flatP []) = [] := rfl
theorem keyPart_nil : keyPart [] = [] := rfl
theorem nonempty_of {l : List UInt8} (h : (1 : Int) ≤ ((B l).size : Int)) : l ≠ [] := fun e => by subst e; exact absurd h (by decide)
theorem n_no {k : Nat} {n : Int} (h : k ≠ 9 ∧ k ≠ 10) : nPart k n = [] := if_neg (by omega)
theorem l_no {k : Nat} {n : Int} (h : k ≠ 9) : lPart k n = [] := if_neg h
theorem rq_keys (i : Nat) (h2 : ∀ keys ps text n l, wrK i keys ps text n l = 32 :: keys) (h3 : spanAt i 3 = 0 ∧ spanAt i 5 = 0 ∧ 1 ≤ spanAt i 0) (h9 : i + 1 ≠ 9 ∧ i + 1 ≠ 10) : RqP i := by
  intro keys ps text n l hf
  have h := (fitsB_true hf).1
  obtain rfl := nil_of_len (ps := ps) (by omega)
  obtain rfl := nil_of_size (l := text) (by omega)
  have hk := nonempty_of (l := keys) (by omega)
  rw [h2, rpr_open, keyPart_yes hk, n_no h9, l_no h9.1, nil_nums, keyPart_nil]; simp
theorem rq_text (i : Nat) (h2 : ∀ keys ps text n l, wrK i keys ps text n l = 32 :: text) (h3 : spanAt i 1 = 0 ∧ spanAt i 3 = 0 ∧ 1 ≤ spanAt i 4) (h9 : i + 1 ≠ 9 ∧ i + 1 ≠ 10) : RqP i := by
  intro keys ps text n l hf
  have h := (fitsB_true hf).1
  obtain rfl := nil_of_len (ps := ps) (by omega)
  obtain rfl := nil_of_size (l := keys) (by omega)
  have hk := nonempty_of (l := text) (by omega)
  rw [h2, rpr_open, keyPart_yes hk, n_no h9, l_no h9.1, nil_nums, keyPart_nil]; simp
theorem rq_none (i : Nat) (h2 : ∀ keys ps text n l, wrK i keys ps text n l = []) (h3 : spanAt i 1 = 0 ∧ spanAt i 3 = 0 ∧ spanAt i 5 = 0) (h9 : i + 1 ≠ 9 ∧ i + 1 ≠ 10) : RqP i := by
  intro keys ps text n l hf
  have h := (fitsB_true hf).1
  obtain rfl := nil_of_len (ps := ps) (by omega)
  obtain rfl := nil_of_size (l := keys) (by omega)
  obtain rfl := nil_of_size (l := text) (by omega)
  rw [h2, rpr_open, n_no h9, l_no h9.1, nil_nums, keyPart_nil]; simp
theorem rq_pts (i : Nat) (h2 : ∀ keys ps text n l, wrK i keys ps text n l = wrNums (flatP ps)) (h3 : spanAt i 1 = 0 ∧ spanAt i 5 = 0) (h9 : i + 1 ≠ 9 ∧ i + 1 ≠ 10) : RqP i := by
  intro keys ps text n l hf
  have h := (fitsB_true hf).1
  obtain rfl := nil_of_size (l := keys) (by omega)
  obtain rfl := nil_of_size (l := text) (by omega)
  rw [h2, rpr_open, n_no h9, l_no h9.1, keyPart_nil]; simp
theorem rq_hold : RqP 8 := by
  intro keys ps text n l hf
  have h := (fitsB_true hf).1
  have h3 : spanAt 8 1 = 0 ∧ spanAt 8 3 = 0 ∧ spanAt 8 5 = 0 := ⟨rfl, rfl, rfl⟩
  obtain rfl := nil_of_len (ps := ps) (by omega)
  obtain rfl := nil_of_size (l := keys) (by omega)
  obtain rfl := nil_of_size (l := text) (by omega)
  rw [rpr_open, nil_nums, keyPart_nil]
  have e1 : nPart (8 + 1) n = 32 :: Lib.decDigits n.toNat := if_pos (Or.inl rfl)
  have e2 : lPart (8 + 1) l = 32 :: Lib.decDigits l.toNat := if_pos rfl
  have e3 : wrK 8 [] [] [] n l = wrNums [n.toNat, l.toNat] := rfl
  rw [e1, e2, e3]
  simp [wrNums]
theorem rq_choose : RqP 9 := by
  intro keys ps text n l hf
  have h := (fitsB_true hf).1
  have h3 : spanAt 9 1 = 0 ∧ spanAt 9 3 = 0 ∧ spanAt 9 5 = 0 := ⟨rfl, rfl, rfl⟩
  obtain rfl := nil_of_len (ps := ps) (by omega)
  obtain rfl := nil_of_size (l := keys) (by omega)
  obtain rfl := nil_of_size (l := text) (by omega)
  rw [rpr_open, nil_nums, keyPart_nil]
  have e1 : nPart (9 + 1) n = 32 :: Lib.decDigits n.toNat := if_pos (Or.inr rfl)
  have e2 : lPart (9 + 1) l = [] := if_neg (by decide)
  have e3 : wrK 9 [] [] [] n l = wrNums [n.toNat] := rfl
  rw [e1, e2, e3]
  simp [wrNums]
theorem rq_all : ∀ i, i < 12 → RqP i :=
  under12 (rq_keys 0 (fun _ _ _ _ _ => rfl) (by decide) (by decide)) (rq_keys 1 (fun _ _ _ _ _ => rfl) (by decide) (by decide)) (rq_pts 2 (fun _ _ _ _ _ => rfl) (by decide) (by decide)) (rq_pts 3 (fun _ _ _ _ _ => rfl) (by decide) (by decide))
    (rq_text 4 (fun _ _ _ _ _ => rfl) (by decide) (by decide)) (rq_none 5 (fun _ _ _ _ _ => rfl) (by decide) (by decide)) (rq_none 6 (fun _ _ _ _ _ => rfl) (by decide) (by decide)) (rq_none 7 (fun _ _ _ _ _ => rfl) (by decide) (by decide))
    rq_hold rq_choose (rq_none 10 (fun _ _ _ _ _ => rfl) (by decide) (by decide)) (rq_none 11 (fun _ _ _ _ _ => rfl) (by decide) (by decide))
theorem spans_num : ∀ i, i < 12 → spanAt i 1 ≤ 20 ∧ spanAt i 5 ≤ 20 ∧ 0 ≤ spanAt i 6 ∧ spanAt i 7 ≤ 1000 ∧ 0 ≤ spanAt i 8 ∧ spanAt i 9 ≤ 1000 := under12 (by decide) (by decide) (by decide) (by decide) (by decide) (by decide) (by decide) (by decide) (by decide) (by decide) (by decide) (by decide)
theorem rprint_ev (ev : Ev) (h : validB ev = true) (a : Option Addr) (c : Nat) (w : World) (hP : PtsAt w w.heap.size (.slice a ev.p.length c) ev.p) :
    Calls Tryd.prog 5 #[evV ev a c] w fun e w' => e = .returned (.string (B (printS ev))) ∧ Below w.heap.size w w' := by
  obtain ⟨i, hi, hk, hi', hf⟩ := validB_kind h
  have hb := (fitsB_true hf).1
  have hs := spans_num i hi
  have hp := valid_pts h
  rw [size_B, size_B] at hb
  have hr := rq_all i hi ev.keys ev.p ev.text ev.n ev.l hf
  have e : rpr (i + 1) ev = printS ev := by
    show _ = nameTab (ev.kind - 1).toNat ++ wrK (ev.kind - 1).toNat ev.keys ev.p ev.text ev.n ev.l
    rw [hi', ← hr, ← hk]
  rw [← e]
  exact RPrint_any ev (i + 1) hk (by omega) (by omega) a c w hP hp (fitsB_true hf).2.2.2.2 (by omega) (by omega) (by omega) (by omega) (by omega) (by omega)
end Go.Proofs.YtmioocmjlbjfpaaDoor

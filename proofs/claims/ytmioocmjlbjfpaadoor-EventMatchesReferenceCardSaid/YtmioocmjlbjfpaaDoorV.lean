/-
  event.Print.
-/
import Derived.Test.YtmioocmjlbjfpaaDoorU
import Derived.Deep.DeepMust
namespace Go.Proofs.YtmioocmjlbjfpaaDoor
open Go.RowKit
open Pl

def wrK (i : Nat) (keys : List UInt8) (ps : List (Int × Int)) (text : List UInt8) (n l : Int) : List UInt8 := match i with
  | 0 => 32 :: keys | 1 => 32 :: keys | 2 => wrNums (flatP ps) | 3 => wrNums (flatP ps) | 4 => 32 :: text | 8 => wrNums [n.toNat, l.toNat] | 9 => wrNums [n.toNat] | _ => []
theorem fitsB_true {k1 k2 p1 p2 t1 t2 n1 n2 s1 s2 : Int} {keys : List UInt8} {ps : List (Int × Int)} {text : List UInt8} {n l : Int} (h : fitsB k1 k2 p1 p2 t1 t2 n1 n2 s1 s2 keys ps text n l = true) :
    ((k1 ≤ ((B keys).size : Int) ∧ ((B keys).size : Int) ≤ k2) ∧ (p1 ≤ (ps.length : Int) ∧ (ps.length : Int) ≤ p2) ∧ (t1 ≤ ((B text).size : Int) ∧ ((B text).size : Int) ≤ t2) ∧ (n1 ≤ n ∧ n ≤ n2) ∧ (s1 ≤ l ∧ l ≤ s2)) ∧ lettersB keys = true ∧ incB keys = true ∧ lettersB text = true ∧ insideB ps = true := by
  unfold fitsB at h
  simp only [Bool.and_eq_true] at h
  obtain ⟨h1, h2, h3, h4, h5, h6, h7, h8, h9⟩ := h
  exact ⟨⟨hasB_true.1 h1, hasB_true.1 h2, hasB_true.1 h3, hasB_true.1 h4, hasB_true.1 h5⟩, h6, h7, h8, h9⟩
/-- What each writer answers on an event that fits its form. -/
def WrSays (i : Nat) : Prop := ∀ (kd : Int) (keys : List UInt8) (va : Option Addr) (vc : Nat) (ps : List (Int × Int)) (text : List UInt8) (n l : Int) (w : World), fitsK i keys ps text n l = true → PtsAt w w.heap.size (.slice va ps.length vc) ps → PowTab w →
    Calls Tryd.prog (wrTab i) #[.agg #[.int .i64 kd, .string (B keys), .slice va ps.length vc, .string (B text), .int .i64 n, .int .i64 l]] w fun e w' => e = .returned (.string (B (wrK i keys ps text n l))) ∧ Below w.heap.size w w'
theorem says_keys (i : Nat) (h1 : wrTab i = 28) (h2 : ∀ keys ps text n l, wrK i keys ps text n l = 32 :: keys) (h3 : spanAt i 1 ≤ 100) : WrSays i := by
  intro kd keys va vc ps text n l w hf hP hT
  have := (fitsB_true hf).1.1.2
  rw [h1, h2]
  exact writeKeys_any kd keys va ps.length vc text n l w (by omega)
theorem says_none (i : Nat) (h1 : wrTab i = 50) (h2 : ∀ keys ps text n l, wrK i keys ps text n l = []) : WrSays i := by
  intro kd keys va vc ps text n l w hf hP hT
  rw [h1, h2]
  exact writeNothing_any kd keys va ps.length vc text n l w
theorem says_pts (i : Nat) (h1 : wrTab i = 30) (h2 : ∀ keys ps text n l, wrK i keys ps text n l = wrNums (flatP ps)) (h3 : spanAt i 3 ≤ 100) : WrSays i := by
  intro kd keys va vc ps text n l w hf hP hT
  have h := fitsB_true hf
  have := h.1.2.1.2
  rw [h1, h2]
  exact writePoints_any kd keys va vc ps text n l w hP h.2.2.2.2 (by omega) hT
theorem says_text (i : Nat) (h1 : wrTab i = 32) (h2 : ∀ keys ps text n l, wrK i keys ps text n l = 32 :: text) (h3 : spanAt i 5 ≤ 100) : WrSays i := by
  intro kd keys va vc ps text n l w hf hP hT
  have := (fitsB_true hf).1.2.2.1.2
  rw [h1, h2]
  exact writeText_any kd keys va ps.length vc text n l w (by omega)
theorem says_hold (i : Nat) (h1 : wrTab i = 35) (h2 : ∀ keys ps text n l, wrK i keys ps text n l = wrNums [n.toNat, l.toNat]) (h3 : 0 ≤ spanAt i 6 ∧ spanAt i 7 ≤ 100 ∧ 0 ≤ spanAt i 8 ∧ spanAt i 9 ≤ 100) : WrSays i := by
  intro kd keys va vc ps text n l w hf hP hT
  have h := (fitsB_true hf).1.2.2.2
  obtain ⟨a, rfl⟩ := Int.eq_ofNat_of_zero_le (show 0 ≤ n by omega)
  obtain ⟨b, rfl⟩ := Int.eq_ofNat_of_zero_le (show 0 ≤ l by omega)
  rw [h1, h2]
  exact writeHold_any kd keys va ps.length vc text a b w (by omega) (by omega) hT
theorem says_choose (i : Nat) (h1 : wrTab i = 37) (h2 : ∀ keys ps text n l, wrK i keys ps text n l = wrNums [n.toNat]) (h3 : 0 ≤ spanAt i 6 ∧ spanAt i 7 ≤ 100) : WrSays i := by
  intro kd keys va vc ps text n l w hf hP hT
  have h := (fitsB_true hf).1.2.2.2
  obtain ⟨a, rfl⟩ := Int.eq_ofNat_of_zero_le (show 0 ≤ n by omega)
  rw [h1, h2]
  exact writeChoose_any kd keys va ps.length vc text a l w (by omega) hT
theorem write_any : ∀ i, i < 12 → WrSays i :=
  under12 (says_keys 0 rfl (fun _ _ _ _ _ => rfl) (by decide)) (says_keys 1 rfl (fun _ _ _ _ _ => rfl) (by decide)) (says_pts 2 rfl (fun _ _ _ _ _ => rfl) (by decide)) (says_pts 3 rfl (fun _ _ _ _ _ => rfl) (by decide)) (says_text 4 rfl (fun _ _ _ _ _ => rfl) (by decide))
    (says_none 5 rfl (fun _ _ _ _ _ => rfl)) (says_none 6 rfl (fun _ _ _ _ _ => rfl)) (says_none 7 rfl (fun _ _ _ _ _ => rfl)) (says_hold 8 rfl (fun _ _ _ _ _ => rfl) (by decide)) (says_choose 9 rfl (fun _ _ _ _ _ => rfl) (by decide)) (says_none 10 rfl (fun _ _ _ _ _ => rfl)) (says_none 11 rfl (fun _ _ _ _ _ => rfl))
theorem enterw_0 (args : Array Value) (W : World) : (callFunc (wrTab 0) args).run Tryd.prog W = .ok (.enter (wrTab 0) args) W := by kernel_rfl
theorem enterw_1 (args : Array Value) (W : World) : (callFunc (wrTab 1) args).run Tryd.prog W = .ok (.enter (wrTab 1) args) W := by kernel_rfl
theorem enterw_2 (args : Array Value) (W : World) : (callFunc (wrTab 2) args).run Tryd.prog W = .ok (.enter (wrTab 2) args) W := by kernel_rfl
theorem enterw_3 (args : Array Value) (W : World) : (callFunc (wrTab 3) args).run Tryd.prog W = .ok (.enter (wrTab 3) args) W := by kernel_rfl
theorem enterw_4 (args : Array Value) (W : World) : (callFunc (wrTab 4) args).run Tryd.prog W = .ok (.enter (wrTab 4) args) W := by kernel_rfl
theorem enterw_5 (args : Array Value) (W : World) : (callFunc (wrTab 5) args).run Tryd.prog W = .ok (.enter (wrTab 5) args) W := by kernel_rfl
theorem enterw_6 (args : Array Value) (W : World) : (callFunc (wrTab 6) args).run Tryd.prog W = .ok (.enter (wrTab 6) args) W := by kernel_rfl
theorem enterw_7 (args : Array Value) (W : World) : (callFunc (wrTab 7) args).run Tryd.prog W = .ok (.enter (wrTab 7) args) W := by kernel_rfl
theorem enterw_8 (args : Array Value) (W : World) : (callFunc (wrTab 8) args).run Tryd.prog W = .ok (.enter (wrTab 8) args) W := by kernel_rfl
theorem enterw_9 (args : Array Value) (W : World) : (callFunc (wrTab 9) args).run Tryd.prog W = .ok (.enter (wrTab 9) args) W := by kernel_rfl
theorem enterw_10 (args : Array Value) (W : World) : (callFunc (wrTab 10) args).run Tryd.prog W = .ok (.enter (wrTab 10) args) W := by kernel_rfl
theorem enterw_11 (args : Array Value) (W : World) : (callFunc (wrTab 11) args).run Tryd.prog W = .ok (.enter (wrTab 11) args) W := by kernel_rfl
theorem enterw_any : ∀ (i : Nat), i < 12 → ∀ (args : Array Value) (W : World), (callFunc (wrTab i) args).run Tryd.prog W = .ok (.enter (wrTab i) args) W :=
  under12 enterw_0 enterw_1 enterw_2 enterw_3 enterw_4 enterw_5 enterw_6 enterw_7 enterw_8 enterw_9 enterw_10 enterw_11
theorem B_app (s t : List UInt8) : B s ++ B t = B (s ++ t) := by
  rw [← B_toList (B s ++ B t)]; simp [B]
theorem name_len : ∀ i, i < 12 → (B (nameTab i)).size ≤ 6 := under12 (by decide) (by decide) (by decide) (by decide) (by decide) (by decide) (by decide) (by decide) (by decide) (by decide) (by decide) (by decide)

set_option maxHeartbeats 2000000 in
set_option maxRecDepth 100000 in
theorem Print_valid (i : Nat) (hi : i < 12) (keys : List UInt8) (va : Option Addr) (vc : Nat) (ps : List (Int × Int)) (text : List UInt8) (n l : Int) (w : World) (hf : fitsK i keys ps text n l = true)
    (hP : PtsAt w w.heap.size (.slice va ps.length vc) ps) (hl : ps.length ≤ maxLen) (hT : PowTab w) (hwl : (B (wrK i keys ps text n l)).size ≤ 10000) :
    Calls Tryd.prog 10 #[.agg #[.int .i64 ((i + 1 : Nat) : Int), .string (B keys), .slice va ps.length vc, .string (B text), .int .i64 n, .int .i64 l]] w fun e w' => e = .returned (.string (B (nameTab i ++ wrK i keys ps text n l))) ∧ Below w.heap.size w w' := by
  have C1 := fun w => Lib.hid (forms_any w)
  have C2 := fun b w hT hP => Lib.hid (fits_yes b i hi keys va vc ps text n l w hT hP hl)
  rw [hf] at C2
  have C3 := fun kd w hP hT => Lib.hid (write_any i hi kd keys va vc ps text n l w hf hP hT)
  have HLK := fun (b : Nat) (W : World) (hT : TabAt W b) => Lib.hid (look_yes hT i hi false)
  rw [formAt_eq i hi] at HLK
  have hent := enterw_any i hi
  have HBA := Lib.hid (B_app (nameTab i) (wrK i keys ps text n l))
  have hnl := name_len i hi
  have HP := Lib.hid hP
  have HT := Lib.hid hT
  generalize ((i + 1 : Nat) : Int) = kd at *
  have H0 := Lib.hid (show Below w.heap.size w (w.alloc (.cells #[.int .i64 kd, .string (B keys), .slice va ps.length vc, .string (B text), .int .i64 n, .int .i64 l] 31)) from (Below.refl _ _).alloc (Nat.le_refl _) _)
  have E0 := Lib.hid (EvBlock.new w (.int .i64 kd) (.string (B keys)) (.slice va ps.length vc) (.string (B text)) (.int .i64 n) (.int .i64 l))
  clear hf hP hl hT
  generalize wrTab i = wrf at *
  generalize wrK i keys ps text n l = out at *
  go_enter Tryd.func10, Tryd.ntmps10
  go_wp2_with fail
  refine ((C1 _).out).mono ?_
  rintro e x1 ⟨rfl, hTab⟩
  have hT1 := Lib.hid (tab_after (c := w.heap.size + 1) hTab (by simp))
  have HB1 := Lib.hid (H0.out.trans (hTab.2.1.mono H0.out.size))
  have E1 := Lib.hid (E0.out.below hTab.2.1)
  obtain ⟨g0, g1, g2, g3, g4, g5⟩ := E1.out.cells
  clear hTab C1 E0
  go_wp2_with fail
  refine ((C2 (w.heap.size + 1) _ hT1.out ((HP.out.below HB1.out).up HB1.out.size)).out).mono ?_
  rintro e x2 ⟨rfl, hb2⟩
  have hT2 := Lib.hid (hT1.out.below hb2)
  have HB2 := Lib.hid (HB1.out.trans (hb2.mono HB1.out.size))
  have E2 := Lib.hid (E1.out.below hb2)
  have hlk := (HLK (w.heap.size + 1) x2 hT2.out).out
  clear g0 g1 g2 g3 g4 g5 C2 hb2 hT1 HB1 E1 HLK
  obtain ⟨g0, g1, g2, g3, g4, g5⟩ := E2.out.cells
  have hx2 := Lib.hid E2.out.lt
  go_wp2_with fail
  have E3 := Lib.hid ((E2.out.alloc (.cells #[.string (B (nameTab i)), .int .i64 (spanAt i 0), .int .i64 (spanAt i 1), .int .i64 (spanAt i 2), .int .i64 (spanAt i 3), .int .i64 (spanAt i 4), .int .i64 (spanAt i 5), .int .i64 (spanAt i 6), .int .i64 (spanAt i 7), .int .i64 (spanAt i 8), .int .i64 (spanAt i 9), .func (.func wrf) #[] #[], .func (.func (rdTab i)) #[] #[]] 62)))
  have HB3 := Lib.hid ((HB2.out.alloc HB2.out.size (.cells #[.string (B (nameTab i)), .int .i64 (spanAt i 0), .int .i64 (spanAt i 1), .int .i64 (spanAt i 2), .int .i64 (spanAt i 3), .int .i64 (spanAt i 4), .int .i64 (spanAt i 5), .int .i64 (spanAt i 6), .int .i64 (spanAt i 7), .int .i64 (spanAt i 8), .int .i64 (spanAt i 9), .func (.func wrf) #[] #[], .func (.func (rdTab i)) #[] #[]] 62)).drew)
  clear hlk g0 g1 g2 g3 g4 g5
  obtain ⟨g0, g1, g2, g3, g4, g5⟩ := E3.out.cells
  have HP3 := Lib.hid ((HP.out.below HB3.out).up HB3.out.size)
  have HT3 := Lib.hid (HT.out.below HB3.out)
  clear HP HT E2 hT2 HB2
  go_region_with (first
    | (refine ((C3 _ _ HP3.out HT3.out).out).mono ?_; rintro e x3 ⟨rfl, hb3⟩; have hc3 := (bcell hb3).1; have HB4 := Lib.hid (HB3.out.trans (hb3.mono HB3.out.size)); clear hb3))
  all_goals (go_wp2_with fail; go_ret; exact ⟨ret_str HBA.out, HB4.out⟩)
end Go.Proofs.YtmioocmjlbjfpaaDoor

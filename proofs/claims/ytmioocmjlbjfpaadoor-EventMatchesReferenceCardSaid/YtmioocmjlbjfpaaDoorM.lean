/-
  event.parse: what a line is read as.
-/
import Derived.Test.YtmioocmjlbjfpaaDoorL
namespace Go.Proofs.YtmioocmjlbjfpaaDoor
open Go.RowKit
open Pl

def rdK : Nat → List UInt8 → Option Ev
  | 0 => rdKeys | 1 => rdKeys | 2 => rdPoints | 3 => rdPoints | 4 => rdText | 8 => rdHold | 9 => rdChoose | _ => rdNothing
theorem read_any : ∀ (i : Nat), i < 12 → ∀ (l : List UInt8) (w : World), l.length ≤ maxLen → Calls Tryd.prog (rdTab i) #[.string (B l)] w (RdPost (rdK i l) w) :=
  under12 (fun l w _ => readKeys_any l w) (fun l w _ => readKeys_any l w) (fun l w h => readPoints_any l w h) (fun l w h => readPoints_any l w h) (fun l w _ => readText_any l w)
    (fun l w _ => readNothing_any l w) (fun l w _ => readNothing_any l w) (fun l w _ => readNothing_any l w) (fun l w h => readHold_any l w h) (fun l w h => readChoose_any l w h) (fun l w _ => readNothing_any l w) (fun l w _ => readNothing_any l w)
def parseK (i : Nat) (l : List UInt8) : Option Ev := match rdK i l with
  | none => none
  | some ev => if fitsK i ev.keys ev.p ev.text ev.n ev.l then some { ev with kind := ((i + 1 : Nat) : Int) } else none
def parseS (l : List UInt8) : Option Ev := match kindIx (splitB l).1 with
  | none => none
  | some i => parseK i (splitB l).2
/-- What parse and Parse hand back. -/
def PsPost (good bad : Value) (r : Option Ev) (w : World) (e : Ending) (w' : World) : Prop :=
  (match r with
    | none => e = .returned (.tuple #[evVal Ev.zero (.slice none 0 0), bad])
    | some ev => ∃ v, e = .returned (.tuple #[evVal ev v, good]) ∧ OwnsP w' w.heap.size v ev.p) ∧ Below w.heap.size w w'
theorem PsPost.no {good bad : Value} {r : Option Ev} {w w' : World} {e : Ending} (h : r = none) (he : e = .returned (.tuple #[evVal Ev.zero (.slice none 0 0), bad])) (hb : Below w.heap.size w w') : PsPost good bad r w e w' := by
  subst h; exact ⟨he, hb⟩
theorem PsPost.yes {good bad : Value} {r : Option Ev} {w w' : World} {ev : Ev} {v : Value} {e : Ending} (h : r = some ev) (he : e = .returned (.tuple #[evVal ev v, good])) (ho : OwnsP w' w.heap.size v ev.p) (hb : Below w.heap.size w w') : PsPost good bad r w e w' := by
  subst h; exact ⟨⟨v, he, ho⟩, hb⟩
theorem enter_0 (args : Array Value) (W : World) : (callFunc (rdTab 0) args).run Tryd.prog W = .ok (.enter (rdTab 0) args) W := by kernel_rfl
theorem enter_1 (args : Array Value) (W : World) : (callFunc (rdTab 1) args).run Tryd.prog W = .ok (.enter (rdTab 1) args) W := by kernel_rfl
theorem enter_2 (args : Array Value) (W : World) : (callFunc (rdTab 2) args).run Tryd.prog W = .ok (.enter (rdTab 2) args) W := by kernel_rfl
theorem enter_3 (args : Array Value) (W : World) : (callFunc (rdTab 3) args).run Tryd.prog W = .ok (.enter (rdTab 3) args) W := by kernel_rfl
theorem enter_4 (args : Array Value) (W : World) : (callFunc (rdTab 4) args).run Tryd.prog W = .ok (.enter (rdTab 4) args) W := by kernel_rfl
theorem enter_5 (args : Array Value) (W : World) : (callFunc (rdTab 5) args).run Tryd.prog W = .ok (.enter (rdTab 5) args) W := by kernel_rfl
theorem enter_6 (args : Array Value) (W : World) : (callFunc (rdTab 6) args).run Tryd.prog W = .ok (.enter (rdTab 6) args) W := by kernel_rfl
theorem enter_7 (args : Array Value) (W : World) : (callFunc (rdTab 7) args).run Tryd.prog W = .ok (.enter (rdTab 7) args) W := by kernel_rfl
theorem enter_8 (args : Array Value) (W : World) : (callFunc (rdTab 8) args).run Tryd.prog W = .ok (.enter (rdTab 8) args) W := by kernel_rfl
theorem enter_9 (args : Array Value) (W : World) : (callFunc (rdTab 9) args).run Tryd.prog W = .ok (.enter (rdTab 9) args) W := by kernel_rfl
theorem enter_10 (args : Array Value) (W : World) : (callFunc (rdTab 10) args).run Tryd.prog W = .ok (.enter (rdTab 10) args) W := by kernel_rfl
theorem enter_11 (args : Array Value) (W : World) : (callFunc (rdTab 11) args).run Tryd.prog W = .ok (.enter (rdTab 11) args) W := by kernel_rfl
theorem enter_any : ∀ (i : Nat), i < 12 → ∀ (args : Array Value) (W : World), (callFunc (rdTab i) args).run Tryd.prog W = .ok (.enter (rdTab i) args) W :=
  under12 enter_0 enter_1 enter_2 enter_3 enter_4 enter_5 enter_6 enter_7 enter_8 enter_9 enter_10 enter_11
theorem field_read (c0 c1 c2 c3 c4 c5 c6 c7 c8 c9 c10 c11 : Value) (fn : Fn) (W : World) :
    (Instr.field 62 (.agg #[c0, c1, c2, c3, c4, c5, c6, c7, c8, c9, c10, c11, .func fn #[] #[]]) 7).run Tryd.prog W = .ok (.func fn #[] #[]) W := by kernel_rfl
theorem OwnsP.later {W W' : World} {b : Nat} {v : Value} {ps : List (Int × Int)} (h : OwnsP W b v ps) (hb : Below W.heap.size W W') : OwnsP W' b v ps := by
  refine ⟨h.1, ?_⟩
  rcases h.2 with h | ⟨g, cap, cur, hv, hgb, hg, r⟩
  · exact Or.inl h
  · exact Or.inr ⟨g, cap, cur, hv, hgb, by rw [hb.block g (lt_of_heap hg)]; exact hg, r⟩
theorem split_len (l : List UInt8) : (splitB l).2.length ≤ l.length := List.IsSuffix.length_le (List.dropWhile_suffix _)
theorem TabAt.drewN {W : World} {b : Nat} (h : TabAt W b) (n : Nat) : TabAt (W.drewN n) b := h
theorem EvBlock.drewN {W : World} {b : Nat} {c0 c1 c2 c3 c4 c5 : Value} (h : EvBlock W b c0 c1 c2 c3 c4 c5) (n : Nat) : EvBlock (W.drewN n) b c0 c1 c2 c3 c4 c5 := h

set_option maxHeartbeats 4000000 in
set_option maxRecDepth 100000 in
theorem parse_nokind (b : Nat) (l : List UInt8) (w : World) (hT : TabAt w b) (hk : kindIx (splitB l).1 = none) :
    Calls Tryd.prog 18 #[.map (some b), .string (B l)] w (PsPost (.bool true) (.bool false) none w) := by
  have C1 := fun w => Lib.hid (split_any (B l) w)
  rw [toList_B] at C1
  have C2 := fun w hT => Lib.hid (kindOf_any b (splitB l).1 w hT)
  have e1 : kindNo (splitB l).1 = 0 := by unfold kindNo; rw [hk]
  rw [e1, hk] at C2
  clear e1 hk
  generalize splitB l = z at *
  obtain ⟨nm, rest⟩ := z
  go_enter Tryd.func18, Tryd.ntmps18
  go_wp2_with fail
  refine ((C1 _).out).mono ?_
  rintro e x1 ⟨rfl, k1, rfl⟩
  have hT1 := Lib.hid ((hT.alloc (.cells #[.int .i64 0, .string ⟨#[]⟩, .slice none 0 0, .string ⟨#[]⟩, .int .i64 0, .int .i64 0] 31)).drewN k1)
  have hE1 := Lib.hid ((EvBlock.new w (.int .i64 0) (.string ⟨#[]⟩) (.slice none 0 0) (.string ⟨#[]⟩) (.int .i64 0) (.int .i64 0)).drewN k1)
  have hb1 := Lib.hid (below_drewN ((Below.refl w.heap.size w).alloc (Nat.le_refl _) (.cells #[.int .i64 0, .string ⟨#[]⟩, .slice none 0 0, .string ⟨#[]⟩, .int .i64 0, .int .i64 0] 31)) k1)
  generalize (w.alloc (.cells #[.int .i64 0, .string ⟨#[]⟩, .slice none 0 0, .string ⟨#[]⟩, .int .i64 0, .int .i64 0] 31)).drewN k1 = x1 at *
  clear C1 hT
  go_wp2_with fail
  refine ((C2 _ hT1.out).out).mono ?_
  rintro e x2 ⟨rfl, hb2⟩
  have hE2 := hE1.out.below hb2
  have hbl2 := Lib.hid (hb1.out.trans (hb2.mono hb1.out.size))
  clear C2 hb2 hT1 hE1 hb1
  go_wp2_with (first | (refine wpList_store_ev rfl _ _ rfl _ _ _ _ _ _ _ hE2 rfl _ _ _ _ _ _ _ _ rfl ?_; intro W' hB' hg' hs'; clear hE2))
  refine ret_ev rfl rfl rfl hB' ?_
  exact PsPost.no rfl rfl (hbl2.out.grown hg' hbl2.out.size (by simp))

theorem own_len {W : World} {b n : Nat} {a : Option Addr} {c : Nat} {ps : List (Int × Int)} (h : OwnsP W b (.slice a n c) ps) : n = ps.length ∧ ps.length ≤ maxLen := by
  rcases h.2 with ⟨h1, h2⟩ | ⟨g, cap, cur, hv, hb, hg, hn, hm, _⟩
  · cases h1; exact ⟨h2.symm, by rw [h2]; exact Nat.zero_le _⟩
  · cases hv; exact ⟨rfl, Nat.le_trans hn hm⟩

set_option maxHeartbeats 4000000 in
set_option maxRecDepth 100000 in
theorem parse_noread (b : Nat) (l : List UInt8) (w : World) (hT : TabAt w b) (i : Nat) (hi : i < 12) (hk : kindIx (splitB l).1 = some i) (hm : l.length ≤ maxLen) (hr : rdK i (splitB l).2 = none) :
    Calls Tryd.prog 18 #[.map (some b), .string (B l)] w (PsPost (.bool true) (.bool false) (none) w) := by
  have C1 := fun w => Lib.hid (split_any (B l) w)
  rw [toList_B] at C1
  have C2 := fun w hT => Lib.hid (kindOf_any b (splitB l).1 w hT)
  have C3 := fun w => Lib.hid (read_any i hi (splitB l).2 w (Nat.le_trans (split_len l) hm))
  have e1 : kindNo (splitB l).1 = ((i + 1 : Nat) : Int) := by unfold kindNo; rw [hk]
  rw [e1, hk] at C2
  rw [hr] at C3
  have HLK := fun (W : World) (hT : TabAt W b) => Lib.hid (look_yes hT i hi false)
  rw [formAt_eq i hi] at HLK
  have hent := enter_any i hi
  clear e1 hk hr hm
  generalize ((i + 1 : Nat) : Int) = kd at *
  generalize rdTab i = rdf at *
  generalize splitB l = z at *
  obtain ⟨nm, rest⟩ := z
  go_enter Tryd.func18, Tryd.ntmps18
  go_wp2_with fail
  refine ((C1 _).out).mono ?_
  rintro e x1 ⟨rfl, k1, rfl⟩
  have hT1 := Lib.hid ((hT.alloc (.cells #[.int .i64 0, .string ⟨#[]⟩, .slice none 0 0, .string ⟨#[]⟩, .int .i64 0, .int .i64 0] 31)).drewN k1)
  have hE1 := Lib.hid ((EvBlock.new w (.int .i64 0) (.string ⟨#[]⟩) (.slice none 0 0) (.string ⟨#[]⟩) (.int .i64 0) (.int .i64 0)).drewN k1)
  have hb1 := Lib.hid (below_drewN ((Below.refl w.heap.size w).alloc (Nat.le_refl _) (.cells #[.int .i64 0, .string ⟨#[]⟩, .slice none 0 0, .string ⟨#[]⟩, .int .i64 0, .int .i64 0] 31)) k1)
  generalize (w.alloc (.cells #[.int .i64 0, .string ⟨#[]⟩, .slice none 0 0, .string ⟨#[]⟩, .int .i64 0, .int .i64 0] 31)).drewN k1 = x1 at *
  clear C1 hT
  go_wp2_with fail
  refine ((C2 _ hT1.out).out).mono ?_
  rintro e x2 ⟨rfl, hb2⟩
  have hT2 := Lib.hid (hT1.out.below hb2)
  have hE2 := Lib.hid (hE1.out.below hb2)
  have hbl2 := Lib.hid (hb1.out.trans (hb2.mono hb1.out.size))
  have hlk := (HLK x2 hT2.out).out
  have hfd := fun (c0 c1 c2 c3 c4 c5 c6 c7 c8 c9 c10 c11 : Value) (fn : Fn) => field_read c0 c1 c2 c3 c4 c5 c6 c7 c8 c9 c10 c11 fn x2
  clear C2 hb2 hT1 hE1 hb1 HLK
  go_wp2_with fail
  refine ((C3 _).out).mono ?_
  rintro e x3 ⟨⟨ev3, a3, n3, c3, rfl, hev⟩, hb3⟩
  have hT3 := Lib.hid (hT2.out.below hb3)
  have hE3 := Lib.hid (hE2.out.below hb3)
  have hbl3 := Lib.hid (hbl2.out.trans (hb3.mono hbl2.out.size))
  have h23 := Lib.hid hbl2.out.size
  clear C3 hb3 hT2 hE2 hbl2 hlk hfd hent
  unfold evVal
  have hE4 := Lib.hid (hE3.out.alloc (.cells #[.int .i64 ev3.kind, .string (B ev3.keys), .slice a3 n3 c3, .string (B ev3.text), .int .i64 ev3.n, .int .i64 ev3.l] 31))
  have hbl4 := Lib.hid (hbl3.out.alloc hbl3.out.size (.cells #[.int .i64 ev3.kind, .string (B ev3.keys), .slice a3 n3 c3, .string (B ev3.text), .int .i64 ev3.n, .int .i64 ev3.l] 31))
  clear hev
  go_wp2_with (first | (refine wpList_store_ev rfl _ _ rfl _ _ _ _ _ _ _ hE4.out rfl _ _ _ _ _ _ _ _ rfl ?_; intro W' hB' hg' hs'))
  refine ret_ev rfl rfl rfl hB' ?_
  exact PsPost.no rfl rfl (hbl4.out.grown hg' hbl4.out.size (by simp))


set_option maxHeartbeats 4000000 in
set_option maxRecDepth 100000 in
theorem parse_unfit (b : Nat) (l : List UInt8) (w : World) (hT : TabAt w b) (i : Nat) (hi : i < 12) (hk : kindIx (splitB l).1 = some i) (hm : l.length ≤ maxLen) (ev : Ev) (hr : rdK i (splitB l).2 = some ev) (hf : fitsK i ev.keys ev.p ev.text ev.n ev.l = false) :
    Calls Tryd.prog 18 #[.map (some b), .string (B l)] w (PsPost (.bool true) (.bool false) (none) w) := by
  have C1 := fun w => Lib.hid (split_any (B l) w)
  rw [toList_B] at C1
  have C2 := fun w hT => Lib.hid (kindOf_any b (splitB l).1 w hT)
  have C3 := fun w => Lib.hid (read_any i hi (splitB l).2 w (Nat.le_trans (split_len l) hm))
  have e1 : kindNo (splitB l).1 = ((i + 1 : Nat) : Int) := by unfold kindNo; rw [hk]
  rw [e1, hk] at C2
  rw [hr] at C3
  have HLK := fun (W : World) (hT : TabAt W b) => Lib.hid (look_yes hT i hi false)
  rw [formAt_eq i hi] at HLK
  have hent := enter_any i hi
  have HF := fun va vc w hT hP hl => Lib.hid (fits_yes b i hi ev.keys va vc ev.p ev.text ev.n ev.l w hT hP hl)
  rw [hf] at HF
  clear e1 hk hr hm hf
  generalize ((i + 1 : Nat) : Int) = kd at *
  generalize rdTab i = rdf at *
  generalize splitB l = z at *
  obtain ⟨nm, rest⟩ := z
  go_enter Tryd.func18, Tryd.ntmps18
  go_wp2_with fail
  refine ((C1 _).out).mono ?_
  rintro e x1 ⟨rfl, k1, rfl⟩
  have hT1 := Lib.hid ((hT.alloc (.cells #[.int .i64 0, .string ⟨#[]⟩, .slice none 0 0, .string ⟨#[]⟩, .int .i64 0, .int .i64 0] 31)).drewN k1)
  have hE1 := Lib.hid ((EvBlock.new w (.int .i64 0) (.string ⟨#[]⟩) (.slice none 0 0) (.string ⟨#[]⟩) (.int .i64 0) (.int .i64 0)).drewN k1)
  have hb1 := Lib.hid (below_drewN ((Below.refl w.heap.size w).alloc (Nat.le_refl _) (.cells #[.int .i64 0, .string ⟨#[]⟩, .slice none 0 0, .string ⟨#[]⟩, .int .i64 0, .int .i64 0] 31)) k1)
  generalize (w.alloc (.cells #[.int .i64 0, .string ⟨#[]⟩, .slice none 0 0, .string ⟨#[]⟩, .int .i64 0, .int .i64 0] 31)).drewN k1 = x1 at *
  clear C1 hT
  go_wp2_with fail
  refine ((C2 _ hT1.out).out).mono ?_
  rintro e x2 ⟨rfl, hb2⟩
  have hT2 := Lib.hid (hT1.out.below hb2)
  have hE2 := Lib.hid (hE1.out.below hb2)
  have hbl2 := Lib.hid (hb1.out.trans (hb2.mono hb1.out.size))
  have hlk := (HLK x2 hT2.out).out
  have hfd := fun (c0 c1 c2 c3 c4 c5 c6 c7 c8 c9 c10 c11 : Value) (fn : Fn) => field_read c0 c1 c2 c3 c4 c5 c6 c7 c8 c9 c10 c11 fn x2
  clear C2 hb2 hT1 hE1 hb1 HLK
  go_wp2_with fail
  refine ((C3 _).out).mono ?_
  rintro e x3 ⟨⟨ev3, a3, n3, c3, rfl, hev⟩, hb3⟩
  have hT3 := Lib.hid (hT2.out.below hb3)
  have hE3 := Lib.hid (hE2.out.below hb3)
  have hbl3 := Lib.hid (hbl2.out.trans (hb3.mono hbl2.out.size))
  have h23 := Lib.hid hbl2.out.size
  have h23s := hb3.size
  have hbl2s : w.heap.size + 1 ≤ x2.heap.size := hE2.out.lt
  clear C3 hb3 hT2 hE2 hbl2 hlk hfd hent
  obtain ⟨rfl, hO⟩ := hev ev rfl
  clear hev
  obtain ⟨rfl, hl3⟩ := own_len hO
  have hP3 := Lib.hid (hO.pts)
  have hO3 := Lib.hid (hO.base hbl2s)
  have h33 := Lib.hid (Nat.le_trans h23.out h23s)
  clear hO
  have hE4 := Lib.hid (hE3.out.alloc (.cells #[.int .i64 kd, .string (B ev3.keys), .slice a3 ev3.p.length c3, .string (B ev3.text), .int .i64 ev3.n, .int .i64 ev3.l] 31))
  have hL4 := Lib.hid (EvBlock.new x3 (.int .i64 kd) (.string (B ev3.keys)) (.slice a3 ev3.p.length c3) (.string (B ev3.text)) (.int .i64 ev3.n) (.int .i64 ev3.l))
  have hT4 := Lib.hid (hT3.out.alloc (.cells #[.int .i64 kd, .string (B ev3.keys), .slice a3 ev3.p.length c3, .string (B ev3.text), .int .i64 ev3.n, .int .i64 ev3.l] 31))
  have hx34 : Below x3.heap.size x3 (x3.alloc (.cells #[.int .i64 kd, .string (B ev3.keys), .slice a3 ev3.p.length c3, .string (B ev3.text), .int .i64 ev3.n, .int .i64 ev3.l] 31)) := (Below.refl _ _).alloc (Nat.le_refl _) _
  have hP4 := Lib.hid ((hP3.out.below hx34).up hx34.size)
  have hO4 := Lib.hid (show OwnsP (x3.alloc (.cells #[.int .i64 kd, .string (B ev3.keys), .slice a3 ev3.p.length c3, .string (B ev3.text), .int .i64 ev3.n, .int .i64 ev3.l] 31)) (w.heap.size + 1) (.slice a3 ev3.p.length c3) ev3.p from World.ownsRow.alloc hO3.out _)
  have hbl4 := Lib.hid (hbl3.out.alloc hbl3.out.size (.cells #[.int .i64 kd, .string (B ev3.keys), .slice a3 ev3.p.length c3, .string (B ev3.text), .int .i64 ev3.n, .int .i64 ev3.l] 31))
  clear hx34 hT3 hE3 hP3 hO3 hbl3
  unfold evVal
  go_wp2_with fail
  refine ((HF _ _ _ hT4.out hP4.out hl3).out).mono ?_
  rintro e x4 ⟨rfl, hb4⟩
  have hE5 := Lib.hid (hE4.out.below hb4)
  have hL5 := Lib.hid (hL4.out.below hb4)
  have hbl5 := Lib.hid (hbl4.out.trans (hb4.mono hbl4.out.size))
  have hO5 := Lib.hid (hO4.out.later hb4)
  clear HF hb4 hE4 hL4 hT4 hP4 hO4 hbl4
  go_wp2_with (first | (refine wpList_store_ev rfl _ _ rfl _ _ _ _ _ _ _ hE5.out rfl _ _ _ _ _ _ _ _ rfl ?_; intro W' hB' hg' hs'))
  refine ret_ev rfl rfl rfl hB' ?_
  exact PsPost.no rfl rfl (hbl5.out.grown hg' hbl5.out.size (by simp))

set_option maxHeartbeats 4000000 in
set_option maxRecDepth 100000 in
theorem parse_fit (b : Nat) (l : List UInt8) (w : World) (hT : TabAt w b) (i : Nat) (hi : i < 12) (hk : kindIx (splitB l).1 = some i) (hm : l.length ≤ maxLen) (ev : Ev) (hr : rdK i (splitB l).2 = some ev) (hf : fitsK i ev.keys ev.p ev.text ev.n ev.l = true) :
    Calls Tryd.prog 18 #[.map (some b), .string (B l)] w (PsPost (.bool true) (.bool false) (some { ev with kind := ((i + 1 : Nat) : Int) }) w) := by
  have C1 := fun w => Lib.hid (split_any (B l) w)
  rw [toList_B] at C1
  have C2 := fun w hT => Lib.hid (kindOf_any b (splitB l).1 w hT)
  have C3 := fun w => Lib.hid (read_any i hi (splitB l).2 w (Nat.le_trans (split_len l) hm))
  have e1 : kindNo (splitB l).1 = ((i + 1 : Nat) : Int) := by unfold kindNo; rw [hk]
  rw [e1, hk] at C2
  rw [hr] at C3
  have HLK := fun (W : World) (hT : TabAt W b) => Lib.hid (look_yes hT i hi false)
  rw [formAt_eq i hi] at HLK
  have hent := enter_any i hi
  have HF := fun va vc w hT hP hl => Lib.hid (fits_yes b i hi ev.keys va vc ev.p ev.text ev.n ev.l w hT hP hl)
  rw [hf] at HF
  clear e1 hk hr hm hf
  generalize ((i + 1 : Nat) : Int) = kd at *
  generalize rdTab i = rdf at *
  generalize splitB l = z at *
  obtain ⟨nm, rest⟩ := z
  go_enter Tryd.func18, Tryd.ntmps18
  go_wp2_with fail
  refine ((C1 _).out).mono ?_
  rintro e x1 ⟨rfl, k1, rfl⟩
  have hT1 := Lib.hid ((hT.alloc (.cells #[.int .i64 0, .string ⟨#[]⟩, .slice none 0 0, .string ⟨#[]⟩, .int .i64 0, .int .i64 0] 31)).drewN k1)
  have hE1 := Lib.hid ((EvBlock.new w (.int .i64 0) (.string ⟨#[]⟩) (.slice none 0 0) (.string ⟨#[]⟩) (.int .i64 0) (.int .i64 0)).drewN k1)
  have hb1 := Lib.hid (below_drewN ((Below.refl w.heap.size w).alloc (Nat.le_refl _) (.cells #[.int .i64 0, .string ⟨#[]⟩, .slice none 0 0, .string ⟨#[]⟩, .int .i64 0, .int .i64 0] 31)) k1)
  generalize (w.alloc (.cells #[.int .i64 0, .string ⟨#[]⟩, .slice none 0 0, .string ⟨#[]⟩, .int .i64 0, .int .i64 0] 31)).drewN k1 = x1 at *
  clear C1 hT
  go_wp2_with fail
  refine ((C2 _ hT1.out).out).mono ?_
  rintro e x2 ⟨rfl, hb2⟩
  have hT2 := Lib.hid (hT1.out.below hb2)
  have hE2 := Lib.hid (hE1.out.below hb2)
  have hbl2 := Lib.hid (hb1.out.trans (hb2.mono hb1.out.size))
  have hlk := (HLK x2 hT2.out).out
  have hfd := fun (c0 c1 c2 c3 c4 c5 c6 c7 c8 c9 c10 c11 : Value) (fn : Fn) => field_read c0 c1 c2 c3 c4 c5 c6 c7 c8 c9 c10 c11 fn x2
  clear C2 hb2 hT1 hE1 hb1 HLK
  go_wp2_with fail
  refine ((C3 _).out).mono ?_
  rintro e x3 ⟨⟨ev3, a3, n3, c3, rfl, hev⟩, hb3⟩
  have hT3 := Lib.hid (hT2.out.below hb3)
  have hE3 := Lib.hid (hE2.out.below hb3)
  have hbl3 := Lib.hid (hbl2.out.trans (hb3.mono hbl2.out.size))
  have h23 := Lib.hid hbl2.out.size
  have h23s := hb3.size
  have hbl2s : w.heap.size + 1 ≤ x2.heap.size := hE2.out.lt
  clear C3 hb3 hT2 hE2 hbl2 hlk hfd hent
  obtain ⟨rfl, hO⟩ := hev ev rfl
  clear hev
  obtain ⟨rfl, hl3⟩ := own_len hO
  have hP3 := Lib.hid (hO.pts)
  have hO3 := Lib.hid (hO.base hbl2s)
  have h33 := Lib.hid (Nat.le_trans h23.out h23s)
  clear hO
  have hE4 := Lib.hid (hE3.out.alloc (.cells #[.int .i64 kd, .string (B ev3.keys), .slice a3 ev3.p.length c3, .string (B ev3.text), .int .i64 ev3.n, .int .i64 ev3.l] 31))
  have hL4 := Lib.hid (EvBlock.new x3 (.int .i64 kd) (.string (B ev3.keys)) (.slice a3 ev3.p.length c3) (.string (B ev3.text)) (.int .i64 ev3.n) (.int .i64 ev3.l))
  have hT4 := Lib.hid (hT3.out.alloc (.cells #[.int .i64 kd, .string (B ev3.keys), .slice a3 ev3.p.length c3, .string (B ev3.text), .int .i64 ev3.n, .int .i64 ev3.l] 31))
  have hx34 : Below x3.heap.size x3 (x3.alloc (.cells #[.int .i64 kd, .string (B ev3.keys), .slice a3 ev3.p.length c3, .string (B ev3.text), .int .i64 ev3.n, .int .i64 ev3.l] 31)) := (Below.refl _ _).alloc (Nat.le_refl _) _
  have hP4 := Lib.hid ((hP3.out.below hx34).up hx34.size)
  have hO4 := Lib.hid (show OwnsP (x3.alloc (.cells #[.int .i64 kd, .string (B ev3.keys), .slice a3 ev3.p.length c3, .string (B ev3.text), .int .i64 ev3.n, .int .i64 ev3.l] 31)) (w.heap.size + 1) (.slice a3 ev3.p.length c3) ev3.p from World.ownsRow.alloc hO3.out _)
  have hbl4 := Lib.hid (hbl3.out.alloc hbl3.out.size (.cells #[.int .i64 kd, .string (B ev3.keys), .slice a3 ev3.p.length c3, .string (B ev3.text), .int .i64 ev3.n, .int .i64 ev3.l] 31))
  clear hx34 hT3 hE3 hP3 hO3 hbl3
  unfold evVal
  go_wp2_with fail
  refine ((HF _ _ _ hT4.out hP4.out hl3).out).mono ?_
  rintro e x4 ⟨rfl, hb4⟩
  have hE5 := Lib.hid (hE4.out.below hb4)
  have hL5 := Lib.hid (hL4.out.below hb4)
  have hbl5 := Lib.hid (hbl4.out.trans (hb4.mono hbl4.out.size))
  have hO5 := Lib.hid (hO4.out.later hb4)
  clear HF hb4 hE4 hL4 hT4 hP4 hO4 hbl4
  obtain ⟨g0, g1, g2, g3, g4, g5⟩ := hL5.out.cells
  go_wp2_with (first | (refine wpList_store_ev rfl _ _ rfl _ _ _ _ _ _ _ hE5.out rfl _ _ _ _ _ _ _ _ rfl ?_; intro W' hB' hg' hs'))
  refine ret_ev rfl rfl rfl hB' ?_
  exact PsPost.yes (ev := { ev3 with kind := kd }) rfl rfl ((hO5.out.grown hg' (by omega)).base (by omega)) (hbl5.out.grown hg' hbl5.out.size (by simp))

theorem parse_any (b : Nat) (l : List UInt8) (w : World) (hT : TabAt w b) (hm : l.length ≤ maxLen) :
    Calls Tryd.prog 18 #[.map (some b), .string (B l)] w (PsPost (.bool true) (.bool false) (parseS l) w) := by
  unfold parseS
  cases hk : kindIx (splitB l).1 with
  | none => exact parse_nokind b l w hT hk
  | some i =>
    have hi := (kindIx_some hk).1
    show Calls Tryd.prog 18 #[.map (some b), .string (B l)] w (PsPost (.bool true) (.bool false) (parseK i (splitB l).2) w)
    unfold parseK
    cases hr : rdK i (splitB l).2 with
    | none => exact parse_noread b l w hT i hi hk hm hr
    | some ev =>
      show Calls Tryd.prog 18 #[.map (some b), .string (B l)] w (PsPost (.bool true) (.bool false) (if fitsK i ev.keys ev.p ev.text ev.n ev.l then some { ev with kind := ((i + 1 : Nat) : Int) } else none) w)
      cases hf : fitsK i ev.keys ev.p ev.text ev.n ev.l with
      | false => exact parse_unfit b l w hT i hi hk hm ev hr hf
      | true => exact parse_fit b l w hT i hi hk hm ev hr hf
end Go.Proofs.YtmioocmjlbjfpaaDoor

/-
  What firstChain keeps in memory: the channel, the chains.
-/
import Derived.Test.YtadaijepalhohabDoorGC
import Derived.Test.YtadaijepalhohabDoorGB
import Derived.Test.YtadaijepalhohabDoorTI
import Derived.Test.YtadaijepalhohabDoorFJ
import Derived.Conc.LoneSelectN
namespace Go.Proofs.YtadaijepalhohabDoor
open Go.RowKit Go.Conc
open Pl

theorem make_chan (m : Nat) (hm1 : 1 ≤ m) (hm8 : m ≤ 8) (W : World) : (Instr.makeChan 68 (.int .i64 (m : Nat))).run Tryd.prog W = .ok (.chan (some W.heap.size)) (W.alloc (.chan m #[] false 0 0 false)) := by
  rcases (show m = 1 ∨ m = 2 ∨ m = 3 ∨ m = 4 ∨ m = 5 ∨ m = 6 ∨ m = 7 ∨ m = 8 by omega) with rfl | rfl | rfl | rfl | rfl | rfl | rfl | rfl <;> kernel_rfl
theorem make_lists (m : Nat) (hm1 : 1 ≤ m) (hm8 : m ≤ 8) (W : World) : (Instr.makeSlice 69 (.int .i64 (m : Nat)) (.int .i64 (m : Nat))).run Tryd.prog W = .ok (.slice (some ⟨W.heap.size, 0, none⟩) m m) (W.alloc (.cells (Array.replicate m (Value.slice none 0 0)) 35)) := by
  rcases (show m = 1 ∨ m = 2 ∨ m = 3 ∨ m = 4 ∨ m = 5 ∨ m = 6 ∨ m = 7 ∨ m = 8 by omega) with rfl | rfl | rfl | rfl | rfl | rfl | rfl | rfl <;> kernel_rfl
theorem setChan_same (w : World) (c cap : Nat) (buf : Array Value) (cl : Bool) (s r : Nat) (tm : Bool) (h : c < w.heap.size) : (w.setChan c cap buf cl s r tm).heap[c]? = some (.chan cap buf cl s r tm) := heap_setChan w c cap buf cl s r tm h
theorem setChan_other (w : World) (c cap : Nat) (buf : Array Value) (cl : Bool) (s r : Nat) (tm : Bool) {k : Nat} (h : k ≠ c) : (w.setChan c cap buf cl s r tm).heap[k]? = w.heap[k]? := by
  simp only [World.setChan]
  rw [Array.getElem?_setIfInBounds_ne (fun e => h e.symm)]
/-- The modes that wait, as the channel has them. -/
def bufQ (Q : List Nat) : Array Value := (Q.map fun (q : Nat) => Value.int .i64 (q : Int)).toArray
theorem bufQ_size (Q : List Nat) : (bufQ Q).size = Q.length := by simp [bufQ]
theorem bufQ_push (Q : List Nat) (t : Nat) : (bufQ Q).push (.int .i64 (t : Int)) = bufQ (Q ++ [t]) := by simp [bufQ]
theorem bufQ_head (h : Nat) (Q : List Nat) : (bufQ (h :: Q)).getD 0 undef = .int .i64 (h : Int) := by simp [bufQ]
theorem bufQ_tail (h : Nat) (Q : List Nat) : (bufQ (h :: Q)).extract 1 (bufQ (h :: Q)).size = bufQ Q := by
  apply Array.toList_inj.1
  simp [bufQ, List.extract]
  exact List.take_of_length_le (by simp)
def ChBlock (W : World) (c m r : Nat) (Q : List Nat) : Prop := ∃ s, W.heap[c]? = some (.chan m (bufQ Q) false s r false)
/-- How much has been received. -/
def recvs (W : World) (c : Nat) : Nat := match W.heap[c]? with
  | some (.chan _ _ _ _ r _) => r
  | _ => 0
theorem ChBlock.recvs {W : World} {c m r : Nat} {Q : List Nat} (h : ChBlock W c m r Q) : recvs W c = r := by
  obtain ⟨s, h⟩ := h
  unfold Go.Proofs.YtadaijepalhohabDoor.recvs
  rw [h]
theorem NumsOwn.keepAt {W W' : World} {base : Nat} {v : Value} {xs : List Int} (h : NumsOwn W base v xs) (hk : ∀ g, base ≤ g → g < W.heap.size → W'.heap[g]? = W.heap[g]?) : NumsOwn W' base v xs := by
  refine ⟨h.1, ?_⟩
  rcases h.2 with h0 | ⟨g, cap, cur, hv, hg, hh, r⟩
  · exact Or.inl h0
  · exact Or.inr ⟨g, cap, cur, hv, hg, by rw [hk g hg (lt_of_heap hh)]; exact hh, r⟩
theorem NumsOwn.base {W : World} {b b' : Nat} {v : Value} {xs : List Int} (h : NumsOwn W b v xs) (hb : b' ≤ b) : NumsOwn W b' v xs := World.ownsRow.mono h hb
/-- The chains that have been found. -/
def ListsAt (W : World) (g m : Nat) (C : Nat → List Nat) (D : List Nat) : Prop :=
  ∃ vs : List Value, vs.length = m ∧ W.heap[g]? = some (.cells vs.toArray 35 (0, 0)) ∧ ∀ d ∈ D, ∃ v, vs[d]? = some v ∧ NumsOwn W (g + 1) v (ints (C d))
theorem ListsAt.keep {W W' : World} {g m : Nat} {C : Nat → List Nat} {D : List Nat} (h : ListsAt W g m C D) (hk : ∀ k, g ≤ k → k < W.heap.size → W'.heap[k]? = W.heap[k]?) : ListsAt W' g m C D := by
  obtain ⟨vs, h1, h2, h3⟩ := h
  refine ⟨vs, h1, by rw [hk g (Nat.le_refl _) (lt_of_heap h2)]; exact h2, fun d hd => ?_⟩
  obtain ⟨v, h4, h5⟩ := h3 d hd
  exact ⟨v, h4, h5.keepAt fun k hk1 hk2 => hk k (by omega) hk2⟩
theorem ListsAt.below {W W' : World} {g m : Nat} {C : Nat → List Nat} {D : List Nat} (h : ListsAt W g m C D) (hb : Below W.heap.size W W') : ListsAt W' g m C D := h.keep fun k _ hk => hb.block k hk
theorem ListsAt.sub {W : World} {g m : Nat} {C : Nat → List Nat} {D D' : List Nat} (h : ListsAt W g m C D) (hs : ∀ d ∈ D', d ∈ D) : ListsAt W g m C D' := by
  obtain ⟨vs, h1, h2, h3⟩ := h
  exact ⟨vs, h1, h2, fun d hd => h3 d (hs d hd)⟩
theorem ListsAt.get {W : World} {g m : Nat} {C : Nat → List Nat} {D : List Nat} (h : ListsAt W g m C D) {d : Nat} (hd : d ∈ D) : ∃ a c, W.cell? ⟨g, d, none⟩ = some (.slice a (ints (C d)).length c) ∧ NumsOwn W (g + 1) (.slice a (ints (C d)).length c) (ints (C d)) := by
  obtain ⟨vs, h1, h2, h3⟩ := h
  obtain ⟨v, h4, h5⟩ := h3 d hd
  obtain ⟨a, c, rfl⟩ := h5.shape
  refine ⟨a, c, ?_, h5⟩
  have e : vs.toArray[d]? = some (.slice a (ints (C d)).length c) := by simpa using h4
  simp only [World.cell?, h2]
  simpa using e
theorem ListsAt.free {W : World} {g m : Nat} {C : Nat → List Nat} {D : List Nat} (h : ListsAt W g m C D) (d : Nat) : W.frozen? ⟨g, d, none⟩ = false := by
  obtain ⟨vs, h1, h2, h3⟩ := h
  simp [World.frozen?, h2]
theorem ListsAt.any {W : World} {g m : Nat} {C : Nat → List Nat} {D : List Nat} (h : ListsAt W g m C D) {d : Nat} (hd : d < m) : ∃ v, W.cell? ⟨g, d, none⟩ = some v := by
  obtain ⟨vs, h1, h2, h3⟩ := h
  refine ⟨vs[d]'(by omega), ?_⟩
  simp only [World.cell?, h2]
  simp [h1, hd]
theorem ListsAt.put {W : World} {g m : Nat} {C : Nat → List Nat} {D D' : List Nat} {t : Nat} {l : List Nat} {v : Value} (h : ListsAt W g m C D) (ht : t < m) (hn : t ∉ D) (hv : NumsOwn W (g + 1) v (ints l)) (hD : ∀ d ∈ D', d ∈ D ∨ d = t) :
    ListsAt (W.setCell ⟨g, t, none⟩ v) g m (put C t l) D' := by
  obtain ⟨vs, h1, h2, h3⟩ := h
  have hk : ∀ k, g + 1 ≤ k → k < W.heap.size → (W.setCell ⟨g, t, none⟩ v).heap[k]? = W.heap[k]? := fun k hk _ => heap_setCell_other W _ k _ (by show k ≠ g; omega)
  refine ⟨vs.set t v, by simp [h1], ?_, fun d hd => ?_⟩
  · rw [heap_setCell_same W g t _ _ _ h2]
    simp
  · rcases hD d hd with h4 | rfl
    · have hne : d ≠ t := fun e => hn (e ▸ h4)
      obtain ⟨u, h5, h6⟩ := h3 d h4
      refine ⟨u, ?_, ?_⟩
      · rw [List.getElem?_set_ne (fun e => hne e.symm)]; exact h5
      · rw [put_other C l hne]; exact h6.keepAt hk
    · refine ⟨v, by rw [List.getElem?_set_self (by omega)], ?_⟩
      rw [put_same]; exact hv.keepAt hk
theorem ListsAt.start {W : World} {g m st : Nat} (h : W.heap[g]? = some (.cells (Array.replicate m (Value.slice none 0 0)) 35 (0, 0))) (hst : st < m) : ListsAt W g m (fun _ => []) [st] := by
  refine ⟨List.replicate m (Value.slice none 0 0), by simp, by rw [List.toArray_replicate]; exact h, fun d hd => ?_⟩
  obtain rfl : d = st := by simpa using hd
  exact ⟨.slice none 0 0, by simp [hst], NumsOwn.nil _ _⟩
/-- What the search keeps. -/
def FcW (w : World) (m acc : Nat) (sv : Value) (r : Nat) (Q : List Nat) (C : Nat → List Nat) (D : List Nat) (W : World) : Prop :=
  SchBlock W w.heap.size (.int .i64 (m : Nat)) (.int .u8 (acc : Nat)) sv ∧ ChBlock W (w.heap.size + 1) m r Q ∧ ListsAt W (w.heap.size + 2) m C D ∧ Below w.heap.size w W ∧ w.heap.size + 3 ≤ W.heap.size
theorem FcW.into {w W W' : World} {m acc r : Nat} {sv : Value} {Q D : List Nat} {C : Nat → List Nat} (h : FcW w m acc sv r Q C D W) (hb : Below W.heap.size W W') : FcW w m acc sv r Q C D W' := by
  obtain ⟨h1, ⟨s, h2⟩, h3, h4, h5⟩ := h
  exact ⟨h1.below hb, ⟨s, by rw [hb.block _ (lt_of_heap h2)]; exact h2⟩, h3.below hb, h4.trans (hb.mono h4.size), Nat.le_trans h5 hb.size⟩
theorem FcW.chan {w W : World} {m acc r r' s' : Nat} {sv : Value} {Q Q' D : List Nat} {C : Nat → List Nat} (h : FcW w m acc sv r Q C D W) : FcW w m acc sv r' Q' C D (W.setChan (w.heap.size + 1) m (bufQ Q') false s' r' false) := by
  obtain ⟨h1, ⟨s, h2⟩, h3, h4, h5⟩ := h
  refine ⟨?_, ⟨s', setChan_same W _ _ _ _ _ _ _ (lt_of_heap h2)⟩, ?_, below_setChan h4 (by omega) _ _ _ _ _ _, by rw [size_setChan]; exact h5⟩
  · unfold SchBlock at h1 ⊢
    rw [setChan_other W _ _ _ _ _ _ _ (by omega)]; exact h1
  · exact h3.keep fun k hk _ => setChan_other W _ _ _ _ _ _ _ (by omega)
theorem FcW.sub {w W : World} {m acc r : Nat} {sv : Value} {Q D D' : List Nat} {C : Nat → List Nat} (h : FcW w m acc sv r Q C D W) (hs : ∀ d ∈ D', d ∈ D) : FcW w m acc sv r Q C D' W :=
  ⟨h.1, h.2.1, h.2.2.1.sub hs, h.2.2.2⟩
theorem FcW.put {w W : World} {m acc r t : Nat} {sv v : Value} {Q D D' l : List Nat} {C : Nat → List Nat} (h : FcW w m acc sv r Q C D W) (ht : t < m) (hn : t ∉ D) (hv : NumsOwn W (w.heap.size + 3) v (ints l)) (hD : ∀ d ∈ D', d ∈ D ∨ d = t) :
    FcW w m acc sv r Q (Go.Proofs.YtadaijepalhohabDoor.put C t l) D' (W.setCell ⟨w.heap.size + 2, t, none⟩ v) := by
  obtain ⟨h1, ⟨s, h2⟩, h3, h4, h5⟩ := h
  refine ⟨h1.setCellK (by omega), ⟨s, ?_⟩, h3.put ht hn hv hD, h4.setCell (by show w.heap.size ≤ w.heap.size + 2; omega) _, by simpa using h5⟩
  rw [heap_setCell_other W _ _ _ (by show w.heap.size + 1 ≠ w.heap.size + 2; omega)]; exact h2
end Go.Proofs.YtadaijepalhohabDoor

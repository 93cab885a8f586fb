/-
  The reference's Parse answers what the package's Parse answers.
-/
import Derived.Test.YtmioocmjlbjfpaaDoorRQ
import Derived.Test.YtmioocmjlbjfpaaDoorKK
import Derived.Test.YtmioocmjlbjfpaaDoorFP
import Derived.Test.YtmioocmjlbjfpaaDoorFQ
import Derived.Deep.RegionHeld3
namespace Go.Proofs.YtmioocmjlbjfpaaDoor
open Go.RowKit
open Pl

/-- fill, whatever the kind is. -/
theorem fill_any (k : Nat) (h1 : 1 ≤ k) (h2 : k < 13) (fs : List (List UInt8)) (v : Value) (w : World) (hx : StrsAt w w.heap.size v fs) (hl : ∀ f ∈ fs, f.length ≤ 1000000) (hm : fs.length ≤ 1000000) :
    Calls Tryd.prog 21 #[.int .i64 (k : Int), v] w (FiPost k fs w) := by
  rcases (show k = 1 ∨ k = 2 ∨ k = 3 ∨ k = 4 ∨ k = 5 ∨ k = 6 ∨ k = 7 ∨ k = 8 ∨ k = 9 ∨ k = 10 ∨ k = 11 ∨ k = 12 by omega) with rfl | rfl | rfl | rfl | rfl | rfl | rfl | rfl | rfl | rfl | rfl | rfl
  · exact fill_1 fs v w hx hl hm
  · exact fill_2 fs v w hx hl hm
  · exact fill_3 fs v w hx hl hm
  · exact fill_4 fs v w hx hl hm
  · exact fill_5 fs v w hx hl hm
  · exact fill_6 fs v w hx hl hm
  · exact fill_7 fs v w hx hl hm
  · exact fill_8 fs v w hx hl hm
  · exact fill_9 fs v w hx hl hm
  · exact fill_10 fs v w hx hl hm
  · exact fill_11 fs v w hx hl hm
  · exact fill_12 fs v w hx hl hm

theorem StrsOwn.at {W : World} {b : Nat} {g c : Nat} {ps : List (List UInt8)} (h : StrsOwn W b (.slice (some ⟨g, 0, none⟩) ps.length c) ps) : StrsAt W W.heap.size (.slice (some ⟨g, 0, none⟩) ps.length c) ps := by
  have hlt := (World.ownsRow.lt h g rfl).2
  refine ⟨_, _, rfl, fun _ => ⟨g, 0, rfl, hlt, fun i hi => ?_⟩⟩
  have hk := World.ownsRow.cells h rfl i (.string (B ps[i])) (by unfold strCells; simp [hi])
  rw [add_none] at hk
  exact hk
theorem StrsOwn.ptr {W : World} {b : Nat} {v : Value} {ps : List (List UInt8)} (h : StrsOwn W b v ps) (hne : v ≠ .slice none 0 0) : ∃ g c, v = .slice (some ⟨g, 0, none⟩) ps.length c ∧ ps.length ≤ c ∧ c ≤ maxLen := by
  rcases h.2 with ⟨h0, _⟩ | ⟨g, cap, cur, hv, _, _, hn, hm, _⟩
  · exact absurd h0 hne
  · exact ⟨g, cap, hv, hn, hm⟩
theorem StrsAt.tail {W : World} {g c c' : Nat} {p : List UInt8} {fs : List (List UInt8)} (h : StrsAt W W.heap.size (.slice (some ⟨g, 0, none⟩) (fs.length + 1) c) (p :: fs)) : StrsAt W W.heap.size (.slice (some ⟨g, 1, none⟩) fs.length c') fs := by
  obtain ⟨a, c0, hv, hc⟩ := h
  obtain ⟨b, off, ha, hlt, hc⟩ := hc (by simp)
  obtain ⟨h1, -⟩ : some (⟨g, 0, none⟩ : Addr) = a ∧ c = c0 := by simpa using hv
  rw [← h1] at ha
  obtain ⟨rfl, rfl⟩ : g = b ∧ 0 = off := by simpa using ha
  refine ⟨_, _, rfl, fun _ => ⟨g, 1, rfl, hlt, fun i hi => ?_⟩⟩
  have := hc (i + 1) (by simp; omega)
  rw [show 0 + (i + 1) = 1 + i by omega] at this
  simpa using this
theorem parts_small (c : UInt8) : ∀ (s cur : List UInt8), ∀ p ∈ splitS c cur s, p.length ≤ cur.length + s.length
  | [], cur, p, hp => by
    simp only [splitS, List.mem_singleton] at hp
    subst hp; simp
  | x :: r, cur, p, hp => by
    by_cases h : x = c
    · subst h
      rw [split_step_eq] at hp
      rcases List.mem_cons.1 hp with rfl | hp
      · simp
      · have := parts_small x r [] p hp
        simp at this ⊢; omega
    · rw [split_step_ne h] at hp
      have := parts_small c r _ p hp
      simp at this ⊢; omega
theorem parts_cons (c : UInt8) (s : List UInt8) : ∃ p fs, splitS c [] s = p :: fs := by
  have := (parts_len c s []).1
  cases h : splitS c [] s with
  | nil => rw [h] at this; simp at this
  | cons p fs => exact ⟨p, fs, rfl⟩
def evOr : Option Ev → Ev
  | none => Ev.zero
  | some ev => ev
theorem oneOf_mem {fs : List (List UInt8)} {n : Nat} (h : ∀ f ∈ fs, f.length ≤ n) : (oneOf fs).length ≤ n := by
  match fs, h with
  | [], _ => exact Nat.zero_le _
  | [a], h => exact h a (by simp)
  | _ :: _ :: _, _ => exact Nat.zero_le _
theorem ptsOf_len : ∀ fs : List (List UInt8), (ptsOf fs).length ≤ fs.length
  | [] => Nat.le_refl _
  | [_] => Nat.zero_le _
  | a :: b :: r => by
    have := ptsOf_len r
    show (ptsOf r).length + 1 ≤ r.length + 1 + 1
    omega
theorem fillS_small (k : Nat) {fs : List (List UInt8)} {n : Nat} (h : ∀ f ∈ fs, f.length ≤ n) : (fillS k fs).keys.length ≤ n ∧ (fillS k fs).text.length ≤ n ∧ (fillS k fs).p.length ≤ fs.length := by
  refine ⟨?_, ?_, ?_⟩
  · show (if k = 1 ∨ k = 2 then oneOf fs else []).length ≤ n
    split
    · exact oneOf_mem h
    · exact Nat.zero_le _
  · show (if k = 5 then oneOf fs else []).length ≤ n
    split
    · exact oneOf_mem h
    · exact Nat.zero_le _
  · show (if k = 3 ∨ k = 4 then ptsOf fs else []).length ≤ fs.length
    split
    · exact ptsOf_len fs
    · exact Nat.zero_le _
theorem wordOf_pos {k : Nat} (h : 1 ≤ k) : wordOf k = nameTab (k - 1) := by
  cases k with
  | zero => omega
  | succ n => rfl

/-- What both Parse functions hand back. -/
def RpPost (s : List UInt8) (w : World) (e : Ending) (w' : World) : Prop :=
  ∃ a c, e = .returned (.tuple #[evV (evOr (parseS s)) a c, .int .i64 (if (parseS s).isSome then 0 else 3)]) ∧ OwnsP w' w.heap.size (.slice a (evOr (parseS s)).p.length c) (evOr (parseS s)).p ∧ Below w.heap.size w w'
theorem RpPost.no {s : List UInt8} {w w' : World} (h : parseS s = none) (hb : Below w.heap.size w w') : RpPost s w (.returned (.tuple #[.agg #[.int .i64 0, .string ⟨#[]⟩, .slice none 0 0, .string ⟨#[]⟩, .int .i64 0, .int .i64 0], .int .i64 3])) w' := by
  unfold RpPost; rw [h]
  exact ⟨none, 0, rfl, OwnsP.nil _ _, hb⟩
theorem RpPost.yes {s : List UInt8} {w w' : World} {ev : Ev} {a : Option Addr} {c : Nat} (h : parseS s = some ev) (hP : OwnsP w' w.heap.size (.slice a ev.p.length c) ev.p) (hb : Below w.heap.size w w') : RpPost s w (.returned (.tuple #[evV ev a c, .int .i64 0])) w' := by
  unfold RpPost; rw [h]
  exact ⟨a, c, rfl, hP, hb⟩
theorem strs_none {W : World} (a : Option Addr) (c : Nat) {fs : List (List UInt8)} (h : fs.length = 0) : StrsAt W W.heap.size (.slice a fs.length c) fs := ⟨a, c, rfl, fun hp => by omega⟩

set_option maxHeartbeats 2000000 in
set_option maxRecDepth 100000 in
theorem RParse_any (s : List UInt8) (w : World) (hs : s.length ≤ 100000) :
    Calls Tryd.prog 8 #[.string (B s)] w (RpPost s w) := by
  have hA : Below w.heap.size w (w.alloc (.cells #[.int .i64 0, .string ⟨#[]⟩, .slice none 0 0, .string ⟨#[]⟩, .int .i64 0, .int .i64 0] 31)) := (Below.refl _ _).alloc (Nat.le_refl _) _
  have E0 := Lib.hid (EvBlock.new w (.int .i64 0) (.string ⟨#[]⟩) (.slice none 0 0) (.string ⟨#[]⟩) (.int .i64 0) (.int .i64 0))
  have CS := fun W => Lib.hid (Split_any (B s) 32 W (by rw [size_B]; omega))
  have HA := Lib.hid hA
  clear hA
  obtain ⟨p, fs, hparts⟩ := parts_cons 32 s
  have Hparts := Lib.hid hparts
  have Hlen := Lib.hid (show fs.length ≤ 100000 by have := (parts_len 32 s []).2; rw [hparts] at this; simp at this; omega)
  have Hsm := Lib.hid (show ∀ f ∈ fs, f.length ≤ 100000 from fun f hf => by
    have := parts_small 32 s [] f (by rw [hparts]; exact List.mem_cons_of_mem _ hf)
    simp at this; omega)
  clear hparts
  go_enter Tryd.func8, Tryd.ntmps8
  go_wp2_with fail
  refine ((CS _).out).mono ?_
  rintro e x1 ⟨v, rfl, hO, hne, hb⟩
  rw [toList_B, Hparts.out] at hO
  obtain ⟨g, c, rfl, hc1, hc2⟩ := hO.ptr hne
  have HF1 := Lib.hid hO.at
  have E1 := Lib.hid (E0.out.below hb)
  have HB1 := Lib.hid (HA.out.trans (hb.mono HA.out.size))
  clear CS hO hne hb E0 HA
  go_wp2_with fail
  refine (words_any _).mono ?_
  rintro e x2 ⟨rfl, hw, -, hgl, hb⟩
  have HW := Lib.hid hw
  have HF2 := Lib.hid (HF1.out.on hb)
  have E2 := Lib.hid (E1.out.below hb)
  have HB2 := Lib.hid (HB1.out.trans (hb.mono HB1.out.size))
  have Hgl := Lib.hid hgl
  have Hx12 := Lib.hid hb.size
  clear hw hb hgl HF1 E1 HB1
  go_wp2_with fail
  go_loopw [6] (fun i wr => ∃ k : Nat, i = .int .i64 k ∧ 1 ≤ k ∧ k ≤ 13 ∧ (∀ j, 1 ≤ j → j < k → ¬ Hit s j) ∧ Below x2.heap.size x2 wr) (fun i _ => 13 - (intOf i).toNat)
  case atStart => exact ⟨1, rfl, Nat.le_refl _, by omega, fun j h1 h2 => by omega, Below.refl _ _⟩
  case round =>
    obtain ⟨k, rfl, hk1, hk13, hno, hb⟩ := hrel
    have HNo := Lib.hid hno
    have HB := Lib.hid hb
    clear hno
    by_cases hlt : k < 13
    · have hkl : (k : Int) < 13 := by omega
      have hk0 : (0 : Int) ≤ (k : Int) := by omega
      have q1 : wr.cell? ⟨x1.heap.size, k, none⟩ = some (.string (B (nameTab (k - 1)))) := by
        have h := HW.out (k - 1) (by omega)
        rw [show k - 1 + 1 = k by omega] at h
        exact (hb.cell (p := ⟨x1.heap.size, k, none⟩) Hgl.out).trans h
      have HFr := Lib.hid (HF2.out.on hb)
      have q2 : wr.cell? ⟨g, 0, none⟩ = some (.string (B p)) := by
        obtain ⟨a0, c0, hv, hc⟩ := HFr.out
        obtain ⟨b0, off, ha, _, hc⟩ := hc (by simp)
        obtain ⟨h1, -⟩ : some (⟨g, 0, none⟩ : Addr) = a0 ∧ c = c0 := by simpa using hv
        rw [← h1] at ha
        obtain ⟨rfl, rfl⟩ : g = b0 ∧ 0 = off := by simpa using ha
        exact hc 0 (by simp)
      have hp0 : (0 : Int) < (((p :: fs).length : Nat) : Int) := by simp
      clear hb
      go_wp2_with fail
      go_region_held3 (fun W => W.cell? ⟨x1.heap.size, k, none⟩ = some (.string (B (nameTab (k - 1)))) ∧ W.cell? ⟨g, 0, none⟩ = some (.string (B p))) (first | assumption | (refine ⟨?_, ?_⟩ <;> simpa)) (fail)
      have HB3 := Lib.hid (HB.out.drew)
      have HF3 := Lib.hid (show StrsAt wr.drew wr.drew.heap.size (.slice (some ⟨g, 0, none⟩) (fs.length + 1) c) (p :: fs) from HF2.out.on HB3.out)
      clear HB HFr q1 q2
      generalize wr.drew = w3 at *
      by_cases hw : nameTab (k - 1) = p
      · have hne : (!((B (nameTab (k - 1))).toList == (B p).toList)) = false := by rw [str_eq]; simp [hw]
        rw [hne]
        clear hne
        have h1c : (1 : Int) ≤ ((fs.length + 1 : Nat) : Int) := by omega
        have h1d : ((fs.length + 1 : Nat) : Int) ≤ (c : Int) := by have h : fs.length + 1 ≤ c := hc1; omega
        have Hhit := Lib.hid (show validB (fillS k fs) = true → printS (fillS k fs) = s → parseS s = some (fillS k fs) from fun h1 h2 => by
          have h : Hit s k := ⟨by rw [Hparts.out, wordOf_pos hk1, hw]; rfl, by rw [Hparts.out]; exact h1, by rw [Hparts.out]; exact h2⟩
          have := hit_read h
          rw [Hparts.out] at this
          exact this)
        have Hnot := Lib.hid (show ¬ (validB (fillS k fs) = true ∧ printS (fillS k fs) = s) → ¬ Hit s k from fun hn h => hn (by
          have h1 := h.2.1
          have h2 := h.2.2
          rw [Hparts.out] at h1 h2
          exact ⟨h1, h2⟩))
        have HSm := Lib.hid (fillS_small k Hsm.out)
        have CF := fun v (hv : StrsAt w3 w3.heap.size v fs) => Lib.hid (fill_any k hk1 hlt fs v w3 hv (fun f hf => by have := Hsm.out f hf; omega) (by have := Hlen.out; omega))
        unfold FiPost at CF
        generalize fillS k fs = ev at *
        clear hw
        go_wp2_with fail
        all_goals
          (try (have hcc : c = 1 := by assumption); (try subst hcc))
          refine ((CF _ (by first | exact HF3.out.tail | exact strs_none _ _ (by omega))).out).mono ?_
          rintro e x4 ⟨⟨a, ec, rfl, hP⟩, hb4⟩
          have hal := below_alloc x4 (.cells #[.int .i64 ev.kind, .string (B ev.keys), .slice a ev.p.length ec, .string (B ev.text), .int .i64 ev.n, .int .i64 ev.l] 31)
          have HB5 := Lib.hid ((HB3.out.trans (hb4.mono HB3.out.size)).trans (hal.mono (Nat.le_trans HB3.out.size hb4.size)))
          have HO5 := Lib.hid ((show OwnsP x4 x2.heap.size (.slice a ev.p.length ec) ev.p from World.ownsRow.mono hP HB3.out.size).later hal)
          have E5 := Lib.hid (EvBlock.new x4 (.int .i64 ev.kind) (.string (B ev.keys)) (.slice a ev.p.length ec) (.string (B ev.text)) (.int .i64 ev.n) (.int .i64 ev.l))
          clear hb4 hal hP CF
          obtain ⟨k0, k1, k2, k3, k4, k5⟩ := E5.out.cells
          go_wp2_with fail
          refine (RValid_any ev.kind ev.keys a ec ev.p ev.text ev.n ev.l _ HO5.out.pts (by have := HSm.out.2.2; have := Hlen.out; omega) (by have := HSm.out.1; omega) (by have := HSm.out.2.1; omega)).mono ?_
          rintro e x6 ⟨rfl, hb6⟩
          have HB6 := Lib.hid (HB5.out.trans (hb6.mono HB5.out.size))
          have HO6 := Lib.hid (HO5.out.later hb6)
          have E6 := Lib.hid (E5.out.below hb6)
          clear hb6 HB5 HO5 E5 k0 k1 k2 k3 k4 k5
          obtain ⟨k0, k1, k2, k3, k4, k5⟩ := E6.out.cells
          cases hv : validB ev with
          | false =>
            have Hnk := Lib.hid (Hnot.out (fun h => by rw [hv] at h; exact absurd h.1 (by decide)))
            clear hv
            go_wp2_with fail
            go_roundw
            case rel => exact ⟨k + 1, by go_num, by omega, by omega, fun j h1 h2 => by by_cases h : j = k; (subst h; exact Hnk.out); exact HNo.out j h1 (by omega), HB6.out⟩
            case measure => simp [intOf]; omega
          | true =>
            have HV := Lib.hid hv
            clear hv
            go_wp2_with fail
            refine (rprint_ev ev HV.out a ec _ HO6.out.pts).mono ?_
            rintro e x7 ⟨rfl, hb7⟩
            have HB7 := Lib.hid (HB6.out.trans (hb7.mono HB6.out.size))
            have HO7 := Lib.hid (HO6.out.later hb7)
            have E7 := E6.out.below hb7
            clear hb7 HB6 HO6 E6 k0 k1 k2 k3 k4 k5
            obtain ⟨k0, k1, k2, k3, k4, k5⟩ := E7.cells
            clear E7
            by_cases hp : printS ev = s
            · have hq : ((B (printS ev)).toList == (B s).toList) = true := by rw [str_eq]; simp [hp]
              have Hr := Lib.hid (Hhit.out HV.out hp)
              have ER := E2.out.below HB7.out
              have hwx : w.heap.size < x2.heap.size := E2.out.lt
              clear hp
              go_wp2_with (first | (refine wpList_store_ev rfl _ _ rfl _ _ _ _ _ _ _ ER rfl _ _ _ _ _ _ _ _ rfl ?_; intro W' hB' hg' hs'))
              refine ret_ev rfl rfl rfl hB' ?_
              exact RpPost.yes Hr.out (World.ownsRow.mono (HO7.out.grown hg' (by omega)) (by omega)) ((HB2.out.trans (HB7.out.mono HB2.out.size)).grown hg' (Nat.le_trans HB2.out.size HB7.out.size) (by simp))
            · have hq : ((B (printS ev)).toList == (B s).toList) = false := by rw [str_eq]; simp [hp]
              have Hnk := Lib.hid (Hnot.out (fun h => hp h.2))
              clear hp
              go_wp2_with fail
              go_roundw
              case rel => exact ⟨k + 1, by go_num, by omega, by omega, fun j h1 h2 => by by_cases h : j = k; (subst h; exact Hnk.out); exact HNo.out j h1 (by omega), HB7.out⟩
              case measure => simp [intOf]; omega
      · have hne : (!((B (nameTab (k - 1))).toList == (B p).toList)) = true := by rw [str_eq]; simp [hw]
        have Hnk := Lib.hid (show ¬ Hit s k from fun h => by
          have := h.1
          rw [Hparts.out, wordOf_pos hk1] at this
          exact hw (by simpa using this.symm))
        rw [hne]
        clear hne hw
        go_wp2_with fail
        go_roundw
        case rel => exact ⟨k + 1, by go_num, by omega, by omega, fun j h1 h2 => by by_cases h : j = k; (subst h; exact Hnk.out); exact HNo.out j h1 (by omega), HB3.out⟩
        case measure => simp [intOf]; omega
    · have hkl : ¬ (k : Int) < 13 := by omega
      obtain rfl : k = 13 := by omega
      have Hn := Lib.hid (no_hit (fun j h1 h2 => HNo.out j h1 h2))
      have E3 := E2.out.below hb
      clear hlt
      go_wp2_with (first | (refine wpList_store_ev rfl _ _ rfl _ _ _ _ _ _ _ E3 rfl _ _ _ _ _ _ _ _ rfl ?_; intro W' hB' hg' hs'))
      refine ret_ev rfl rfl rfl hB' ?_
      exact RpPost.no Hn.out ((HB2.out.trans (hb.mono HB2.out.size)).grown hg' (Nat.le_trans HB2.out.size hb.size) (by simp))
end Go.Proofs.YtmioocmjlbjfpaaDoor

/-
  The walk of the law EventLimits: it answers true, whatever its three numbers are.
-/
import Derived.Test.YtmccbkhagdklgaaDoorBB
namespace Go.Proofs.YtmccbkhagdklgaaDoor
open Go.RowKit
open Pl

def cd (r : Bool) : Int := if r then 0 else 3
theorem cd_eq (r : Bool) : (cd r == 0) = r := by cases r <;> rfl
theorem parse_code (s : ByteArray) (l : List UInt8) (r : Bool) (hs : s = B l) (h : (parseS l).isSome = r) (hm : l.length ≤ 1000000) (w : World) :
    Calls Tryd.prog 13 #[.string s] w fun e w' => (∃ k ky a n c tx nn ll, e = .returned (.tuple #[.agg #[.int .i64 k, .string ky, .slice a n c, .string tx, .int .i64 nn, .int .i64 ll], .int .i64 (cd r)])) ∧ Below w.heap.size w w' := by
  subst hs; subst h
  cases hp : parseS l with
  | none =>
    refine (parse_bad l hp hm w).mono ?_
    rintro e w' ⟨rfl, hb⟩
    exact ⟨⟨_, _, _, _, _, _, _, _, rfl⟩, hb⟩
  | some ev =>
    refine (parse_good l ev hp hm w).mono ?_
    rintro e w' ⟨⟨a, c, rfl, _⟩, hb⟩
    exact ⟨⟨_, _, _, _, _, _, _, _, rfl⟩, hb⟩
abbrev Codes (s : ByteArray) (r : Bool) (w : World) : Prop := Calls Tryd.prog 13 #[.string s] w fun e w' => (∃ k ky a n c tx nn ll, e = .returned (.tuple #[.agg #[.int .i64 k, .string ky, .slice a n c, .string tx, .int .i64 nn, .int .i64 ll], .int .i64 (cd r)])) ∧ Below w.heap.size w w'
theorem lit_app (a b : List UInt8) : (⟨a.toArray⟩ : ByteArray) ++ B b = B (a ++ b) := B_app a b
theorem app_lit (a b : List UInt8) : B a ++ (⟨b.toArray⟩ : ByteArray) = B (a ++ b) := B_app a b
theorem decsize (v : Nat) (hv : v < 10000) : (B (Lib.decDigits v)).size ≤ 4 := by rw [size_B]; exact dec_len 3 v hv
theorem c_m1 (v : Nat) (hv : v < 10000) (w : World) : Codes ((⟨#[116, 111, 117, 99, 104, 32]⟩ : ByteArray) ++ B (Lib.decDigits v) ++ (⟨#[32, 48]⟩ : ByteArray)) (decide ((v : Int) ≤ 1000)) w := parse_code ((⟨#[116, 111, 117, 99, 104, 32]⟩ : ByteArray) ++ B (Lib.decDigits v) ++ (⟨#[32, 48]⟩ : ByteArray)) _ _ (by rw [lit_app [116, 111, 117, 99, 104, 32], app_lit _ [32, 48], List.append_assoc]; rfl) (m1 v hv) (by have := dec_len 3 v hv; simp; omega) w
theorem c_m2 (v : Nat) (hv : v < 10000) (w : World) : Codes ((⟨#[116, 111, 117, 99, 104, 32, 48, 32]⟩ : ByteArray) ++ B (Lib.decDigits v)) (decide ((v : Int) ≤ 1000)) w := parse_code ((⟨#[116, 111, 117, 99, 104, 32, 48, 32]⟩ : ByteArray) ++ B (Lib.decDigits v)) _ _ (by rw [lit_app [116, 111, 117, 99, 104, 32, 48, 32]]; rfl) (m2 v hv) (by have := dec_len 3 v hv; simp; omega) w
theorem c_m3 (v : Nat) (hv : v < 10000) (w : World) : Codes ((⟨#[104, 111, 108, 100, 32]⟩ : ByteArray) ++ B (Lib.decDigits v) ++ (⟨#[32, 49]⟩ : ByteArray)) (decide ((v : Int) ≤ 39)) w := parse_code ((⟨#[104, 111, 108, 100, 32]⟩ : ByteArray) ++ B (Lib.decDigits v) ++ (⟨#[32, 49]⟩ : ByteArray)) _ _ (by rw [lit_app [104, 111, 108, 100, 32], app_lit _ [32, 49], List.append_assoc]; rfl) (m3 v hv) (by have := dec_len 3 v hv; simp; omega) w
theorem c_m4 (v : Nat) (hv : v < 10000) (r : Bool) (hr : (decide (1 ≤ (v : Int)) && decide ((v : Int) ≤ 40)) = r) (w : World) : Codes ((⟨#[104, 111, 108, 100, 32, 48, 32]⟩ : ByteArray) ++ B (Lib.decDigits v)) r w := parse_code ((⟨#[104, 111, 108, 100, 32, 48, 32]⟩ : ByteArray) ++ B (Lib.decDigits v)) _ r (by rw [lit_app [104, 111, 108, 100, 32, 48, 32]]; rfl) ((m4 v hv).trans hr) (by have := dec_len 3 v hv; simp; omega) w
theorem c_m5 (v : Nat) (hv : v < 10000) (w : World) : Codes ((⟨#[99, 104, 111, 111, 115, 101, 32]⟩ : ByteArray) ++ B (Lib.decDigits v)) (decide ((v : Int) ≤ 49)) w := parse_code ((⟨#[99, 104, 111, 111, 115, 101, 32]⟩ : ByteArray) ++ B (Lib.decDigits v)) _ _ (by rw [lit_app [99, 104, 111, 111, 115, 101, 32]]; rfl) (m5 v hv) (by have := dec_len 3 v hv; simp; omega) w
theorem c_m6 (k : Nat) (hk : k < 15) (r : Bool) (hr : (decide (2 ≤ (k : Int)) && decide ((k : Int) ≤ 12)) = r) (w : World) : Codes (B (strk k)) r w := parse_code (B (strk k)) _ r rfl ((m6 k hk).trans hr) (by rw [strk_len]; omega) w
theorem c_m7 (k : Nat) (hk : k < 24) (r : Bool) (hr : (decide (1 ≤ (k : Int)) && decide ((k : Int) ≤ 20)) = r) (w : World) : Codes (B (pst k)) r w := parse_code (B (pst k)) _ r rfl ((m7 k hk).trans hr) (by rw [pst_len]; omega) w
theorem strk_cat (k : Nat) : B (strk k) ++ (⟨#[32, 55, 32, 56]⟩ : ByteArray) = B (strk (k + 1)) := app_lit (strk k) [32, 55, 32, 56]
theorem pst_cat (k : Nat) : B (pst k) ++ (⟨#[122]⟩ : ByteArray) = B (pst (k + 1)) := app_lit (pst k) [122]
theorem wpList_cat {ops : Array Oper} {rest : List Oper} {o : Oper} {a : Act} {W : World} {Q : Exit → Act → World → Prop} (hg : o.guard = none) (x y : Operand) (t : TypeId) (hop : o.op = Op.binOp .add 9 x y t)
    (s1 s2 : ByteArray) (hx : a.eval x = .string s1) (hy : a.eval y = .string s2) (h : s1.size + s2.size ≤ 9223372036854775807)
    (hK : wpList Tryd.prog ops Q rest (a.put o.dst (.string (s1 ++ s2))) W) : wpList Tryd.prog ops Q (o :: rest) a W := by
  refine wpList_plain hg fun K' hK' => ?_
  have hrun := run_string_add_sum (P := Tryd.prog) W s1 s2 h
  have hb : (binOp .add 9 (.string s1) (.string s2)).run Tryd.prog W = .ok (.string (s1 ++ s2)) W := by rw [binOp_string_add]; exact hrun
  unfold Oper.wp
  simp [execOp, hop, hx, hy, hb, eqGuard, Result.andThen]
  exact hK' _ _ hK
theorem pst_add (t : Nat) (ht : t < 24) : (B (pst t)).size + (⟨#[122]⟩ : ByteArray).size ≤ 9223372036854775807 := by
  have : (⟨#[122]⟩ : ByteArray).size = 1 := rfl
  rw [this, size_B, pst_len]; omega
theorem strk_size (k : Nat) (hk : k < 15) : (B (strk k)).size ≤ 100 := by rw [size_B, strk_len]; omega
theorem pst_size (k : Nat) (hk : k < 24) : (B (pst k)).size ≤ 100 := by rw [size_B, pst_len]; omega

set_option maxHeartbeats 4000000 in
set_option maxRecDepth 100000 in
theorem limits_case0 (m n p q : Int) (v k1 k2 : Nat) (w : World) (hT : PowTab w) (hm : MaxVar w m) (hw0 : 0 < w.heap.size) (hn0 : 0 ≤ n) (hn1 : n ≤ 65535) (hp0 : 0 ≤ p) (hp1 : p ≤ 255) (hq0 : 0 ≤ q) (hq1 : q ≤ 255)
    (hv : n % 1101 = (v : Int)) (hp : p % 15 = (k1 : Int)) (hq : q % 24 = (k2 : Int)) (hv1 : ¬ 1 ≤ (v : Int)) (hk1 : ¬ 2 ≤ (k1 : Int)) (hk2 : ¬ 1 ≤ (k2 : Int)) :
    Calls Tryd.prog 9 #[.int .u16 n, .int .u8 p, .int .u8 q] w fun e w' => e = .returned (.bool true) ∧ Below w.heap.size w w' := by
  have hvb : (v : Int) ≤ 1100 := by omega
  have hv0 : (0 : Int) ≤ (v : Int) := by omega
  have hk1b : (k1 : Int) ≤ 14 := by omega
  have hk10 : (0 : Int) ≤ (k1 : Int) := by omega
  have hk2b : (k2 : Int) ≤ 23 := by omega
  have hk20 : (0 : Int) ≤ (k2 : Int) := by omega
  have C0 := Lib.hid (sanity_any m w hT hm hw0)
  have CD := fun W => Lib.hid (decimal_any 3 v W (by omega) (by omega))
  have C1 := fun W => Lib.hid (c_m1 v (by omega) W)
  have C2 := fun W => Lib.hid (c_m2 v (by omega) W)
  have C3 := fun W => Lib.hid (c_m3 v (by omega) W)
  have C4 := fun W => Lib.hid (c_m4 v (by omega) false (by rw [decide_eq_false hv1]; rfl) W)
  have C5 := fun W => Lib.hid (c_m5 v (by omega) W)
  have C6 := fun W => Lib.hid (c_m6 k1 (by omega) false (by rw [decide_eq_false hk1]; rfl) W)
  have C7 := fun W => Lib.hid (c_m7 k2 (by omega) false (by rw [decide_eq_false hk2]; rfl) W)
  have hds := decsize v (by omega)
  have hcd := cd_eq
  clear hT hm hw0
  generalize B (Lib.decDigits v) = bd at *
  go_enter Tryd.func9, Tryd.ntmps9
  go_wp2_with fail
  refine (C0.out).mono ?_
  rintro e x0 ⟨rfl, hb0⟩
  have H0 := Lib.hid hb0
  clear hb0 C0
  go_wp2_with fail
  refine ((CD _).out).mono ?_
  rintro e x1 ⟨rfl, hb1⟩
  have H1 := Lib.hid (H0.out.trans (hb1.mono H0.out.size))
  clear hb1 CD H0
  go_wp2_with fail
  refine ((C1 _).out).mono ?_
  rintro e x2 ⟨⟨ka1, kb1, kc1, kd1, ke1, kf1, kg1, kh1, rfl⟩, hb⟩
  have H2 := Lib.hid ((H1.out.trans (hb.mono H1.out.size)).alloc (Nat.le_trans H1.out.size hb.size) (.cells #[.int .i64 ka1, .string kb1, .slice kc1 kd1 ke1, .string kf1, .int .i64 kg1, .int .i64 kh1] 31))
  clear hb C1 H1
  go_wp2_with fail
  refine ((C2 _).out).mono ?_
  rintro e x3 ⟨⟨ka2, kb2, kc2, kd2, ke2, kf2, kg2, kh2, rfl⟩, hb⟩
  have H3 := Lib.hid ((H2.out.trans (hb.mono H2.out.size)).alloc (Nat.le_trans H2.out.size hb.size) (.cells #[.int .i64 ka2, .string kb2, .slice kc2 kd2 ke2, .string kf2, .int .i64 kg2, .int .i64 kh2] 31))
  clear hb C2 H2
  go_wp2_with fail
  refine ((C3 _).out).mono ?_
  rintro e x4 ⟨⟨ka3, kb3, kc3, kd3, ke3, kf3, kg3, kh3, rfl⟩, hb⟩
  have H4 := Lib.hid ((H3.out.trans (hb.mono H3.out.size)).alloc (Nat.le_trans H3.out.size hb.size) (.cells #[.int .i64 ka3, .string kb3, .slice kc3 kd3 ke3, .string kf3, .int .i64 kg3, .int .i64 kh3] 31))
  clear hb C3 H3
  go_wp2_with fail
  refine ((C4 _).out).mono ?_
  rintro e x5 ⟨⟨ka4, kb4, kc4, kd4, ke4, kf4, kg4, kh4, rfl⟩, hb⟩
  have H5 := Lib.hid ((H4.out.trans (hb.mono H4.out.size)).alloc (Nat.le_trans H4.out.size hb.size) (.cells #[.int .i64 ka4, .string kb4, .slice kc4 kd4 ke4, .string kf4, .int .i64 kg4, .int .i64 kh4] 31))
  clear hb C4 H4
  go_wp2_with fail
  refine ((C5 _).out).mono ?_
  rintro e x6 ⟨⟨ka5, kb5, kc5, kd5, ke5, kf5, kg5, kh5, rfl⟩, hb⟩
  have H6 := Lib.hid ((H5.out.trans (hb.mono H5.out.size)).alloc (Nat.le_trans H5.out.size hb.size) (.cells #[.int .i64 ka5, .string kb5, .slice kc5 kd5 ke5, .string kf5, .int .i64 kg5, .int .i64 kh5] 31))
  clear hb C5 H5
  go_wp2_with fail
  go_loop [20, 21] (fun s i => ∃ j : Nat, j ≤ k1 ∧ i = .int .i64 j ∧ s = .string (B (strk j))) (fun _ i => k1 - (intOf i).toNat)
  case atStart => exact ⟨0, Nat.zero_le _, rfl, rfl⟩
  case round =>
    obtain ⟨j, hj, rfl, rfl⟩ := hrel
    by_cases hlt : (j : Int) < (k1 : Int)
    · have hs := strk_size j (by omega)
      have E := Lib.hid (strk_cat j)
      generalize B (strk j) = sj at *
      go_wp2_with fail
      go_round
      case rel => exact ⟨j + 1, by omega, by go_num, by rw [← E.out]⟩
      case measure => simp [intOf]; omega
    · obtain rfl : j = k1 := by omega
      go_wp2_with fail
      go_loop [22, 23] (fun s i => ∃ t : Nat, t ≤ k2 ∧ i = .int .i64 t ∧ s = .string (B (pst t))) (fun _ i => k2 - (intOf i).toNat)
      case atStart => exact ⟨0, Nat.zero_le _, rfl, rfl⟩
      case round =>
        obtain ⟨t, ht, rfl, rfl⟩ := hrel
        by_cases hlt2 : (t : Int) < (k2 : Int)
        · have hcat := Lib.hid (pst_add t (by omega))
          have E := Lib.hid (pst_cat t)
          generalize B (pst t) = st at *
          go_wp2_with (first | (refine wpList_cat rfl _ _ _ rfl st ⟨#[122]⟩ rfl rfl hcat.out ?_))
          go_round
          case rel => exact ⟨t + 1, by omega, by go_num, by rw [← E.out]⟩
          case measure => simp [intOf]; omega
        · obtain rfl : t = k2 := by omega
          go_wp2_with fail
          refine ((C6 _).out).mono ?_
          rintro e x7 ⟨⟨ka7, kb7, kc7, kd7, ke7, kf7, kg7, kh7, rfl⟩, hb⟩
          have H7 := Lib.hid ((H6.out.trans (hb.mono H6.out.size)).alloc (Nat.le_trans H6.out.size hb.size) (.cells #[.int .i64 ka7, .string kb7, .slice kc7 kd7 ke7, .string kf7, .int .i64 kg7, .int .i64 kh7] 31))
          clear hb C6
          go_wp2_with fail
          refine ((C7 _).out).mono ?_
          rintro e x8 ⟨⟨ka8, kb8, kc8, kd8, ke8, kf8, kg8, kh8, rfl⟩, hb⟩
          have H8 := Lib.hid ((H7.out.trans (hb.mono H7.out.size)).alloc (Nat.le_trans H7.out.size hb.size) (.cells #[.int .i64 ka8, .string kb8, .slice kc8 kd8 ke8, .string kf8, .int .i64 kg8, .int .i64 kh8] 31))
          clear hb C7
          go_wp2_with fail
          go_ret
          exact ⟨rfl, H8.out⟩

set_option maxHeartbeats 4000000 in
set_option maxRecDepth 100000 in
theorem limits_case1 (m n p q : Int) (v k1 k2 : Nat) (w : World) (hT : PowTab w) (hm : MaxVar w m) (hw0 : 0 < w.heap.size) (hn0 : 0 ≤ n) (hn1 : n ≤ 65535) (hp0 : 0 ≤ p) (hp1 : p ≤ 255) (hq0 : 0 ≤ q) (hq1 : q ≤ 255)
    (hv : n % 1101 = (v : Int)) (hp : p % 15 = (k1 : Int)) (hq : q % 24 = (k2 : Int)) (hv1 : 1 ≤ (v : Int)) (hk1 : ¬ 2 ≤ (k1 : Int)) (hk2 : ¬ 1 ≤ (k2 : Int)) :
    Calls Tryd.prog 9 #[.int .u16 n, .int .u8 p, .int .u8 q] w fun e w' => e = .returned (.bool true) ∧ Below w.heap.size w w' := by
  have hvb : (v : Int) ≤ 1100 := by omega
  have hv0 : (0 : Int) ≤ (v : Int) := by omega
  have hk1b : (k1 : Int) ≤ 14 := by omega
  have hk10 : (0 : Int) ≤ (k1 : Int) := by omega
  have hk2b : (k2 : Int) ≤ 23 := by omega
  have hk20 : (0 : Int) ≤ (k2 : Int) := by omega
  have C0 := Lib.hid (sanity_any m w hT hm hw0)
  have CD := fun W => Lib.hid (decimal_any 3 v W (by omega) (by omega))
  have C1 := fun W => Lib.hid (c_m1 v (by omega) W)
  have C2 := fun W => Lib.hid (c_m2 v (by omega) W)
  have C3 := fun W => Lib.hid (c_m3 v (by omega) W)
  have C4 := fun W => Lib.hid (c_m4 v (by omega) (decide ((v : Int) ≤ 40)) (by rw [decide_eq_true hv1]; rfl) W)
  have C5 := fun W => Lib.hid (c_m5 v (by omega) W)
  have C6 := fun W => Lib.hid (c_m6 k1 (by omega) false (by rw [decide_eq_false hk1]; rfl) W)
  have C7 := fun W => Lib.hid (c_m7 k2 (by omega) false (by rw [decide_eq_false hk2]; rfl) W)
  have hds := decsize v (by omega)
  have hcd := cd_eq
  clear hT hm hw0
  generalize B (Lib.decDigits v) = bd at *
  go_enter Tryd.func9, Tryd.ntmps9
  go_wp2_with fail
  refine (C0.out).mono ?_
  rintro e x0 ⟨rfl, hb0⟩
  have H0 := Lib.hid hb0
  clear hb0 C0
  go_wp2_with fail
  refine ((CD _).out).mono ?_
  rintro e x1 ⟨rfl, hb1⟩
  have H1 := Lib.hid (H0.out.trans (hb1.mono H0.out.size))
  clear hb1 CD H0
  go_wp2_with fail
  refine ((C1 _).out).mono ?_
  rintro e x2 ⟨⟨ka1, kb1, kc1, kd1, ke1, kf1, kg1, kh1, rfl⟩, hb⟩
  have H2 := Lib.hid ((H1.out.trans (hb.mono H1.out.size)).alloc (Nat.le_trans H1.out.size hb.size) (.cells #[.int .i64 ka1, .string kb1, .slice kc1 kd1 ke1, .string kf1, .int .i64 kg1, .int .i64 kh1] 31))
  clear hb C1 H1
  go_wp2_with fail
  refine ((C2 _).out).mono ?_
  rintro e x3 ⟨⟨ka2, kb2, kc2, kd2, ke2, kf2, kg2, kh2, rfl⟩, hb⟩
  have H3 := Lib.hid ((H2.out.trans (hb.mono H2.out.size)).alloc (Nat.le_trans H2.out.size hb.size) (.cells #[.int .i64 ka2, .string kb2, .slice kc2 kd2 ke2, .string kf2, .int .i64 kg2, .int .i64 kh2] 31))
  clear hb C2 H2
  go_wp2_with fail
  refine ((C3 _).out).mono ?_
  rintro e x4 ⟨⟨ka3, kb3, kc3, kd3, ke3, kf3, kg3, kh3, rfl⟩, hb⟩
  have H4 := Lib.hid ((H3.out.trans (hb.mono H3.out.size)).alloc (Nat.le_trans H3.out.size hb.size) (.cells #[.int .i64 ka3, .string kb3, .slice kc3 kd3 ke3, .string kf3, .int .i64 kg3, .int .i64 kh3] 31))
  clear hb C3 H3
  go_wp2_with fail
  refine ((C4 _).out).mono ?_
  rintro e x5 ⟨⟨ka4, kb4, kc4, kd4, ke4, kf4, kg4, kh4, rfl⟩, hb⟩
  have H5 := Lib.hid ((H4.out.trans (hb.mono H4.out.size)).alloc (Nat.le_trans H4.out.size hb.size) (.cells #[.int .i64 ka4, .string kb4, .slice kc4 kd4 ke4, .string kf4, .int .i64 kg4, .int .i64 kh4] 31))
  clear hb C4 H4
  go_wp2_with fail
  refine ((C5 _).out).mono ?_
  rintro e x6 ⟨⟨ka5, kb5, kc5, kd5, ke5, kf5, kg5, kh5, rfl⟩, hb⟩
  have H6 := Lib.hid ((H5.out.trans (hb.mono H5.out.size)).alloc (Nat.le_trans H5.out.size hb.size) (.cells #[.int .i64 ka5, .string kb5, .slice kc5 kd5 ke5, .string kf5, .int .i64 kg5, .int .i64 kh5] 31))
  clear hb C5 H5
  go_wp2_with fail
  go_loop [20, 21] (fun s i => ∃ j : Nat, j ≤ k1 ∧ i = .int .i64 j ∧ s = .string (B (strk j))) (fun _ i => k1 - (intOf i).toNat)
  case atStart => exact ⟨0, Nat.zero_le _, rfl, rfl⟩
  case round =>
    obtain ⟨j, hj, rfl, rfl⟩ := hrel
    by_cases hlt : (j : Int) < (k1 : Int)
    · have hs := strk_size j (by omega)
      have E := Lib.hid (strk_cat j)
      generalize B (strk j) = sj at *
      go_wp2_with fail
      go_round
      case rel => exact ⟨j + 1, by omega, by go_num, by rw [← E.out]⟩
      case measure => simp [intOf]; omega
    · obtain rfl : j = k1 := by omega
      go_wp2_with fail
      go_loop [22, 23] (fun s i => ∃ t : Nat, t ≤ k2 ∧ i = .int .i64 t ∧ s = .string (B (pst t))) (fun _ i => k2 - (intOf i).toNat)
      case atStart => exact ⟨0, Nat.zero_le _, rfl, rfl⟩
      case round =>
        obtain ⟨t, ht, rfl, rfl⟩ := hrel
        by_cases hlt2 : (t : Int) < (k2 : Int)
        · have hcat := Lib.hid (pst_add t (by omega))
          have E := Lib.hid (pst_cat t)
          generalize B (pst t) = st at *
          go_wp2_with (first | (refine wpList_cat rfl _ _ _ rfl st ⟨#[122]⟩ rfl rfl hcat.out ?_))
          go_round
          case rel => exact ⟨t + 1, by omega, by go_num, by rw [← E.out]⟩
          case measure => simp [intOf]; omega
        · obtain rfl : t = k2 := by omega
          go_wp2_with fail
          refine ((C6 _).out).mono ?_
          rintro e x7 ⟨⟨ka7, kb7, kc7, kd7, ke7, kf7, kg7, kh7, rfl⟩, hb⟩
          have H7 := Lib.hid ((H6.out.trans (hb.mono H6.out.size)).alloc (Nat.le_trans H6.out.size hb.size) (.cells #[.int .i64 ka7, .string kb7, .slice kc7 kd7 ke7, .string kf7, .int .i64 kg7, .int .i64 kh7] 31))
          clear hb C6
          go_wp2_with fail
          refine ((C7 _).out).mono ?_
          rintro e x8 ⟨⟨ka8, kb8, kc8, kd8, ke8, kf8, kg8, kh8, rfl⟩, hb⟩
          have H8 := Lib.hid ((H7.out.trans (hb.mono H7.out.size)).alloc (Nat.le_trans H7.out.size hb.size) (.cells #[.int .i64 ka8, .string kb8, .slice kc8 kd8 ke8, .string kf8, .int .i64 kg8, .int .i64 kh8] 31))
          clear hb C7
          go_wp2_with fail
          go_ret
          exact ⟨rfl, H8.out⟩

set_option maxHeartbeats 4000000 in
set_option maxRecDepth 100000 in
theorem limits_case2 (m n p q : Int) (v k1 k2 : Nat) (w : World) (hT : PowTab w) (hm : MaxVar w m) (hw0 : 0 < w.heap.size) (hn0 : 0 ≤ n) (hn1 : n ≤ 65535) (hp0 : 0 ≤ p) (hp1 : p ≤ 255) (hq0 : 0 ≤ q) (hq1 : q ≤ 255)
    (hv : n % 1101 = (v : Int)) (hp : p % 15 = (k1 : Int)) (hq : q % 24 = (k2 : Int)) (hv1 : ¬ 1 ≤ (v : Int)) (hk1 : 2 ≤ (k1 : Int)) (hk2 : ¬ 1 ≤ (k2 : Int)) :
    Calls Tryd.prog 9 #[.int .u16 n, .int .u8 p, .int .u8 q] w fun e w' => e = .returned (.bool true) ∧ Below w.heap.size w w' := by
  have hvb : (v : Int) ≤ 1100 := by omega
  have hv0 : (0 : Int) ≤ (v : Int) := by omega
  have hk1b : (k1 : Int) ≤ 14 := by omega
  have hk10 : (0 : Int) ≤ (k1 : Int) := by omega
  have hk2b : (k2 : Int) ≤ 23 := by omega
  have hk20 : (0 : Int) ≤ (k2 : Int) := by omega
  have C0 := Lib.hid (sanity_any m w hT hm hw0)
  have CD := fun W => Lib.hid (decimal_any 3 v W (by omega) (by omega))
  have C1 := fun W => Lib.hid (c_m1 v (by omega) W)
  have C2 := fun W => Lib.hid (c_m2 v (by omega) W)
  have C3 := fun W => Lib.hid (c_m3 v (by omega) W)
  have C4 := fun W => Lib.hid (c_m4 v (by omega) false (by rw [decide_eq_false hv1]; rfl) W)
  have C5 := fun W => Lib.hid (c_m5 v (by omega) W)
  have C6 := fun W => Lib.hid (c_m6 k1 (by omega) (decide ((k1 : Int) ≤ 12)) (by rw [decide_eq_true hk1]; rfl) W)
  have C7 := fun W => Lib.hid (c_m7 k2 (by omega) false (by rw [decide_eq_false hk2]; rfl) W)
  have hds := decsize v (by omega)
  have hcd := cd_eq
  clear hT hm hw0
  generalize B (Lib.decDigits v) = bd at *
  go_enter Tryd.func9, Tryd.ntmps9
  go_wp2_with fail
  refine (C0.out).mono ?_
  rintro e x0 ⟨rfl, hb0⟩
  have H0 := Lib.hid hb0
  clear hb0 C0
  go_wp2_with fail
  refine ((CD _).out).mono ?_
  rintro e x1 ⟨rfl, hb1⟩
  have H1 := Lib.hid (H0.out.trans (hb1.mono H0.out.size))
  clear hb1 CD H0
  go_wp2_with fail
  refine ((C1 _).out).mono ?_
  rintro e x2 ⟨⟨ka1, kb1, kc1, kd1, ke1, kf1, kg1, kh1, rfl⟩, hb⟩
  have H2 := Lib.hid ((H1.out.trans (hb.mono H1.out.size)).alloc (Nat.le_trans H1.out.size hb.size) (.cells #[.int .i64 ka1, .string kb1, .slice kc1 kd1 ke1, .string kf1, .int .i64 kg1, .int .i64 kh1] 31))
  clear hb C1 H1
  go_wp2_with fail
  refine ((C2 _).out).mono ?_
  rintro e x3 ⟨⟨ka2, kb2, kc2, kd2, ke2, kf2, kg2, kh2, rfl⟩, hb⟩
  have H3 := Lib.hid ((H2.out.trans (hb.mono H2.out.size)).alloc (Nat.le_trans H2.out.size hb.size) (.cells #[.int .i64 ka2, .string kb2, .slice kc2 kd2 ke2, .string kf2, .int .i64 kg2, .int .i64 kh2] 31))
  clear hb C2 H2
  go_wp2_with fail
  refine ((C3 _).out).mono ?_
  rintro e x4 ⟨⟨ka3, kb3, kc3, kd3, ke3, kf3, kg3, kh3, rfl⟩, hb⟩
  have H4 := Lib.hid ((H3.out.trans (hb.mono H3.out.size)).alloc (Nat.le_trans H3.out.size hb.size) (.cells #[.int .i64 ka3, .string kb3, .slice kc3 kd3 ke3, .string kf3, .int .i64 kg3, .int .i64 kh3] 31))
  clear hb C3 H3
  go_wp2_with fail
  refine ((C4 _).out).mono ?_
  rintro e x5 ⟨⟨ka4, kb4, kc4, kd4, ke4, kf4, kg4, kh4, rfl⟩, hb⟩
  have H5 := Lib.hid ((H4.out.trans (hb.mono H4.out.size)).alloc (Nat.le_trans H4.out.size hb.size) (.cells #[.int .i64 ka4, .string kb4, .slice kc4 kd4 ke4, .string kf4, .int .i64 kg4, .int .i64 kh4] 31))
  clear hb C4 H4
  go_wp2_with fail
  refine ((C5 _).out).mono ?_
  rintro e x6 ⟨⟨ka5, kb5, kc5, kd5, ke5, kf5, kg5, kh5, rfl⟩, hb⟩
  have H6 := Lib.hid ((H5.out.trans (hb.mono H5.out.size)).alloc (Nat.le_trans H5.out.size hb.size) (.cells #[.int .i64 ka5, .string kb5, .slice kc5 kd5 ke5, .string kf5, .int .i64 kg5, .int .i64 kh5] 31))
  clear hb C5 H5
  go_wp2_with fail
  go_loop [20, 21] (fun s i => ∃ j : Nat, j ≤ k1 ∧ i = .int .i64 j ∧ s = .string (B (strk j))) (fun _ i => k1 - (intOf i).toNat)
  case atStart => exact ⟨0, Nat.zero_le _, rfl, rfl⟩
  case round =>
    obtain ⟨j, hj, rfl, rfl⟩ := hrel
    by_cases hlt : (j : Int) < (k1 : Int)
    · have hs := strk_size j (by omega)
      have E := Lib.hid (strk_cat j)
      generalize B (strk j) = sj at *
      go_wp2_with fail
      go_round
      case rel => exact ⟨j + 1, by omega, by go_num, by rw [← E.out]⟩
      case measure => simp [intOf]; omega
    · obtain rfl : j = k1 := by omega
      go_wp2_with fail
      go_loop [22, 23] (fun s i => ∃ t : Nat, t ≤ k2 ∧ i = .int .i64 t ∧ s = .string (B (pst t))) (fun _ i => k2 - (intOf i).toNat)
      case atStart => exact ⟨0, Nat.zero_le _, rfl, rfl⟩
      case round =>
        obtain ⟨t, ht, rfl, rfl⟩ := hrel
        by_cases hlt2 : (t : Int) < (k2 : Int)
        · have hcat := Lib.hid (pst_add t (by omega))
          have E := Lib.hid (pst_cat t)
          generalize B (pst t) = st at *
          go_wp2_with (first | (refine wpList_cat rfl _ _ _ rfl st ⟨#[122]⟩ rfl rfl hcat.out ?_))
          go_round
          case rel => exact ⟨t + 1, by omega, by go_num, by rw [← E.out]⟩
          case measure => simp [intOf]; omega
        · obtain rfl : t = k2 := by omega
          go_wp2_with fail
          refine ((C6 _).out).mono ?_
          rintro e x7 ⟨⟨ka7, kb7, kc7, kd7, ke7, kf7, kg7, kh7, rfl⟩, hb⟩
          have H7 := Lib.hid ((H6.out.trans (hb.mono H6.out.size)).alloc (Nat.le_trans H6.out.size hb.size) (.cells #[.int .i64 ka7, .string kb7, .slice kc7 kd7 ke7, .string kf7, .int .i64 kg7, .int .i64 kh7] 31))
          clear hb C6
          go_wp2_with fail
          refine ((C7 _).out).mono ?_
          rintro e x8 ⟨⟨ka8, kb8, kc8, kd8, ke8, kf8, kg8, kh8, rfl⟩, hb⟩
          have H8 := Lib.hid ((H7.out.trans (hb.mono H7.out.size)).alloc (Nat.le_trans H7.out.size hb.size) (.cells #[.int .i64 ka8, .string kb8, .slice kc8 kd8 ke8, .string kf8, .int .i64 kg8, .int .i64 kh8] 31))
          clear hb C7
          go_wp2_with fail
          go_ret
          exact ⟨rfl, H8.out⟩

set_option maxHeartbeats 4000000 in
set_option maxRecDepth 100000 in
theorem limits_case3 (m n p q : Int) (v k1 k2 : Nat) (w : World) (hT : PowTab w) (hm : MaxVar w m) (hw0 : 0 < w.heap.size) (hn0 : 0 ≤ n) (hn1 : n ≤ 65535) (hp0 : 0 ≤ p) (hp1 : p ≤ 255) (hq0 : 0 ≤ q) (hq1 : q ≤ 255)
    (hv : n % 1101 = (v : Int)) (hp : p % 15 = (k1 : Int)) (hq : q % 24 = (k2 : Int)) (hv1 : 1 ≤ (v : Int)) (hk1 : 2 ≤ (k1 : Int)) (hk2 : ¬ 1 ≤ (k2 : Int)) :
    Calls Tryd.prog 9 #[.int .u16 n, .int .u8 p, .int .u8 q] w fun e w' => e = .returned (.bool true) ∧ Below w.heap.size w w' := by
  have hvb : (v : Int) ≤ 1100 := by omega
  have hv0 : (0 : Int) ≤ (v : Int) := by omega
  have hk1b : (k1 : Int) ≤ 14 := by omega
  have hk10 : (0 : Int) ≤ (k1 : Int) := by omega
  have hk2b : (k2 : Int) ≤ 23 := by omega
  have hk20 : (0 : Int) ≤ (k2 : Int) := by omega
  have C0 := Lib.hid (sanity_any m w hT hm hw0)
  have CD := fun W => Lib.hid (decimal_any 3 v W (by omega) (by omega))
  have C1 := fun W => Lib.hid (c_m1 v (by omega) W)
  have C2 := fun W => Lib.hid (c_m2 v (by omega) W)
  have C3 := fun W => Lib.hid (c_m3 v (by omega) W)
  have C4 := fun W => Lib.hid (c_m4 v (by omega) (decide ((v : Int) ≤ 40)) (by rw [decide_eq_true hv1]; rfl) W)
  have C5 := fun W => Lib.hid (c_m5 v (by omega) W)
  have C6 := fun W => Lib.hid (c_m6 k1 (by omega) (decide ((k1 : Int) ≤ 12)) (by rw [decide_eq_true hk1]; rfl) W)
  have C7 := fun W => Lib.hid (c_m7 k2 (by omega) false (by rw [decide_eq_false hk2]; rfl) W)
  have hds := decsize v (by omega)
  have hcd := cd_eq
  clear hT hm hw0
  generalize B (Lib.decDigits v) = bd at *
  go_enter Tryd.func9, Tryd.ntmps9
  go_wp2_with fail
  refine (C0.out).mono ?_
  rintro e x0 ⟨rfl, hb0⟩
  have H0 := Lib.hid hb0
  clear hb0 C0
  go_wp2_with fail
  refine ((CD _).out).mono ?_
  rintro e x1 ⟨rfl, hb1⟩
  have H1 := Lib.hid (H0.out.trans (hb1.mono H0.out.size))
  clear hb1 CD H0
  go_wp2_with fail
  refine ((C1 _).out).mono ?_
  rintro e x2 ⟨⟨ka1, kb1, kc1, kd1, ke1, kf1, kg1, kh1, rfl⟩, hb⟩
  have H2 := Lib.hid ((H1.out.trans (hb.mono H1.out.size)).alloc (Nat.le_trans H1.out.size hb.size) (.cells #[.int .i64 ka1, .string kb1, .slice kc1 kd1 ke1, .string kf1, .int .i64 kg1, .int .i64 kh1] 31))
  clear hb C1 H1
  go_wp2_with fail
  refine ((C2 _).out).mono ?_
  rintro e x3 ⟨⟨ka2, kb2, kc2, kd2, ke2, kf2, kg2, kh2, rfl⟩, hb⟩
  have H3 := Lib.hid ((H2.out.trans (hb.mono H2.out.size)).alloc (Nat.le_trans H2.out.size hb.size) (.cells #[.int .i64 ka2, .string kb2, .slice kc2 kd2 ke2, .string kf2, .int .i64 kg2, .int .i64 kh2] 31))
  clear hb C2 H2
  go_wp2_with fail
  refine ((C3 _).out).mono ?_
  rintro e x4 ⟨⟨ka3, kb3, kc3, kd3, ke3, kf3, kg3, kh3, rfl⟩, hb⟩
  have H4 := Lib.hid ((H3.out.trans (hb.mono H3.out.size)).alloc (Nat.le_trans H3.out.size hb.size) (.cells #[.int .i64 ka3, .string kb3, .slice kc3 kd3 ke3, .string kf3, .int .i64 kg3, .int .i64 kh3] 31))
  clear hb C3 H3
  go_wp2_with fail
  refine ((C4 _).out).mono ?_
  rintro e x5 ⟨⟨ka4, kb4, kc4, kd4, ke4, kf4, kg4, kh4, rfl⟩, hb⟩
  have H5 := Lib.hid ((H4.out.trans (hb.mono H4.out.size)).alloc (Nat.le_trans H4.out.size hb.size) (.cells #[.int .i64 ka4, .string kb4, .slice kc4 kd4 ke4, .string kf4, .int .i64 kg4, .int .i64 kh4] 31))
  clear hb C4 H4
  go_wp2_with fail
  refine ((C5 _).out).mono ?_
  rintro e x6 ⟨⟨ka5, kb5, kc5, kd5, ke5, kf5, kg5, kh5, rfl⟩, hb⟩
  have H6 := Lib.hid ((H5.out.trans (hb.mono H5.out.size)).alloc (Nat.le_trans H5.out.size hb.size) (.cells #[.int .i64 ka5, .string kb5, .slice kc5 kd5 ke5, .string kf5, .int .i64 kg5, .int .i64 kh5] 31))
  clear hb C5 H5
  go_wp2_with fail
  go_loop [20, 21] (fun s i => ∃ j : Nat, j ≤ k1 ∧ i = .int .i64 j ∧ s = .string (B (strk j))) (fun _ i => k1 - (intOf i).toNat)
  case atStart => exact ⟨0, Nat.zero_le _, rfl, rfl⟩
  case round =>
    obtain ⟨j, hj, rfl, rfl⟩ := hrel
    by_cases hlt : (j : Int) < (k1 : Int)
    · have hs := strk_size j (by omega)
      have E := Lib.hid (strk_cat j)
      generalize B (strk j) = sj at *
      go_wp2_with fail
      go_round
      case rel => exact ⟨j + 1, by omega, by go_num, by rw [← E.out]⟩
      case measure => simp [intOf]; omega
    · obtain rfl : j = k1 := by omega
      go_wp2_with fail
      go_loop [22, 23] (fun s i => ∃ t : Nat, t ≤ k2 ∧ i = .int .i64 t ∧ s = .string (B (pst t))) (fun _ i => k2 - (intOf i).toNat)
      case atStart => exact ⟨0, Nat.zero_le _, rfl, rfl⟩
      case round =>
        obtain ⟨t, ht, rfl, rfl⟩ := hrel
        by_cases hlt2 : (t : Int) < (k2 : Int)
        · have hcat := Lib.hid (pst_add t (by omega))
          have E := Lib.hid (pst_cat t)
          generalize B (pst t) = st at *
          go_wp2_with (first | (refine wpList_cat rfl _ _ _ rfl st ⟨#[122]⟩ rfl rfl hcat.out ?_))
          go_round
          case rel => exact ⟨t + 1, by omega, by go_num, by rw [← E.out]⟩
          case measure => simp [intOf]; omega
        · obtain rfl : t = k2 := by omega
          go_wp2_with fail
          refine ((C6 _).out).mono ?_
          rintro e x7 ⟨⟨ka7, kb7, kc7, kd7, ke7, kf7, kg7, kh7, rfl⟩, hb⟩
          have H7 := Lib.hid ((H6.out.trans (hb.mono H6.out.size)).alloc (Nat.le_trans H6.out.size hb.size) (.cells #[.int .i64 ka7, .string kb7, .slice kc7 kd7 ke7, .string kf7, .int .i64 kg7, .int .i64 kh7] 31))
          clear hb C6
          go_wp2_with fail
          refine ((C7 _).out).mono ?_
          rintro e x8 ⟨⟨ka8, kb8, kc8, kd8, ke8, kf8, kg8, kh8, rfl⟩, hb⟩
          have H8 := Lib.hid ((H7.out.trans (hb.mono H7.out.size)).alloc (Nat.le_trans H7.out.size hb.size) (.cells #[.int .i64 ka8, .string kb8, .slice kc8 kd8 ke8, .string kf8, .int .i64 kg8, .int .i64 kh8] 31))
          clear hb C7
          go_wp2_with fail
          go_ret
          exact ⟨rfl, H8.out⟩

set_option maxHeartbeats 4000000 in
set_option maxRecDepth 100000 in
theorem limits_case4 (m n p q : Int) (v k1 k2 : Nat) (w : World) (hT : PowTab w) (hm : MaxVar w m) (hw0 : 0 < w.heap.size) (hn0 : 0 ≤ n) (hn1 : n ≤ 65535) (hp0 : 0 ≤ p) (hp1 : p ≤ 255) (hq0 : 0 ≤ q) (hq1 : q ≤ 255)
    (hv : n % 1101 = (v : Int)) (hp : p % 15 = (k1 : Int)) (hq : q % 24 = (k2 : Int)) (hv1 : ¬ 1 ≤ (v : Int)) (hk1 : ¬ 2 ≤ (k1 : Int)) (hk2 : 1 ≤ (k2 : Int)) :
    Calls Tryd.prog 9 #[.int .u16 n, .int .u8 p, .int .u8 q] w fun e w' => e = .returned (.bool true) ∧ Below w.heap.size w w' := by
  have hvb : (v : Int) ≤ 1100 := by omega
  have hv0 : (0 : Int) ≤ (v : Int) := by omega
  have hk1b : (k1 : Int) ≤ 14 := by omega
  have hk10 : (0 : Int) ≤ (k1 : Int) := by omega
  have hk2b : (k2 : Int) ≤ 23 := by omega
  have hk20 : (0 : Int) ≤ (k2 : Int) := by omega
  have C0 := Lib.hid (sanity_any m w hT hm hw0)
  have CD := fun W => Lib.hid (decimal_any 3 v W (by omega) (by omega))
  have C1 := fun W => Lib.hid (c_m1 v (by omega) W)
  have C2 := fun W => Lib.hid (c_m2 v (by omega) W)
  have C3 := fun W => Lib.hid (c_m3 v (by omega) W)
  have C4 := fun W => Lib.hid (c_m4 v (by omega) false (by rw [decide_eq_false hv1]; rfl) W)
  have C5 := fun W => Lib.hid (c_m5 v (by omega) W)
  have C6 := fun W => Lib.hid (c_m6 k1 (by omega) false (by rw [decide_eq_false hk1]; rfl) W)
  have C7 := fun W => Lib.hid (c_m7 k2 (by omega) (decide ((k2 : Int) ≤ 20)) (by rw [decide_eq_true hk2]; rfl) W)
  have hds := decsize v (by omega)
  have hcd := cd_eq
  clear hT hm hw0
  generalize B (Lib.decDigits v) = bd at *
  go_enter Tryd.func9, Tryd.ntmps9
  go_wp2_with fail
  refine (C0.out).mono ?_
  rintro e x0 ⟨rfl, hb0⟩
  have H0 := Lib.hid hb0
  clear hb0 C0
  go_wp2_with fail
  refine ((CD _).out).mono ?_
  rintro e x1 ⟨rfl, hb1⟩
  have H1 := Lib.hid (H0.out.trans (hb1.mono H0.out.size))
  clear hb1 CD H0
  go_wp2_with fail
  refine ((C1 _).out).mono ?_
  rintro e x2 ⟨⟨ka1, kb1, kc1, kd1, ke1, kf1, kg1, kh1, rfl⟩, hb⟩
  have H2 := Lib.hid ((H1.out.trans (hb.mono H1.out.size)).alloc (Nat.le_trans H1.out.size hb.size) (.cells #[.int .i64 ka1, .string kb1, .slice kc1 kd1 ke1, .string kf1, .int .i64 kg1, .int .i64 kh1] 31))
  clear hb C1 H1
  go_wp2_with fail
  refine ((C2 _).out).mono ?_
  rintro e x3 ⟨⟨ka2, kb2, kc2, kd2, ke2, kf2, kg2, kh2, rfl⟩, hb⟩
  have H3 := Lib.hid ((H2.out.trans (hb.mono H2.out.size)).alloc (Nat.le_trans H2.out.size hb.size) (.cells #[.int .i64 ka2, .string kb2, .slice kc2 kd2 ke2, .string kf2, .int .i64 kg2, .int .i64 kh2] 31))
  clear hb C2 H2
  go_wp2_with fail
  refine ((C3 _).out).mono ?_
  rintro e x4 ⟨⟨ka3, kb3, kc3, kd3, ke3, kf3, kg3, kh3, rfl⟩, hb⟩
  have H4 := Lib.hid ((H3.out.trans (hb.mono H3.out.size)).alloc (Nat.le_trans H3.out.size hb.size) (.cells #[.int .i64 ka3, .string kb3, .slice kc3 kd3 ke3, .string kf3, .int .i64 kg3, .int .i64 kh3] 31))
  clear hb C3 H3
  go_wp2_with fail
  refine ((C4 _).out).mono ?_
  rintro e x5 ⟨⟨ka4, kb4, kc4, kd4, ke4, kf4, kg4, kh4, rfl⟩, hb⟩
  have H5 := Lib.hid ((H4.out.trans (hb.mono H4.out.size)).alloc (Nat.le_trans H4.out.size hb.size) (.cells #[.int .i64 ka4, .string kb4, .slice kc4 kd4 ke4, .string kf4, .int .i64 kg4, .int .i64 kh4] 31))
  clear hb C4 H4
  go_wp2_with fail
  refine ((C5 _).out).mono ?_
  rintro e x6 ⟨⟨ka5, kb5, kc5, kd5, ke5, kf5, kg5, kh5, rfl⟩, hb⟩
  have H6 := Lib.hid ((H5.out.trans (hb.mono H5.out.size)).alloc (Nat.le_trans H5.out.size hb.size) (.cells #[.int .i64 ka5, .string kb5, .slice kc5 kd5 ke5, .string kf5, .int .i64 kg5, .int .i64 kh5] 31))
  clear hb C5 H5
  go_wp2_with fail
  go_loop [20, 21] (fun s i => ∃ j : Nat, j ≤ k1 ∧ i = .int .i64 j ∧ s = .string (B (strk j))) (fun _ i => k1 - (intOf i).toNat)
  case atStart => exact ⟨0, Nat.zero_le _, rfl, rfl⟩
  case round =>
    obtain ⟨j, hj, rfl, rfl⟩ := hrel
    by_cases hlt : (j : Int) < (k1 : Int)
    · have hs := strk_size j (by omega)
      have E := Lib.hid (strk_cat j)
      generalize B (strk j) = sj at *
      go_wp2_with fail
      go_round
      case rel => exact ⟨j + 1, by omega, by go_num, by rw [← E.out]⟩
      case measure => simp [intOf]; omega
    · obtain rfl : j = k1 := by omega
      go_wp2_with fail
      go_loop [22, 23] (fun s i => ∃ t : Nat, t ≤ k2 ∧ i = .int .i64 t ∧ s = .string (B (pst t))) (fun _ i => k2 - (intOf i).toNat)
      case atStart => exact ⟨0, Nat.zero_le _, rfl, rfl⟩
      case round =>
        obtain ⟨t, ht, rfl, rfl⟩ := hrel
        by_cases hlt2 : (t : Int) < (k2 : Int)
        · have hcat := Lib.hid (pst_add t (by omega))
          have E := Lib.hid (pst_cat t)
          generalize B (pst t) = st at *
          go_wp2_with (first | (refine wpList_cat rfl _ _ _ rfl st ⟨#[122]⟩ rfl rfl hcat.out ?_))
          go_round
          case rel => exact ⟨t + 1, by omega, by go_num, by rw [← E.out]⟩
          case measure => simp [intOf]; omega
        · obtain rfl : t = k2 := by omega
          go_wp2_with fail
          refine ((C6 _).out).mono ?_
          rintro e x7 ⟨⟨ka7, kb7, kc7, kd7, ke7, kf7, kg7, kh7, rfl⟩, hb⟩
          have H7 := Lib.hid ((H6.out.trans (hb.mono H6.out.size)).alloc (Nat.le_trans H6.out.size hb.size) (.cells #[.int .i64 ka7, .string kb7, .slice kc7 kd7 ke7, .string kf7, .int .i64 kg7, .int .i64 kh7] 31))
          clear hb C6
          go_wp2_with fail
          refine ((C7 _).out).mono ?_
          rintro e x8 ⟨⟨ka8, kb8, kc8, kd8, ke8, kf8, kg8, kh8, rfl⟩, hb⟩
          have H8 := Lib.hid ((H7.out.trans (hb.mono H7.out.size)).alloc (Nat.le_trans H7.out.size hb.size) (.cells #[.int .i64 ka8, .string kb8, .slice kc8 kd8 ke8, .string kf8, .int .i64 kg8, .int .i64 kh8] 31))
          clear hb C7
          go_wp2_with fail
          go_ret
          exact ⟨rfl, H8.out⟩

set_option maxHeartbeats 4000000 in
set_option maxRecDepth 100000 in
theorem limits_case5 (m n p q : Int) (v k1 k2 : Nat) (w : World) (hT : PowTab w) (hm : MaxVar w m) (hw0 : 0 < w.heap.size) (hn0 : 0 ≤ n) (hn1 : n ≤ 65535) (hp0 : 0 ≤ p) (hp1 : p ≤ 255) (hq0 : 0 ≤ q) (hq1 : q ≤ 255)
    (hv : n % 1101 = (v : Int)) (hp : p % 15 = (k1 : Int)) (hq : q % 24 = (k2 : Int)) (hv1 : 1 ≤ (v : Int)) (hk1 : ¬ 2 ≤ (k1 : Int)) (hk2 : 1 ≤ (k2 : Int)) :
    Calls Tryd.prog 9 #[.int .u16 n, .int .u8 p, .int .u8 q] w fun e w' => e = .returned (.bool true) ∧ Below w.heap.size w w' := by
  have hvb : (v : Int) ≤ 1100 := by omega
  have hv0 : (0 : Int) ≤ (v : Int) := by omega
  have hk1b : (k1 : Int) ≤ 14 := by omega
  have hk10 : (0 : Int) ≤ (k1 : Int) := by omega
  have hk2b : (k2 : Int) ≤ 23 := by omega
  have hk20 : (0 : Int) ≤ (k2 : Int) := by omega
  have C0 := Lib.hid (sanity_any m w hT hm hw0)
  have CD := fun W => Lib.hid (decimal_any 3 v W (by omega) (by omega))
  have C1 := fun W => Lib.hid (c_m1 v (by omega) W)
  have C2 := fun W => Lib.hid (c_m2 v (by omega) W)
  have C3 := fun W => Lib.hid (c_m3 v (by omega) W)
  have C4 := fun W => Lib.hid (c_m4 v (by omega) (decide ((v : Int) ≤ 40)) (by rw [decide_eq_true hv1]; rfl) W)
  have C5 := fun W => Lib.hid (c_m5 v (by omega) W)
  have C6 := fun W => Lib.hid (c_m6 k1 (by omega) false (by rw [decide_eq_false hk1]; rfl) W)
  have C7 := fun W => Lib.hid (c_m7 k2 (by omega) (decide ((k2 : Int) ≤ 20)) (by rw [decide_eq_true hk2]; rfl) W)
  have hds := decsize v (by omega)
  have hcd := cd_eq
  clear hT hm hw0
  generalize B (Lib.decDigits v) = bd at *
  go_enter Tryd.func9, Tryd.ntmps9
  go_wp2_with fail
  refine (C0.out).mono ?_
  rintro e x0 ⟨rfl, hb0⟩
  have H0 := Lib.hid hb0
  clear hb0 C0
  go_wp2_with fail
  refine ((CD _).out).mono ?_
  rintro e x1 ⟨rfl, hb1⟩
  have H1 := Lib.hid (H0.out.trans (hb1.mono H0.out.size))
  clear hb1 CD H0
  go_wp2_with fail
  refine ((C1 _).out).mono ?_
  rintro e x2 ⟨⟨ka1, kb1, kc1, kd1, ke1, kf1, kg1, kh1, rfl⟩, hb⟩
  have H2 := Lib.hid ((H1.out.trans (hb.mono H1.out.size)).alloc (Nat.le_trans H1.out.size hb.size) (.cells #[.int .i64 ka1, .string kb1, .slice kc1 kd1 ke1, .string kf1, .int .i64 kg1, .int .i64 kh1] 31))
  clear hb C1 H1
  go_wp2_with fail
  refine ((C2 _).out).mono ?_
  rintro e x3 ⟨⟨ka2, kb2, kc2, kd2, ke2, kf2, kg2, kh2, rfl⟩, hb⟩
  have H3 := Lib.hid ((H2.out.trans (hb.mono H2.out.size)).alloc (Nat.le_trans H2.out.size hb.size) (.cells #[.int .i64 ka2, .string kb2, .slice kc2 kd2 ke2, .string kf2, .int .i64 kg2, .int .i64 kh2] 31))
  clear hb C2 H2
  go_wp2_with fail
  refine ((C3 _).out).mono ?_
  rintro e x4 ⟨⟨ka3, kb3, kc3, kd3, ke3, kf3, kg3, kh3, rfl⟩, hb⟩
  have H4 := Lib.hid ((H3.out.trans (hb.mono H3.out.size)).alloc (Nat.le_trans H3.out.size hb.size) (.cells #[.int .i64 ka3, .string kb3, .slice kc3 kd3 ke3, .string kf3, .int .i64 kg3, .int .i64 kh3] 31))
  clear hb C3 H3
  go_wp2_with fail
  refine ((C4 _).out).mono ?_
  rintro e x5 ⟨⟨ka4, kb4, kc4, kd4, ke4, kf4, kg4, kh4, rfl⟩, hb⟩
  have H5 := Lib.hid ((H4.out.trans (hb.mono H4.out.size)).alloc (Nat.le_trans H4.out.size hb.size) (.cells #[.int .i64 ka4, .string kb4, .slice kc4 kd4 ke4, .string kf4, .int .i64 kg4, .int .i64 kh4] 31))
  clear hb C4 H4
  go_wp2_with fail
  refine ((C5 _).out).mono ?_
  rintro e x6 ⟨⟨ka5, kb5, kc5, kd5, ke5, kf5, kg5, kh5, rfl⟩, hb⟩
  have H6 := Lib.hid ((H5.out.trans (hb.mono H5.out.size)).alloc (Nat.le_trans H5.out.size hb.size) (.cells #[.int .i64 ka5, .string kb5, .slice kc5 kd5 ke5, .string kf5, .int .i64 kg5, .int .i64 kh5] 31))
  clear hb C5 H5
  go_wp2_with fail
  go_loop [20, 21] (fun s i => ∃ j : Nat, j ≤ k1 ∧ i = .int .i64 j ∧ s = .string (B (strk j))) (fun _ i => k1 - (intOf i).toNat)
  case atStart => exact ⟨0, Nat.zero_le _, rfl, rfl⟩
  case round =>
    obtain ⟨j, hj, rfl, rfl⟩ := hrel
    by_cases hlt : (j : Int) < (k1 : Int)
    · have hs := strk_size j (by omega)
      have E := Lib.hid (strk_cat j)
      generalize B (strk j) = sj at *
      go_wp2_with fail
      go_round
      case rel => exact ⟨j + 1, by omega, by go_num, by rw [← E.out]⟩
      case measure => simp [intOf]; omega
    · obtain rfl : j = k1 := by omega
      go_wp2_with fail
      go_loop [22, 23] (fun s i => ∃ t : Nat, t ≤ k2 ∧ i = .int .i64 t ∧ s = .string (B (pst t))) (fun _ i => k2 - (intOf i).toNat)
      case atStart => exact ⟨0, Nat.zero_le _, rfl, rfl⟩
      case round =>
        obtain ⟨t, ht, rfl, rfl⟩ := hrel
        by_cases hlt2 : (t : Int) < (k2 : Int)
        · have hcat := Lib.hid (pst_add t (by omega))
          have E := Lib.hid (pst_cat t)
          generalize B (pst t) = st at *
          go_wp2_with (first | (refine wpList_cat rfl _ _ _ rfl st ⟨#[122]⟩ rfl rfl hcat.out ?_))
          go_round
          case rel => exact ⟨t + 1, by omega, by go_num, by rw [← E.out]⟩
          case measure => simp [intOf]; omega
        · obtain rfl : t = k2 := by omega
          go_wp2_with fail
          refine ((C6 _).out).mono ?_
          rintro e x7 ⟨⟨ka7, kb7, kc7, kd7, ke7, kf7, kg7, kh7, rfl⟩, hb⟩
          have H7 := Lib.hid ((H6.out.trans (hb.mono H6.out.size)).alloc (Nat.le_trans H6.out.size hb.size) (.cells #[.int .i64 ka7, .string kb7, .slice kc7 kd7 ke7, .string kf7, .int .i64 kg7, .int .i64 kh7] 31))
          clear hb C6
          go_wp2_with fail
          refine ((C7 _).out).mono ?_
          rintro e x8 ⟨⟨ka8, kb8, kc8, kd8, ke8, kf8, kg8, kh8, rfl⟩, hb⟩
          have H8 := Lib.hid ((H7.out.trans (hb.mono H7.out.size)).alloc (Nat.le_trans H7.out.size hb.size) (.cells #[.int .i64 ka8, .string kb8, .slice kc8 kd8 ke8, .string kf8, .int .i64 kg8, .int .i64 kh8] 31))
          clear hb C7
          go_wp2_with fail
          go_ret
          exact ⟨rfl, H8.out⟩

set_option maxHeartbeats 4000000 in
set_option maxRecDepth 100000 in
theorem limits_case6 (m n p q : Int) (v k1 k2 : Nat) (w : World) (hT : PowTab w) (hm : MaxVar w m) (hw0 : 0 < w.heap.size) (hn0 : 0 ≤ n) (hn1 : n ≤ 65535) (hp0 : 0 ≤ p) (hp1 : p ≤ 255) (hq0 : 0 ≤ q) (hq1 : q ≤ 255)
    (hv : n % 1101 = (v : Int)) (hp : p % 15 = (k1 : Int)) (hq : q % 24 = (k2 : Int)) (hv1 : ¬ 1 ≤ (v : Int)) (hk1 : 2 ≤ (k1 : Int)) (hk2 : 1 ≤ (k2 : Int)) :
    Calls Tryd.prog 9 #[.int .u16 n, .int .u8 p, .int .u8 q] w fun e w' => e = .returned (.bool true) ∧ Below w.heap.size w w' := by
  have hvb : (v : Int) ≤ 1100 := by omega
  have hv0 : (0 : Int) ≤ (v : Int) := by omega
  have hk1b : (k1 : Int) ≤ 14 := by omega
  have hk10 : (0 : Int) ≤ (k1 : Int) := by omega
  have hk2b : (k2 : Int) ≤ 23 := by omega
  have hk20 : (0 : Int) ≤ (k2 : Int) := by omega
  have C0 := Lib.hid (sanity_any m w hT hm hw0)
  have CD := fun W => Lib.hid (decimal_any 3 v W (by omega) (by omega))
  have C1 := fun W => Lib.hid (c_m1 v (by omega) W)
  have C2 := fun W => Lib.hid (c_m2 v (by omega) W)
  have C3 := fun W => Lib.hid (c_m3 v (by omega) W)
  have C4 := fun W => Lib.hid (c_m4 v (by omega) false (by rw [decide_eq_false hv1]; rfl) W)
  have C5 := fun W => Lib.hid (c_m5 v (by omega) W)
  have C6 := fun W => Lib.hid (c_m6 k1 (by omega) (decide ((k1 : Int) ≤ 12)) (by rw [decide_eq_true hk1]; rfl) W)
  have C7 := fun W => Lib.hid (c_m7 k2 (by omega) (decide ((k2 : Int) ≤ 20)) (by rw [decide_eq_true hk2]; rfl) W)
  have hds := decsize v (by omega)
  have hcd := cd_eq
  clear hT hm hw0
  generalize B (Lib.decDigits v) = bd at *
  go_enter Tryd.func9, Tryd.ntmps9
  go_wp2_with fail
  refine (C0.out).mono ?_
  rintro e x0 ⟨rfl, hb0⟩
  have H0 := Lib.hid hb0
  clear hb0 C0
  go_wp2_with fail
  refine ((CD _).out).mono ?_
  rintro e x1 ⟨rfl, hb1⟩
  have H1 := Lib.hid (H0.out.trans (hb1.mono H0.out.size))
  clear hb1 CD H0
  go_wp2_with fail
  refine ((C1 _).out).mono ?_
  rintro e x2 ⟨⟨ka1, kb1, kc1, kd1, ke1, kf1, kg1, kh1, rfl⟩, hb⟩
  have H2 := Lib.hid ((H1.out.trans (hb.mono H1.out.size)).alloc (Nat.le_trans H1.out.size hb.size) (.cells #[.int .i64 ka1, .string kb1, .slice kc1 kd1 ke1, .string kf1, .int .i64 kg1, .int .i64 kh1] 31))
  clear hb C1 H1
  go_wp2_with fail
  refine ((C2 _).out).mono ?_
  rintro e x3 ⟨⟨ka2, kb2, kc2, kd2, ke2, kf2, kg2, kh2, rfl⟩, hb⟩
  have H3 := Lib.hid ((H2.out.trans (hb.mono H2.out.size)).alloc (Nat.le_trans H2.out.size hb.size) (.cells #[.int .i64 ka2, .string kb2, .slice kc2 kd2 ke2, .string kf2, .int .i64 kg2, .int .i64 kh2] 31))
  clear hb C2 H2
  go_wp2_with fail
  refine ((C3 _).out).mono ?_
  rintro e x4 ⟨⟨ka3, kb3, kc3, kd3, ke3, kf3, kg3, kh3, rfl⟩, hb⟩
  have H4 := Lib.hid ((H3.out.trans (hb.mono H3.out.size)).alloc (Nat.le_trans H3.out.size hb.size) (.cells #[.int .i64 ka3, .string kb3, .slice kc3 kd3 ke3, .string kf3, .int .i64 kg3, .int .i64 kh3] 31))
  clear hb C3 H3
  go_wp2_with fail
  refine ((C4 _).out).mono ?_
  rintro e x5 ⟨⟨ka4, kb4, kc4, kd4, ke4, kf4, kg4, kh4, rfl⟩, hb⟩
  have H5 := Lib.hid ((H4.out.trans (hb.mono H4.out.size)).alloc (Nat.le_trans H4.out.size hb.size) (.cells #[.int .i64 ka4, .string kb4, .slice kc4 kd4 ke4, .string kf4, .int .i64 kg4, .int .i64 kh4] 31))
  clear hb C4 H4
  go_wp2_with fail
  refine ((C5 _).out).mono ?_
  rintro e x6 ⟨⟨ka5, kb5, kc5, kd5, ke5, kf5, kg5, kh5, rfl⟩, hb⟩
  have H6 := Lib.hid ((H5.out.trans (hb.mono H5.out.size)).alloc (Nat.le_trans H5.out.size hb.size) (.cells #[.int .i64 ka5, .string kb5, .slice kc5 kd5 ke5, .string kf5, .int .i64 kg5, .int .i64 kh5] 31))
  clear hb C5 H5
  go_wp2_with fail
  go_loop [20, 21] (fun s i => ∃ j : Nat, j ≤ k1 ∧ i = .int .i64 j ∧ s = .string (B (strk j))) (fun _ i => k1 - (intOf i).toNat)
  case atStart => exact ⟨0, Nat.zero_le _, rfl, rfl⟩
  case round =>
    obtain ⟨j, hj, rfl, rfl⟩ := hrel
    by_cases hlt : (j : Int) < (k1 : Int)
    · have hs := strk_size j (by omega)
      have E := Lib.hid (strk_cat j)
      generalize B (strk j) = sj at *
      go_wp2_with fail
      go_round
      case rel => exact ⟨j + 1, by omega, by go_num, by rw [← E.out]⟩
      case measure => simp [intOf]; omega
    · obtain rfl : j = k1 := by omega
      go_wp2_with fail
      go_loop [22, 23] (fun s i => ∃ t : Nat, t ≤ k2 ∧ i = .int .i64 t ∧ s = .string (B (pst t))) (fun _ i => k2 - (intOf i).toNat)
      case atStart => exact ⟨0, Nat.zero_le _, rfl, rfl⟩
      case round =>
        obtain ⟨t, ht, rfl, rfl⟩ := hrel
        by_cases hlt2 : (t : Int) < (k2 : Int)
        · have hcat := Lib.hid (pst_add t (by omega))
          have E := Lib.hid (pst_cat t)
          generalize B (pst t) = st at *
          go_wp2_with (first | (refine wpList_cat rfl _ _ _ rfl st ⟨#[122]⟩ rfl rfl hcat.out ?_))
          go_round
          case rel => exact ⟨t + 1, by omega, by go_num, by rw [← E.out]⟩
          case measure => simp [intOf]; omega
        · obtain rfl : t = k2 := by omega
          go_wp2_with fail
          refine ((C6 _).out).mono ?_
          rintro e x7 ⟨⟨ka7, kb7, kc7, kd7, ke7, kf7, kg7, kh7, rfl⟩, hb⟩
          have H7 := Lib.hid ((H6.out.trans (hb.mono H6.out.size)).alloc (Nat.le_trans H6.out.size hb.size) (.cells #[.int .i64 ka7, .string kb7, .slice kc7 kd7 ke7, .string kf7, .int .i64 kg7, .int .i64 kh7] 31))
          clear hb C6
          go_wp2_with fail
          refine ((C7 _).out).mono ?_
          rintro e x8 ⟨⟨ka8, kb8, kc8, kd8, ke8, kf8, kg8, kh8, rfl⟩, hb⟩
          have H8 := Lib.hid ((H7.out.trans (hb.mono H7.out.size)).alloc (Nat.le_trans H7.out.size hb.size) (.cells #[.int .i64 ka8, .string kb8, .slice kc8 kd8 ke8, .string kf8, .int .i64 kg8, .int .i64 kh8] 31))
          clear hb C7
          go_wp2_with fail
          go_ret
          exact ⟨rfl, H8.out⟩

set_option maxHeartbeats 4000000 in
set_option maxRecDepth 100000 in
theorem limits_case7 (m n p q : Int) (v k1 k2 : Nat) (w : World) (hT : PowTab w) (hm : MaxVar w m) (hw0 : 0 < w.heap.size) (hn0 : 0 ≤ n) (hn1 : n ≤ 65535) (hp0 : 0 ≤ p) (hp1 : p ≤ 255) (hq0 : 0 ≤ q) (hq1 : q ≤ 255)
    (hv : n % 1101 = (v : Int)) (hp : p % 15 = (k1 : Int)) (hq : q % 24 = (k2 : Int)) (hv1 : 1 ≤ (v : Int)) (hk1 : 2 ≤ (k1 : Int)) (hk2 : 1 ≤ (k2 : Int)) :
    Calls Tryd.prog 9 #[.int .u16 n, .int .u8 p, .int .u8 q] w fun e w' => e = .returned (.bool true) ∧ Below w.heap.size w w' := by
  have hvb : (v : Int) ≤ 1100 := by omega
  have hv0 : (0 : Int) ≤ (v : Int) := by omega
  have hk1b : (k1 : Int) ≤ 14 := by omega
  have hk10 : (0 : Int) ≤ (k1 : Int) := by omega
  have hk2b : (k2 : Int) ≤ 23 := by omega
  have hk20 : (0 : Int) ≤ (k2 : Int) := by omega
  have C0 := Lib.hid (sanity_any m w hT hm hw0)
  have CD := fun W => Lib.hid (decimal_any 3 v W (by omega) (by omega))
  have C1 := fun W => Lib.hid (c_m1 v (by omega) W)
  have C2 := fun W => Lib.hid (c_m2 v (by omega) W)
  have C3 := fun W => Lib.hid (c_m3 v (by omega) W)
  have C4 := fun W => Lib.hid (c_m4 v (by omega) (decide ((v : Int) ≤ 40)) (by rw [decide_eq_true hv1]; rfl) W)
  have C5 := fun W => Lib.hid (c_m5 v (by omega) W)
  have C6 := fun W => Lib.hid (c_m6 k1 (by omega) (decide ((k1 : Int) ≤ 12)) (by rw [decide_eq_true hk1]; rfl) W)
  have C7 := fun W => Lib.hid (c_m7 k2 (by omega) (decide ((k2 : Int) ≤ 20)) (by rw [decide_eq_true hk2]; rfl) W)
  have hds := decsize v (by omega)
  have hcd := cd_eq
  clear hT hm hw0
  generalize B (Lib.decDigits v) = bd at *
  go_enter Tryd.func9, Tryd.ntmps9
  go_wp2_with fail
  refine (C0.out).mono ?_
  rintro e x0 ⟨rfl, hb0⟩
  have H0 := Lib.hid hb0
  clear hb0 C0
  go_wp2_with fail
  refine ((CD _).out).mono ?_
  rintro e x1 ⟨rfl, hb1⟩
  have H1 := Lib.hid (H0.out.trans (hb1.mono H0.out.size))
  clear hb1 CD H0
  go_wp2_with fail
  refine ((C1 _).out).mono ?_
  rintro e x2 ⟨⟨ka1, kb1, kc1, kd1, ke1, kf1, kg1, kh1, rfl⟩, hb⟩
  have H2 := Lib.hid ((H1.out.trans (hb.mono H1.out.size)).alloc (Nat.le_trans H1.out.size hb.size) (.cells #[.int .i64 ka1, .string kb1, .slice kc1 kd1 ke1, .string kf1, .int .i64 kg1, .int .i64 kh1] 31))
  clear hb C1 H1
  go_wp2_with fail
  refine ((C2 _).out).mono ?_
  rintro e x3 ⟨⟨ka2, kb2, kc2, kd2, ke2, kf2, kg2, kh2, rfl⟩, hb⟩
  have H3 := Lib.hid ((H2.out.trans (hb.mono H2.out.size)).alloc (Nat.le_trans H2.out.size hb.size) (.cells #[.int .i64 ka2, .string kb2, .slice kc2 kd2 ke2, .string kf2, .int .i64 kg2, .int .i64 kh2] 31))
  clear hb C2 H2
  go_wp2_with fail
  refine ((C3 _).out).mono ?_
  rintro e x4 ⟨⟨ka3, kb3, kc3, kd3, ke3, kf3, kg3, kh3, rfl⟩, hb⟩
  have H4 := Lib.hid ((H3.out.trans (hb.mono H3.out.size)).alloc (Nat.le_trans H3.out.size hb.size) (.cells #[.int .i64 ka3, .string kb3, .slice kc3 kd3 ke3, .string kf3, .int .i64 kg3, .int .i64 kh3] 31))
  clear hb C3 H3
  go_wp2_with fail
  refine ((C4 _).out).mono ?_
  rintro e x5 ⟨⟨ka4, kb4, kc4, kd4, ke4, kf4, kg4, kh4, rfl⟩, hb⟩
  have H5 := Lib.hid ((H4.out.trans (hb.mono H4.out.size)).alloc (Nat.le_trans H4.out.size hb.size) (.cells #[.int .i64 ka4, .string kb4, .slice kc4 kd4 ke4, .string kf4, .int .i64 kg4, .int .i64 kh4] 31))
  clear hb C4 H4
  go_wp2_with fail
  refine ((C5 _).out).mono ?_
  rintro e x6 ⟨⟨ka5, kb5, kc5, kd5, ke5, kf5, kg5, kh5, rfl⟩, hb⟩
  have H6 := Lib.hid ((H5.out.trans (hb.mono H5.out.size)).alloc (Nat.le_trans H5.out.size hb.size) (.cells #[.int .i64 ka5, .string kb5, .slice kc5 kd5 ke5, .string kf5, .int .i64 kg5, .int .i64 kh5] 31))
  clear hb C5 H5
  go_wp2_with fail
  go_loop [20, 21] (fun s i => ∃ j : Nat, j ≤ k1 ∧ i = .int .i64 j ∧ s = .string (B (strk j))) (fun _ i => k1 - (intOf i).toNat)
  case atStart => exact ⟨0, Nat.zero_le _, rfl, rfl⟩
  case round =>
    obtain ⟨j, hj, rfl, rfl⟩ := hrel
    by_cases hlt : (j : Int) < (k1 : Int)
    · have hs := strk_size j (by omega)
      have E := Lib.hid (strk_cat j)
      generalize B (strk j) = sj at *
      go_wp2_with fail
      go_round
      case rel => exact ⟨j + 1, by omega, by go_num, by rw [← E.out]⟩
      case measure => simp [intOf]; omega
    · obtain rfl : j = k1 := by omega
      go_wp2_with fail
      go_loop [22, 23] (fun s i => ∃ t : Nat, t ≤ k2 ∧ i = .int .i64 t ∧ s = .string (B (pst t))) (fun _ i => k2 - (intOf i).toNat)
      case atStart => exact ⟨0, Nat.zero_le _, rfl, rfl⟩
      case round =>
        obtain ⟨t, ht, rfl, rfl⟩ := hrel
        by_cases hlt2 : (t : Int) < (k2 : Int)
        · have hcat := Lib.hid (pst_add t (by omega))
          have E := Lib.hid (pst_cat t)
          generalize B (pst t) = st at *
          go_wp2_with (first | (refine wpList_cat rfl _ _ _ rfl st ⟨#[122]⟩ rfl rfl hcat.out ?_))
          go_round
          case rel => exact ⟨t + 1, by omega, by go_num, by rw [← E.out]⟩
          case measure => simp [intOf]; omega
        · obtain rfl : t = k2 := by omega
          go_wp2_with fail
          refine ((C6 _).out).mono ?_
          rintro e x7 ⟨⟨ka7, kb7, kc7, kd7, ke7, kf7, kg7, kh7, rfl⟩, hb⟩
          have H7 := Lib.hid ((H6.out.trans (hb.mono H6.out.size)).alloc (Nat.le_trans H6.out.size hb.size) (.cells #[.int .i64 ka7, .string kb7, .slice kc7 kd7 ke7, .string kf7, .int .i64 kg7, .int .i64 kh7] 31))
          clear hb C6
          go_wp2_with fail
          refine ((C7 _).out).mono ?_
          rintro e x8 ⟨⟨ka8, kb8, kc8, kd8, ke8, kf8, kg8, kh8, rfl⟩, hb⟩
          have H8 := Lib.hid ((H7.out.trans (hb.mono H7.out.size)).alloc (Nat.le_trans H7.out.size hb.size) (.cells #[.int .i64 ka8, .string kb8, .slice kc8 kd8 ke8, .string kf8, .int .i64 kg8, .int .i64 kh8] 31))
          clear hb C7
          go_wp2_with fail
          go_ret
          exact ⟨rfl, H8.out⟩

end Go.Proofs.YtmccbkhagdklgaaDoor

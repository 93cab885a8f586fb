/-
  NARROWER THAN 'FOR EVERY INPUT', by the rows' own cells (each row's printed sentence says how): SchemeChecks: laid · SchemeRoundTrips: laid · SchemeParses: laid · SchemeRules: laid · SchemeLimits: laid · SchemeOrders: laid · SchemeTexts: laid · FlawMatchesReference: laid · FlawProves: laid · FlawDead: laid · FlawChains: laid · FlawSound: laid.
  DERIVED. THE GIVEN ROWS OF THIS SEAT. 12 by the template 'for every input the law returns true; each argument reads behind the call as it read before'; 0 by the template 'total and deterministic' (their statements: YtnbiedijofdjhaaDoorTotals.lean).
  GIVEN WITH THE SEED: the statements are not yours to turn. If you find one false, say at which input.
  Laid BY PROGRAM, IN A SANDBOX (cutbox-rows.mjs): the forced cells as the released guide's own fill.sh prints them over the translation ed85dbbca484cc2a… (all of the seat's roots in one cut). By AI agents, Wed Nov 11 2026. No macro, syntax, notation, axiom, sorry.
-/
import Derived.Test.YtnbiedijofdjhaaDoorChecked
import GoSem.PinnedTables
import GoSem.Claim
import GoSem.ClaimJoined
import GoSem.ClaimMapViews
import Derived.JoinedTies
import Derived.KernelRfl
namespace Go.Proofs.YtnbiedijofdjhaaDoor
/- THE CELL 'sum', in the pinned program and in every row, IS THE sha256 OF THE DUMP (.gsa) THAT YtnbiedijofdjhaaDoorProg.lean LOADS. Nothing in Lean hashes anything: it is a label: what it is worth is what the hold of that sum in a sandbox is worth. -/
noncomputable def Tryd.pinned : Pinned := { name := "ytnbiedijofdjhaadoor", sum := "ed85dbbca484cc2a1d923bc792bdb824a8725d7f5efac3226f830a444af9134e", checked := Tryd.checked }
namespace Rows
def none {H : Type} : Left H := { results := [], args := [] }

/- WHAT THE LISTED PACKAGE-LEVEL VARIABLES READ AS WHEN THE CALL BEGINS. Each datum BY PROGRAM (the guide's laid-datum.mjs) off the statement by which the dump's own 'gosem.cut.vars' lays the variable. In a bare row this is a premise. The card (YtnbiedijofdjhaaDoorCards.lean) ties it to the program's text. -/
def laid_math_bits_deBruijn32tab {H : Type} : DataW H := .agg [.lit (.int .u8 0), .lit (.int .u8 1), .lit (.int .u8 28), .lit (.int .u8 2), .lit (.int .u8 29), .lit (.int .u8 14), .lit (.int .u8 24), .lit (.int .u8 3), .lit (.int .u8 30), .lit (.int .u8 22), .lit (.int .u8 20), .lit (.int .u8 15), .lit (.int .u8 25), .lit (.int .u8 17), .lit (.int .u8 4), .lit (.int .u8 8), .lit (.int .u8 31), .lit (.int .u8 27), .lit (.int .u8 13), .lit (.int .u8 23), .lit (.int .u8 21), .lit (.int .u8 19), .lit (.int .u8 16), .lit (.int .u8 7), .lit (.int .u8 26), .lit (.int .u8 12), .lit (.int .u8 18), .lit (.int .u8 6), .lit (.int .u8 11), .lit (.int .u8 5), .lit (.int .u8 10), .lit (.int .u8 9)]
def laid_math_bits_deBruijn64tab {H : Type} : DataW H := .agg [.lit (.int .u8 0), .lit (.int .u8 1), .lit (.int .u8 56), .lit (.int .u8 2), .lit (.int .u8 57), .lit (.int .u8 49), .lit (.int .u8 28), .lit (.int .u8 3), .lit (.int .u8 61), .lit (.int .u8 58), .lit (.int .u8 42), .lit (.int .u8 50), .lit (.int .u8 38), .lit (.int .u8 29), .lit (.int .u8 17), .lit (.int .u8 4), .lit (.int .u8 62), .lit (.int .u8 47), .lit (.int .u8 59), .lit (.int .u8 36), .lit (.int .u8 45), .lit (.int .u8 43), .lit (.int .u8 51), .lit (.int .u8 22), .lit (.int .u8 53), .lit (.int .u8 39), .lit (.int .u8 33), .lit (.int .u8 30), .lit (.int .u8 24), .lit (.int .u8 18), .lit (.int .u8 12), .lit (.int .u8 5), .lit (.int .u8 63), .lit (.int .u8 55), .lit (.int .u8 48), .lit (.int .u8 27), .lit (.int .u8 60), .lit (.int .u8 41), .lit (.int .u8 37), .lit (.int .u8 16), .lit (.int .u8 46), .lit (.int .u8 35), .lit (.int .u8 44), .lit (.int .u8 21), .lit (.int .u8 52), .lit (.int .u8 32), .lit (.int .u8 23), .lit (.int .u8 11), .lit (.int .u8 54), .lit (.int .u8 26), .lit (.int .u8 40), .lit (.int .u8 15), .lit (.int .u8 34), .lit (.int .u8 20), .lit (.int .u8 31), .lit (.int .u8 10), .lit (.int .u8 25), .lit (.int .u8 14), .lit (.int .u8 19), .lit (.int .u8 9), .lit (.int .u8 13), .lit (.int .u8 8), .lit (.int .u8 7), .lit (.int .u8 6)]
def laid_internal_strconv_uint64pow10 {H : Type} : DataW H := .agg [.lit (.int .u64 1), .lit (.int .u64 10), .lit (.int .u64 100), .lit (.int .u64 1000), .lit (.int .u64 10000), .lit (.int .u64 100000), .lit (.int .u64 1000000), .lit (.int .u64 10000000), .lit (.int .u64 100000000), .lit (.int .u64 1000000000), .lit (.int .u64 10000000000), .lit (.int .u64 100000000000), .lit (.int .u64 1000000000000), .lit (.int .u64 10000000000000), .lit (.int .u64 100000000000000), .lit (.int .u64 1000000000000000), .lit (.int .u64 10000000000000000), .lit (.int .u64 100000000000000000), .lit (.int .u64 1000000000000000000), .lit (.int .u64 10000000000000000000)]
def laid_unicode_utf8_acceptRanges {H : Type} : DataW H := .agg [.agg [.lit (.int .u8 128), .lit (.int .u8 191)], .agg [.lit (.int .u8 160), .lit (.int .u8 191)], .agg [.lit (.int .u8 128), .lit (.int .u8 159)], .agg [.lit (.int .u8 144), .lit (.int .u8 191)], .agg [.lit (.int .u8 128), .lit (.int .u8 143)], .agg [.lit (.int .u8 0), .lit (.int .u8 0)], .agg [.lit (.int .u8 0), .lit (.int .u8 0)], .agg [.lit (.int .u8 0), .lit (.int .u8 0)], .agg [.lit (.int .u8 0), .lit (.int .u8 0)], .agg [.lit (.int .u8 0), .lit (.int .u8 0)], .agg [.lit (.int .u8 0), .lit (.int .u8 0)], .agg [.lit (.int .u8 0), .lit (.int .u8 0)], .agg [.lit (.int .u8 0), .lit (.int .u8 0)], .agg [.lit (.int .u8 0), .lit (.int .u8 0)], .agg [.lit (.int .u8 0), .lit (.int .u8 0)], .agg [.lit (.int .u8 0), .lit (.int .u8 0)]]
def laid_syllabary_scheme_stretches {H : Type} : DataW H := .agg [.agg [.lit (.int .u8 97), .lit (.int .u8 122), .lit (.int .i64 1)], .agg [.lit (.int .u8 65), .lit (.int .u8 90), .lit (.int .i64 2)], .agg [.lit (.int .u8 48), .lit (.int .u8 57), .lit (.int .i64 4)]]
/-- One of Go's own tables, pinned by name: the form's constant. -/
def laid_unicode_utf8_first : DataW Unit := Go.Pinned.utf8First

/-- 'syllabarylaw02.SchemeChecks': WHATEVER THE INPUT: true; the input reads as it did. -/
def schemeChecksSpec : ChangeSpec := { name := "schemeChecks", fn := fun _ => fun
  | [d1, d2, d3] => { results := [.lit (.bool true)], args := [d1, d2, d3] }
  | _ => none }
def schemeChecksRow : OpenClaim := { program := "ytnbiedijofdjhaadoor", sum := "ed85dbbca484cc2a1d923bc792bdb824a8725d7f5efac3226f830a444af9134e", func := "syllabary/syllabarylaw02.SchemeChecks", spec := "schemeChecks", inPlace := ["internal/bytealg.IndexByteString", "internal/bytealg.IndexString", "internal/bytealg.CountString", "internal/abi.NoEscape", "internal/bytealg.MakeNoZero"], unfollowed := true, recurses := true, named := ["syllabary/scheme.stretches", "internal/bytealg.MaxLen", "unicode/utf8.first", "unicode/utf8.acceptRanges", "internal/strconv.uint64pow10", "math/bits.deBruijn32tab", "math/bits.deBruijn64tab"], apart := false, laid := [("math/bits.deBruijn32tab", laid_math_bits_deBruijn32tab), ("math/bits.deBruijn64tab", laid_math_bits_deBruijn64tab), ("internal/strconv.uint64pow10", laid_internal_strconv_uint64pow10), ("unicode/utf8.acceptRanges", laid_unicode_utf8_acceptRanges), ("syllabary/scheme.stretches", laid_syllabary_scheme_stretches), ("unicode/utf8.first", laid_unicode_utf8_first)] }
def SchemeChecksSaid : Prop := schemeChecksRow.holds Tryd.pinned (OpenSpec.ofChange schemeChecksSpec)

/-- ITS FALSE NEIGHBOUR: 'it returns false'. Refute it at one input. -/
def schemeChecksWrong : ChangeSpec := { name := "schemeChecks", fn := fun _ => fun
  | [d1, d2, d3] => { results := [.lit (.bool false)], args := [d1, d2, d3] }
  | _ => none }
def SchemeChecksWrongFalsely : Prop := schemeChecksRow.holds Tryd.pinned (OpenSpec.ofChange schemeChecksWrong)

/-- 'syllabarylaw02.SchemeRoundTrips': WHATEVER THE INPUT: true; the input reads as it did. -/
def schemeRoundTripsSpec : ChangeSpec := { name := "schemeRoundTrips", fn := fun _ => fun
  | [d1, d2] => { results := [.lit (.bool true)], args := [d1, d2] }
  | _ => none }
def schemeRoundTripsRow : OpenClaim := { program := "ytnbiedijofdjhaadoor", sum := "ed85dbbca484cc2a1d923bc792bdb824a8725d7f5efac3226f830a444af9134e", func := "syllabary/syllabarylaw02.SchemeRoundTrips", spec := "schemeRoundTrips", inPlace := ["internal/bytealg.IndexByteString", "internal/bytealg.IndexString", "internal/bytealg.CountString", "internal/abi.NoEscape", "internal/bytealg.MakeNoZero"], unfollowed := true, recurses := true, named := ["syllabary/scheme.stretches", "internal/bytealg.MaxLen", "unicode/utf8.first", "unicode/utf8.acceptRanges", "internal/strconv.uint64pow10", "math/bits.deBruijn32tab", "math/bits.deBruijn64tab"], apart := false, laid := [("math/bits.deBruijn32tab", laid_math_bits_deBruijn32tab), ("math/bits.deBruijn64tab", laid_math_bits_deBruijn64tab), ("internal/strconv.uint64pow10", laid_internal_strconv_uint64pow10), ("unicode/utf8.acceptRanges", laid_unicode_utf8_acceptRanges), ("syllabary/scheme.stretches", laid_syllabary_scheme_stretches), ("unicode/utf8.first", laid_unicode_utf8_first)] }
def SchemeRoundTripsSaid : Prop := schemeRoundTripsRow.holds Tryd.pinned (OpenSpec.ofChange schemeRoundTripsSpec)

/-- ITS FALSE NEIGHBOUR: 'it returns false'. Refute it at one input. -/
def schemeRoundTripsWrong : ChangeSpec := { name := "schemeRoundTrips", fn := fun _ => fun
  | [d1, d2] => { results := [.lit (.bool false)], args := [d1, d2] }
  | _ => none }
def SchemeRoundTripsWrongFalsely : Prop := schemeRoundTripsRow.holds Tryd.pinned (OpenSpec.ofChange schemeRoundTripsWrong)

/-- 'syllabarylaw02.SchemeParses': WHATEVER THE INPUT: true; the input reads as it did. -/
def schemeParsesSpec : ChangeSpec := { name := "schemeParses", fn := fun _ => fun
  | [d1, d2, d3] => { results := [.lit (.bool true)], args := [d1, d2, d3] }
  | _ => none }
def schemeParsesRow : OpenClaim := { program := "ytnbiedijofdjhaadoor", sum := "ed85dbbca484cc2a1d923bc792bdb824a8725d7f5efac3226f830a444af9134e", func := "syllabary/syllabarylaw02.SchemeParses", spec := "schemeParses", inPlace := ["internal/bytealg.IndexByteString", "internal/bytealg.IndexString", "internal/bytealg.CountString", "internal/abi.NoEscape", "internal/bytealg.MakeNoZero"], unfollowed := true, recurses := true, named := ["syllabary/scheme.stretches", "internal/bytealg.MaxLen", "unicode/utf8.first", "unicode/utf8.acceptRanges", "internal/strconv.uint64pow10", "math/bits.deBruijn32tab", "math/bits.deBruijn64tab"], apart := false, laid := [("math/bits.deBruijn32tab", laid_math_bits_deBruijn32tab), ("math/bits.deBruijn64tab", laid_math_bits_deBruijn64tab), ("internal/strconv.uint64pow10", laid_internal_strconv_uint64pow10), ("unicode/utf8.acceptRanges", laid_unicode_utf8_acceptRanges), ("syllabary/scheme.stretches", laid_syllabary_scheme_stretches), ("unicode/utf8.first", laid_unicode_utf8_first)] }
def SchemeParsesSaid : Prop := schemeParsesRow.holds Tryd.pinned (OpenSpec.ofChange schemeParsesSpec)

/-- ITS FALSE NEIGHBOUR: 'it returns false'. Refute it at one input. -/
def schemeParsesWrong : ChangeSpec := { name := "schemeParses", fn := fun _ => fun
  | [d1, d2, d3] => { results := [.lit (.bool false)], args := [d1, d2, d3] }
  | _ => none }
def SchemeParsesWrongFalsely : Prop := schemeParsesRow.holds Tryd.pinned (OpenSpec.ofChange schemeParsesWrong)

/-- 'syllabarylaw02.SchemeRules': WHATEVER THE INPUT: true; the input reads as it did. -/
def schemeRulesSpec : ChangeSpec := { name := "schemeRules", fn := fun _ => fun
  | [d1, d2] => { results := [.lit (.bool true)], args := [d1, d2] }
  | _ => none }
def schemeRulesRow : OpenClaim := { program := "ytnbiedijofdjhaadoor", sum := "ed85dbbca484cc2a1d923bc792bdb824a8725d7f5efac3226f830a444af9134e", func := "syllabary/syllabarylaw02.SchemeRules", spec := "schemeRules", inPlace := ["internal/bytealg.IndexByteString", "internal/bytealg.IndexString", "internal/bytealg.CountString", "internal/abi.NoEscape", "internal/bytealg.MakeNoZero"], unfollowed := true, recurses := true, named := ["syllabary/scheme.stretches", "internal/bytealg.MaxLen", "unicode/utf8.first", "unicode/utf8.acceptRanges", "internal/strconv.uint64pow10", "math/bits.deBruijn32tab", "math/bits.deBruijn64tab"], apart := false, laid := [("math/bits.deBruijn32tab", laid_math_bits_deBruijn32tab), ("math/bits.deBruijn64tab", laid_math_bits_deBruijn64tab), ("internal/strconv.uint64pow10", laid_internal_strconv_uint64pow10), ("unicode/utf8.acceptRanges", laid_unicode_utf8_acceptRanges), ("syllabary/scheme.stretches", laid_syllabary_scheme_stretches), ("unicode/utf8.first", laid_unicode_utf8_first)] }
def SchemeRulesSaid : Prop := schemeRulesRow.holds Tryd.pinned (OpenSpec.ofChange schemeRulesSpec)

/-- ITS FALSE NEIGHBOUR: 'it returns false'. Refute it at one input. -/
def schemeRulesWrong : ChangeSpec := { name := "schemeRules", fn := fun _ => fun
  | [d1, d2] => { results := [.lit (.bool false)], args := [d1, d2] }
  | _ => none }
def SchemeRulesWrongFalsely : Prop := schemeRulesRow.holds Tryd.pinned (OpenSpec.ofChange schemeRulesWrong)

/-- 'syllabarylaw02.SchemeLimits': WHATEVER THE INPUT: true; the input reads as it did. -/
def schemeLimitsSpec : ChangeSpec := { name := "schemeLimits", fn := fun _ => fun
  | [d1, d2] => { results := [.lit (.bool true)], args := [d1, d2] }
  | _ => none }
def schemeLimitsRow : OpenClaim := { program := "ytnbiedijofdjhaadoor", sum := "ed85dbbca484cc2a1d923bc792bdb824a8725d7f5efac3226f830a444af9134e", func := "syllabary/syllabarylaw02.SchemeLimits", spec := "schemeLimits", inPlace := ["internal/bytealg.IndexByteString", "internal/bytealg.IndexString", "internal/bytealg.CountString", "internal/abi.NoEscape", "internal/bytealg.MakeNoZero"], unfollowed := true, recurses := true, named := ["syllabary/scheme.stretches", "internal/bytealg.MaxLen", "unicode/utf8.first", "unicode/utf8.acceptRanges", "internal/strconv.uint64pow10", "math/bits.deBruijn32tab", "math/bits.deBruijn64tab"], apart := false, laid := [("math/bits.deBruijn32tab", laid_math_bits_deBruijn32tab), ("math/bits.deBruijn64tab", laid_math_bits_deBruijn64tab), ("internal/strconv.uint64pow10", laid_internal_strconv_uint64pow10), ("unicode/utf8.acceptRanges", laid_unicode_utf8_acceptRanges), ("syllabary/scheme.stretches", laid_syllabary_scheme_stretches), ("unicode/utf8.first", laid_unicode_utf8_first)] }
def SchemeLimitsSaid : Prop := schemeLimitsRow.holds Tryd.pinned (OpenSpec.ofChange schemeLimitsSpec)

/-- ITS FALSE NEIGHBOUR: 'it returns false'. Refute it at one input. -/
def schemeLimitsWrong : ChangeSpec := { name := "schemeLimits", fn := fun _ => fun
  | [d1, d2] => { results := [.lit (.bool false)], args := [d1, d2] }
  | _ => none }
def SchemeLimitsWrongFalsely : Prop := schemeLimitsRow.holds Tryd.pinned (OpenSpec.ofChange schemeLimitsWrong)

/-- 'syllabarylaw02.SchemeOrders': WHATEVER THE INPUT: true; the input reads as it did. -/
def schemeOrdersSpec : ChangeSpec := { name := "schemeOrders", fn := fun _ => fun
  | [d1, d2, d3] => { results := [.lit (.bool true)], args := [d1, d2, d3] }
  | _ => none }
def schemeOrdersRow : OpenClaim := { program := "ytnbiedijofdjhaadoor", sum := "ed85dbbca484cc2a1d923bc792bdb824a8725d7f5efac3226f830a444af9134e", func := "syllabary/syllabarylaw02.SchemeOrders", spec := "schemeOrders", inPlace := ["internal/bytealg.IndexByteString", "internal/bytealg.IndexString", "internal/bytealg.CountString", "internal/abi.NoEscape", "internal/bytealg.MakeNoZero"], unfollowed := true, recurses := true, named := ["syllabary/scheme.stretches", "internal/bytealg.MaxLen", "unicode/utf8.first", "unicode/utf8.acceptRanges", "internal/strconv.uint64pow10", "math/bits.deBruijn32tab", "math/bits.deBruijn64tab"], apart := false, laid := [("math/bits.deBruijn32tab", laid_math_bits_deBruijn32tab), ("math/bits.deBruijn64tab", laid_math_bits_deBruijn64tab), ("internal/strconv.uint64pow10", laid_internal_strconv_uint64pow10), ("unicode/utf8.acceptRanges", laid_unicode_utf8_acceptRanges), ("syllabary/scheme.stretches", laid_syllabary_scheme_stretches), ("unicode/utf8.first", laid_unicode_utf8_first)] }
def SchemeOrdersSaid : Prop := schemeOrdersRow.holds Tryd.pinned (OpenSpec.ofChange schemeOrdersSpec)

/-- ITS FALSE NEIGHBOUR: 'it returns false'. Refute it at one input. -/
def schemeOrdersWrong : ChangeSpec := { name := "schemeOrders", fn := fun _ => fun
  | [d1, d2, d3] => { results := [.lit (.bool false)], args := [d1, d2, d3] }
  | _ => none }
def SchemeOrdersWrongFalsely : Prop := schemeOrdersRow.holds Tryd.pinned (OpenSpec.ofChange schemeOrdersWrong)

/-- 'syllabarylaw02.SchemeTexts': WHATEVER THE INPUT: true; the input reads as it did. -/
def schemeTextsSpec : ChangeSpec := { name := "schemeTexts", fn := fun _ => fun
  | [d1, d2, d3] => { results := [.lit (.bool true)], args := [d1, d2, d3] }
  | _ => none }
def schemeTextsRow : OpenClaim := { program := "ytnbiedijofdjhaadoor", sum := "ed85dbbca484cc2a1d923bc792bdb824a8725d7f5efac3226f830a444af9134e", func := "syllabary/syllabarylaw02.SchemeTexts", spec := "schemeTexts", inPlace := ["internal/bytealg.IndexByteString", "internal/bytealg.IndexString", "internal/bytealg.CountString", "internal/abi.NoEscape", "internal/bytealg.MakeNoZero"], unfollowed := true, recurses := true, named := ["syllabary/scheme.stretches", "internal/bytealg.MaxLen", "unicode/utf8.first", "unicode/utf8.acceptRanges", "internal/strconv.uint64pow10", "math/bits.deBruijn32tab", "math/bits.deBruijn64tab"], apart := false, laid := [("math/bits.deBruijn32tab", laid_math_bits_deBruijn32tab), ("math/bits.deBruijn64tab", laid_math_bits_deBruijn64tab), ("internal/strconv.uint64pow10", laid_internal_strconv_uint64pow10), ("unicode/utf8.acceptRanges", laid_unicode_utf8_acceptRanges), ("syllabary/scheme.stretches", laid_syllabary_scheme_stretches), ("unicode/utf8.first", laid_unicode_utf8_first)] }
def SchemeTextsSaid : Prop := schemeTextsRow.holds Tryd.pinned (OpenSpec.ofChange schemeTextsSpec)

/-- ITS FALSE NEIGHBOUR: 'it returns false'. Refute it at one input. -/
def schemeTextsWrong : ChangeSpec := { name := "schemeTexts", fn := fun _ => fun
  | [d1, d2, d3] => { results := [.lit (.bool false)], args := [d1, d2, d3] }
  | _ => none }
def SchemeTextsWrongFalsely : Prop := schemeTextsRow.holds Tryd.pinned (OpenSpec.ofChange schemeTextsWrong)

/-- 'syllabarylaw04.FlawMatchesReference': WHATEVER THE INPUT: true; the input reads as it did. -/
def flawMatchesReferenceSpec : ChangeSpec := { name := "flawMatchesReference", fn := fun _ => fun
  | [d1, d2, d3] => { results := [.lit (.bool true)], args := [d1, d2, d3] }
  | _ => none }
def flawMatchesReferenceRow : OpenClaim := { program := "ytnbiedijofdjhaadoor", sum := "ed85dbbca484cc2a1d923bc792bdb824a8725d7f5efac3226f830a444af9134e", func := "syllabary/syllabarylaw04.FlawMatchesReference", spec := "flawMatchesReference", unfollowed := true, recurses := true, named := ["syllabary/scheme.stretches"], apart := false, laid := [("syllabary/scheme.stretches", laid_syllabary_scheme_stretches)] }
def FlawMatchesReferenceSaid : Prop := flawMatchesReferenceRow.holds Tryd.pinned (OpenSpec.ofChange flawMatchesReferenceSpec)

/-- ITS FALSE NEIGHBOUR: 'it returns false'. Refute it at one input. -/
def flawMatchesReferenceWrong : ChangeSpec := { name := "flawMatchesReference", fn := fun _ => fun
  | [d1, d2, d3] => { results := [.lit (.bool false)], args := [d1, d2, d3] }
  | _ => none }
def FlawMatchesReferenceWrongFalsely : Prop := flawMatchesReferenceRow.holds Tryd.pinned (OpenSpec.ofChange flawMatchesReferenceWrong)

/-- 'syllabarylaw04.FlawProves': WHATEVER THE INPUT: true; the input reads as it did. -/
def flawProvesSpec : ChangeSpec := { name := "flawProves", fn := fun _ => fun
  | [d1, d2] => { results := [.lit (.bool true)], args := [d1, d2] }
  | _ => none }
def flawProvesRow : OpenClaim := { program := "ytnbiedijofdjhaadoor", sum := "ed85dbbca484cc2a1d923bc792bdb824a8725d7f5efac3226f830a444af9134e", func := "syllabary/syllabarylaw04.FlawProves", spec := "flawProves", unfollowed := true, recurses := true, named := ["syllabary/scheme.stretches"], apart := false, laid := [("syllabary/scheme.stretches", laid_syllabary_scheme_stretches)] }
def FlawProvesSaid : Prop := flawProvesRow.holds Tryd.pinned (OpenSpec.ofChange flawProvesSpec)

/-- ITS FALSE NEIGHBOUR: 'it returns false'. Refute it at one input. -/
def flawProvesWrong : ChangeSpec := { name := "flawProves", fn := fun _ => fun
  | [d1, d2] => { results := [.lit (.bool false)], args := [d1, d2] }
  | _ => none }
def FlawProvesWrongFalsely : Prop := flawProvesRow.holds Tryd.pinned (OpenSpec.ofChange flawProvesWrong)

/-- 'syllabarylaw04.FlawDead': WHATEVER THE INPUT: true; the input reads as it did. -/
def flawDeadSpec : ChangeSpec := { name := "flawDead", fn := fun _ => fun
  | [d1, d2] => { results := [.lit (.bool true)], args := [d1, d2] }
  | _ => none }
def flawDeadRow : OpenClaim := { program := "ytnbiedijofdjhaadoor", sum := "ed85dbbca484cc2a1d923bc792bdb824a8725d7f5efac3226f830a444af9134e", func := "syllabary/syllabarylaw04.FlawDead", spec := "flawDead", unfollowed := true, recurses := true, named := ["syllabary/scheme.stretches"], apart := false, laid := [("syllabary/scheme.stretches", laid_syllabary_scheme_stretches)] }
def FlawDeadSaid : Prop := flawDeadRow.holds Tryd.pinned (OpenSpec.ofChange flawDeadSpec)

/-- ITS FALSE NEIGHBOUR: 'it returns false'. Refute it at one input. -/
def flawDeadWrong : ChangeSpec := { name := "flawDead", fn := fun _ => fun
  | [d1, d2] => { results := [.lit (.bool false)], args := [d1, d2] }
  | _ => none }
def FlawDeadWrongFalsely : Prop := flawDeadRow.holds Tryd.pinned (OpenSpec.ofChange flawDeadWrong)

/-- 'syllabarylaw04.FlawChains': WHATEVER THE INPUT: true; the input reads as it did. -/
def flawChainsSpec : ChangeSpec := { name := "flawChains", fn := fun _ => fun
  | [d1, d2, d3] => { results := [.lit (.bool true)], args := [d1, d2, d3] }
  | _ => none }
def flawChainsRow : OpenClaim := { program := "ytnbiedijofdjhaadoor", sum := "ed85dbbca484cc2a1d923bc792bdb824a8725d7f5efac3226f830a444af9134e", func := "syllabary/syllabarylaw04.FlawChains", spec := "flawChains", unfollowed := true, recurses := true, named := ["syllabary/scheme.stretches"], apart := false, laid := [("syllabary/scheme.stretches", laid_syllabary_scheme_stretches)] }
def FlawChainsSaid : Prop := flawChainsRow.holds Tryd.pinned (OpenSpec.ofChange flawChainsSpec)

/-- ITS FALSE NEIGHBOUR: 'it returns false'. Refute it at one input. -/
def flawChainsWrong : ChangeSpec := { name := "flawChains", fn := fun _ => fun
  | [d1, d2, d3] => { results := [.lit (.bool false)], args := [d1, d2, d3] }
  | _ => none }
def FlawChainsWrongFalsely : Prop := flawChainsRow.holds Tryd.pinned (OpenSpec.ofChange flawChainsWrong)

/-- 'syllabarylaw04.FlawSound': WHATEVER THE INPUT: true; the input reads as it did. -/
def flawSoundSpec : ChangeSpec := { name := "flawSound", fn := fun _ => fun
  | [d] => { results := [.lit (.bool true)], args := [d] }
  | _ => none }
def flawSoundRow : OpenClaim := { program := "ytnbiedijofdjhaadoor", sum := "ed85dbbca484cc2a1d923bc792bdb824a8725d7f5efac3226f830a444af9134e", func := "syllabary/syllabarylaw04.FlawSound", spec := "flawSound", unfollowed := true, recurses := true, named := ["syllabary/scheme.stretches"], apart := false, laid := [("syllabary/scheme.stretches", laid_syllabary_scheme_stretches)] }
def FlawSoundSaid : Prop := flawSoundRow.holds Tryd.pinned (OpenSpec.ofChange flawSoundSpec)

/-- ITS FALSE NEIGHBOUR: 'it returns false'. Refute it at one input. -/
def flawSoundWrong : ChangeSpec := { name := "flawSound", fn := fun _ => fun
  | [d] => { results := [.lit (.bool false)], args := [d] }
  | _ => none }
def FlawSoundWrongFalsely : Prop := flawSoundRow.holds Tryd.pinned (OpenSpec.ofChange flawSoundWrong)

/- THE SECOND FORM. 'bulk': how many values and letters a reading holds, each counted each time it is reached (what is shared counts as often as it is met; a slice's spare places count too). A statement '..UptoSaid' is the law's where the arguments, and the package variables that the reading takes, are together of bulk at most 1048576: NARROWER than '..Said'. Prove '..Said' where nothing that the law and all that it calls make is longer than what came in: it says more and counts as full. Else prove '..UptoSaid'. A law counts once. -/
mutual
def uptoBulk {H : Type} : DataW H → Nat
  | .lit (.string bytes) => bytes.length + 1
  | .lit _ => 1
  | .nil => 1
  | .ptr d => uptoBulk d + 1
  | .slice elems spare => uptoBulkAll elems + uptoBulkAll spare + 1
  | .agg parts => uptoBulkAll parts + 1
  | .iface _ d => uptoBulk d + 1
  | .map entries => uptoBulkEntries entries + 1
  | .held _ => 1
def uptoBulkAll {H : Type} : List (DataW H) → Nat
  | [] => 0
  | d :: r => uptoBulk d + uptoBulkAll r
def uptoBulkEntries {H : Type} : List (Lit × DataW H) → Nat
  | [] => 0
  | x :: r => uptoBulkEntry x + uptoBulkEntries r
def uptoBulkEntry {H : Type} : Lit × DataW H → Nat
  | (.string bytes, d) => bytes.length + uptoBulk d + 1
  | (_, d) => uptoBulk d + 1
 end
def uptoSmall : (H : Type) → List (DataW H) → Bool := fun _ ds => decide (uptoBulkAll ds ≤ 1048576)
def OpenSpec.upto (s : _root_.Go.ChangeSpec) : _root_.Go.OpenSpec := { _root_.Go.OpenSpec.ofChange s with cond := some uptoSmall }

/-- 'syllabarylaw02.SchemeChecks', WHERE WHAT IT READS IS OF BULK AT MOST 1048576: true; the input reads as it did. -/
def schemeChecksUptoRow : OpenClaim := { program := "ytnbiedijofdjhaadoor", sum := "ed85dbbca484cc2a1d923bc792bdb824a8725d7f5efac3226f830a444af9134e", func := "syllabary/syllabarylaw02.SchemeChecks", spec := "schemeChecks", inPlace := ["internal/bytealg.IndexByteString", "internal/bytealg.IndexString", "internal/bytealg.CountString", "internal/abi.NoEscape", "internal/bytealg.MakeNoZero"], unfollowed := true, recurses := true, named := ["syllabary/scheme.stretches", "internal/bytealg.MaxLen", "unicode/utf8.first", "unicode/utf8.acceptRanges", "internal/strconv.uint64pow10", "math/bits.deBruijn32tab", "math/bits.deBruijn64tab"], apart := false, laid := [("math/bits.deBruijn32tab", laid_math_bits_deBruijn32tab), ("math/bits.deBruijn64tab", laid_math_bits_deBruijn64tab), ("internal/strconv.uint64pow10", laid_internal_strconv_uint64pow10), ("unicode/utf8.acceptRanges", laid_unicode_utf8_acceptRanges), ("syllabary/scheme.stretches", laid_syllabary_scheme_stretches), ("unicode/utf8.first", laid_unicode_utf8_first)], narrowed := true }
def SchemeChecksUptoSaid : Prop := schemeChecksUptoRow.holds Tryd.pinned (OpenSpec.upto schemeChecksSpec)

/-- 'syllabarylaw02.SchemeRoundTrips', WHERE WHAT IT READS IS OF BULK AT MOST 1048576: true; the input reads as it did. -/
def schemeRoundTripsUptoRow : OpenClaim := { program := "ytnbiedijofdjhaadoor", sum := "ed85dbbca484cc2a1d923bc792bdb824a8725d7f5efac3226f830a444af9134e", func := "syllabary/syllabarylaw02.SchemeRoundTrips", spec := "schemeRoundTrips", inPlace := ["internal/bytealg.IndexByteString", "internal/bytealg.IndexString", "internal/bytealg.CountString", "internal/abi.NoEscape", "internal/bytealg.MakeNoZero"], unfollowed := true, recurses := true, named := ["syllabary/scheme.stretches", "internal/bytealg.MaxLen", "unicode/utf8.first", "unicode/utf8.acceptRanges", "internal/strconv.uint64pow10", "math/bits.deBruijn32tab", "math/bits.deBruijn64tab"], apart := false, laid := [("math/bits.deBruijn32tab", laid_math_bits_deBruijn32tab), ("math/bits.deBruijn64tab", laid_math_bits_deBruijn64tab), ("internal/strconv.uint64pow10", laid_internal_strconv_uint64pow10), ("unicode/utf8.acceptRanges", laid_unicode_utf8_acceptRanges), ("syllabary/scheme.stretches", laid_syllabary_scheme_stretches), ("unicode/utf8.first", laid_unicode_utf8_first)], narrowed := true }
def SchemeRoundTripsUptoSaid : Prop := schemeRoundTripsUptoRow.holds Tryd.pinned (OpenSpec.upto schemeRoundTripsSpec)

/-- 'syllabarylaw02.SchemeParses', WHERE WHAT IT READS IS OF BULK AT MOST 1048576: true; the input reads as it did. -/
def schemeParsesUptoRow : OpenClaim := { program := "ytnbiedijofdjhaadoor", sum := "ed85dbbca484cc2a1d923bc792bdb824a8725d7f5efac3226f830a444af9134e", func := "syllabary/syllabarylaw02.SchemeParses", spec := "schemeParses", inPlace := ["internal/bytealg.IndexByteString", "internal/bytealg.IndexString", "internal/bytealg.CountString", "internal/abi.NoEscape", "internal/bytealg.MakeNoZero"], unfollowed := true, recurses := true, named := ["syllabary/scheme.stretches", "internal/bytealg.MaxLen", "unicode/utf8.first", "unicode/utf8.acceptRanges", "internal/strconv.uint64pow10", "math/bits.deBruijn32tab", "math/bits.deBruijn64tab"], apart := false, laid := [("math/bits.deBruijn32tab", laid_math_bits_deBruijn32tab), ("math/bits.deBruijn64tab", laid_math_bits_deBruijn64tab), ("internal/strconv.uint64pow10", laid_internal_strconv_uint64pow10), ("unicode/utf8.acceptRanges", laid_unicode_utf8_acceptRanges), ("syllabary/scheme.stretches", laid_syllabary_scheme_stretches), ("unicode/utf8.first", laid_unicode_utf8_first)], narrowed := true }
def SchemeParsesUptoSaid : Prop := schemeParsesUptoRow.holds Tryd.pinned (OpenSpec.upto schemeParsesSpec)

/-- 'syllabarylaw02.SchemeRules', WHERE WHAT IT READS IS OF BULK AT MOST 1048576: true; the input reads as it did. -/
def schemeRulesUptoRow : OpenClaim := { program := "ytnbiedijofdjhaadoor", sum := "ed85dbbca484cc2a1d923bc792bdb824a8725d7f5efac3226f830a444af9134e", func := "syllabary/syllabarylaw02.SchemeRules", spec := "schemeRules", inPlace := ["internal/bytealg.IndexByteString", "internal/bytealg.IndexString", "internal/bytealg.CountString", "internal/abi.NoEscape", "internal/bytealg.MakeNoZero"], unfollowed := true, recurses := true, named := ["syllabary/scheme.stretches", "internal/bytealg.MaxLen", "unicode/utf8.first", "unicode/utf8.acceptRanges", "internal/strconv.uint64pow10", "math/bits.deBruijn32tab", "math/bits.deBruijn64tab"], apart := false, laid := [("math/bits.deBruijn32tab", laid_math_bits_deBruijn32tab), ("math/bits.deBruijn64tab", laid_math_bits_deBruijn64tab), ("internal/strconv.uint64pow10", laid_internal_strconv_uint64pow10), ("unicode/utf8.acceptRanges", laid_unicode_utf8_acceptRanges), ("syllabary/scheme.stretches", laid_syllabary_scheme_stretches), ("unicode/utf8.first", laid_unicode_utf8_first)], narrowed := true }
def SchemeRulesUptoSaid : Prop := schemeRulesUptoRow.holds Tryd.pinned (OpenSpec.upto schemeRulesSpec)

/-- 'syllabarylaw02.SchemeLimits', WHERE WHAT IT READS IS OF BULK AT MOST 1048576: true; the input reads as it did. -/
def schemeLimitsUptoRow : OpenClaim := { program := "ytnbiedijofdjhaadoor", sum := "ed85dbbca484cc2a1d923bc792bdb824a8725d7f5efac3226f830a444af9134e", func := "syllabary/syllabarylaw02.SchemeLimits", spec := "schemeLimits", inPlace := ["internal/bytealg.IndexByteString", "internal/bytealg.IndexString", "internal/bytealg.CountString", "internal/abi.NoEscape", "internal/bytealg.MakeNoZero"], unfollowed := true, recurses := true, named := ["syllabary/scheme.stretches", "internal/bytealg.MaxLen", "unicode/utf8.first", "unicode/utf8.acceptRanges", "internal/strconv.uint64pow10", "math/bits.deBruijn32tab", "math/bits.deBruijn64tab"], apart := false, laid := [("math/bits.deBruijn32tab", laid_math_bits_deBruijn32tab), ("math/bits.deBruijn64tab", laid_math_bits_deBruijn64tab), ("internal/strconv.uint64pow10", laid_internal_strconv_uint64pow10), ("unicode/utf8.acceptRanges", laid_unicode_utf8_acceptRanges), ("syllabary/scheme.stretches", laid_syllabary_scheme_stretches), ("unicode/utf8.first", laid_unicode_utf8_first)], narrowed := true }
def SchemeLimitsUptoSaid : Prop := schemeLimitsUptoRow.holds Tryd.pinned (OpenSpec.upto schemeLimitsSpec)

/-- 'syllabarylaw02.SchemeOrders', WHERE WHAT IT READS IS OF BULK AT MOST 1048576: true; the input reads as it did. -/
def schemeOrdersUptoRow : OpenClaim := { program := "ytnbiedijofdjhaadoor", sum := "ed85dbbca484cc2a1d923bc792bdb824a8725d7f5efac3226f830a444af9134e", func := "syllabary/syllabarylaw02.SchemeOrders", spec := "schemeOrders", inPlace := ["internal/bytealg.IndexByteString", "internal/bytealg.IndexString", "internal/bytealg.CountString", "internal/abi.NoEscape", "internal/bytealg.MakeNoZero"], unfollowed := true, recurses := true, named := ["syllabary/scheme.stretches", "internal/bytealg.MaxLen", "unicode/utf8.first", "unicode/utf8.acceptRanges", "internal/strconv.uint64pow10", "math/bits.deBruijn32tab", "math/bits.deBruijn64tab"], apart := false, laid := [("math/bits.deBruijn32tab", laid_math_bits_deBruijn32tab), ("math/bits.deBruijn64tab", laid_math_bits_deBruijn64tab), ("internal/strconv.uint64pow10", laid_internal_strconv_uint64pow10), ("unicode/utf8.acceptRanges", laid_unicode_utf8_acceptRanges), ("syllabary/scheme.stretches", laid_syllabary_scheme_stretches), ("unicode/utf8.first", laid_unicode_utf8_first)], narrowed := true }
def SchemeOrdersUptoSaid : Prop := schemeOrdersUptoRow.holds Tryd.pinned (OpenSpec.upto schemeOrdersSpec)

/-- 'syllabarylaw02.SchemeTexts', WHERE WHAT IT READS IS OF BULK AT MOST 1048576: true; the input reads as it did. -/
def schemeTextsUptoRow : OpenClaim := { program := "ytnbiedijofdjhaadoor", sum := "ed85dbbca484cc2a1d923bc792bdb824a8725d7f5efac3226f830a444af9134e", func := "syllabary/syllabarylaw02.SchemeTexts", spec := "schemeTexts", inPlace := ["internal/bytealg.IndexByteString", "internal/bytealg.IndexString", "internal/bytealg.CountString", "internal/abi.NoEscape", "internal/bytealg.MakeNoZero"], unfollowed := true, recurses := true, named := ["syllabary/scheme.stretches", "internal/bytealg.MaxLen", "unicode/utf8.first", "unicode/utf8.acceptRanges", "internal/strconv.uint64pow10", "math/bits.deBruijn32tab", "math/bits.deBruijn64tab"], apart := false, laid := [("math/bits.deBruijn32tab", laid_math_bits_deBruijn32tab), ("math/bits.deBruijn64tab", laid_math_bits_deBruijn64tab), ("internal/strconv.uint64pow10", laid_internal_strconv_uint64pow10), ("unicode/utf8.acceptRanges", laid_unicode_utf8_acceptRanges), ("syllabary/scheme.stretches", laid_syllabary_scheme_stretches), ("unicode/utf8.first", laid_unicode_utf8_first)], narrowed := true }
def SchemeTextsUptoSaid : Prop := schemeTextsUptoRow.holds Tryd.pinned (OpenSpec.upto schemeTextsSpec)

/-- 'syllabarylaw04.FlawMatchesReference', WHERE WHAT IT READS IS OF BULK AT MOST 1048576: true; the input reads as it did. -/
def flawMatchesReferenceUptoRow : OpenClaim := { program := "ytnbiedijofdjhaadoor", sum := "ed85dbbca484cc2a1d923bc792bdb824a8725d7f5efac3226f830a444af9134e", func := "syllabary/syllabarylaw04.FlawMatchesReference", spec := "flawMatchesReference", unfollowed := true, recurses := true, named := ["syllabary/scheme.stretches"], apart := false, laid := [("syllabary/scheme.stretches", laid_syllabary_scheme_stretches)], narrowed := true }
def FlawMatchesReferenceUptoSaid : Prop := flawMatchesReferenceUptoRow.holds Tryd.pinned (OpenSpec.upto flawMatchesReferenceSpec)

/-- 'syllabarylaw04.FlawProves', WHERE WHAT IT READS IS OF BULK AT MOST 1048576: true; the input reads as it did. -/
def flawProvesUptoRow : OpenClaim := { program := "ytnbiedijofdjhaadoor", sum := "ed85dbbca484cc2a1d923bc792bdb824a8725d7f5efac3226f830a444af9134e", func := "syllabary/syllabarylaw04.FlawProves", spec := "flawProves", unfollowed := true, recurses := true, named := ["syllabary/scheme.stretches"], apart := false, laid := [("syllabary/scheme.stretches", laid_syllabary_scheme_stretches)], narrowed := true }
def FlawProvesUptoSaid : Prop := flawProvesUptoRow.holds Tryd.pinned (OpenSpec.upto flawProvesSpec)

/-- 'syllabarylaw04.FlawDead', WHERE WHAT IT READS IS OF BULK AT MOST 1048576: true; the input reads as it did. -/
def flawDeadUptoRow : OpenClaim := { program := "ytnbiedijofdjhaadoor", sum := "ed85dbbca484cc2a1d923bc792bdb824a8725d7f5efac3226f830a444af9134e", func := "syllabary/syllabarylaw04.FlawDead", spec := "flawDead", unfollowed := true, recurses := true, named := ["syllabary/scheme.stretches"], apart := false, laid := [("syllabary/scheme.stretches", laid_syllabary_scheme_stretches)], narrowed := true }
def FlawDeadUptoSaid : Prop := flawDeadUptoRow.holds Tryd.pinned (OpenSpec.upto flawDeadSpec)

/-- 'syllabarylaw04.FlawChains', WHERE WHAT IT READS IS OF BULK AT MOST 1048576: true; the input reads as it did. -/
def flawChainsUptoRow : OpenClaim := { program := "ytnbiedijofdjhaadoor", sum := "ed85dbbca484cc2a1d923bc792bdb824a8725d7f5efac3226f830a444af9134e", func := "syllabary/syllabarylaw04.FlawChains", spec := "flawChains", unfollowed := true, recurses := true, named := ["syllabary/scheme.stretches"], apart := false, laid := [("syllabary/scheme.stretches", laid_syllabary_scheme_stretches)], narrowed := true }
def FlawChainsUptoSaid : Prop := flawChainsUptoRow.holds Tryd.pinned (OpenSpec.upto flawChainsSpec)

/-- 'syllabarylaw04.FlawSound', WHERE WHAT IT READS IS OF BULK AT MOST 1048576: true; the input reads as it did. -/
def flawSoundUptoRow : OpenClaim := { program := "ytnbiedijofdjhaadoor", sum := "ed85dbbca484cc2a1d923bc792bdb824a8725d7f5efac3226f830a444af9134e", func := "syllabary/syllabarylaw04.FlawSound", spec := "flawSound", unfollowed := true, recurses := true, named := ["syllabary/scheme.stretches"], apart := false, laid := [("syllabary/scheme.stretches", laid_syllabary_scheme_stretches)], narrowed := true }
def FlawSoundUptoSaid : Prop := flawSoundUptoRow.holds Tryd.pinned (OpenSpec.upto flawSoundSpec)

end Rows
end Go.Proofs.YtnbiedijofdjhaaDoor

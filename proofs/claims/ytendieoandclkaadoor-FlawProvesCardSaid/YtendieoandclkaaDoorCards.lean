/-
  DERIVED. GIVEN WITH THE SEED: THE CARDS: each row of YtendieoandclkaaDoorRows.lean that lists a variable, with what it lists TIED to the program's text (the seventh form; the later family's looks); each row that meets fmt, with fmt's text TOLD by the authors' own Lean function (tested against real Go, not proved from fmt's source: count such statements apart). THE CARD IS WHAT COUNTS. Prove the row's statement (the work); the ties are given (YtendieoandclkaaDoorTie.lean); close each card by the builder's one call (the guide's Derived/Test/ToyasCard.lean, 'card_holds'). Laid BY PROGRAM, IN A SANDBOX (cutbox-door.mjs). By AI agents, Wed Nov 11 2026. No macro, syntax, notation, axiom, sorry.
-/
import Derived.Test.YtendieoandclkaaDoorRows
import GoSem.ClaimSeven
namespace Go.Proofs.YtendieoandclkaaDoor
namespace Rows

/-- THE TIED CARD OF 'syllabarylaw04.FlawMatchesReference'. -/
def flawMatchesReferenceCard : Claim7 := { stood := { row := flawMatchesReferenceRow, standIns := [], harness := (true, "a507d9c7356bfb861137dfbf61356f535894fe8546c4fe87c5f14bdc346f89e0"), looks := false }, kinds := [], alts := [], laidByText := true, laidKinds := [.data], laidTests := true, laidLooks := .later }
def FlawMatchesReferenceCardSaid : Prop := Claim7.holds Tryd.pinned (.plain (OpenSpec.ofChange flawMatchesReferenceSpec)) flawMatchesReferenceCard

/-- THE TIED CARD OF 'syllabarylaw04.FlawProves'. -/
def flawProvesCard : Claim7 := { stood := { row := flawProvesRow, standIns := [], harness := (true, "a507d9c7356bfb861137dfbf61356f535894fe8546c4fe87c5f14bdc346f89e0"), looks := false }, kinds := [], alts := [], laidByText := true, laidKinds := [.data], laidTests := true, laidLooks := .later }
def FlawProvesCardSaid : Prop := Claim7.holds Tryd.pinned (.plain (OpenSpec.ofChange flawProvesSpec)) flawProvesCard

/-- THE TIED CARD OF 'syllabarylaw04.FlawChains'. -/
def flawChainsCard : Claim7 := { stood := { row := flawChainsRow, standIns := [], harness := (true, "a507d9c7356bfb861137dfbf61356f535894fe8546c4fe87c5f14bdc346f89e0"), looks := false }, kinds := [], alts := [], laidByText := true, laidKinds := [.data], laidTests := true, laidLooks := .later }
def FlawChainsCardSaid : Prop := Claim7.holds Tryd.pinned (.plain (OpenSpec.ofChange flawChainsSpec)) flawChainsCard

/-- THE TIED CARD OF 'syllabarylaw04.FlawAdds'. -/
def flawAddsCard : Claim7 := { stood := { row := flawAddsRow, standIns := [], harness := (true, "a507d9c7356bfb861137dfbf61356f535894fe8546c4fe87c5f14bdc346f89e0"), looks := false }, kinds := [], alts := [], laidByText := true, laidKinds := [.data], laidTests := true, laidLooks := .later }
def FlawAddsCardSaid : Prop := Claim7.holds Tryd.pinned (.plain (OpenSpec.ofChange flawAddsSpec)) flawAddsCard

/-- THE SECOND FORM's CARD OF 'syllabarylaw04.FlawMatchesReference'. -/
def flawMatchesReferenceUptoCard : Claim7 := { stood := { row := flawMatchesReferenceUptoRow, standIns := [], harness := (true, "a507d9c7356bfb861137dfbf61356f535894fe8546c4fe87c5f14bdc346f89e0"), looks := false }, kinds := [], alts := [], laidByText := true, laidKinds := [.data], laidTests := true, laidLooks := .later }
def FlawMatchesReferenceUptoCardSaid : Prop := Claim7.holds Tryd.pinned (.plain (OpenSpec.upto flawMatchesReferenceSpec)) flawMatchesReferenceUptoCard

/-- THE SECOND FORM's CARD OF 'syllabarylaw04.FlawProves'. -/
def flawProvesUptoCard : Claim7 := { stood := { row := flawProvesUptoRow, standIns := [], harness := (true, "a507d9c7356bfb861137dfbf61356f535894fe8546c4fe87c5f14bdc346f89e0"), looks := false }, kinds := [], alts := [], laidByText := true, laidKinds := [.data], laidTests := true, laidLooks := .later }
def FlawProvesUptoCardSaid : Prop := Claim7.holds Tryd.pinned (.plain (OpenSpec.upto flawProvesSpec)) flawProvesUptoCard

/-- THE SECOND FORM's CARD OF 'syllabarylaw04.FlawChains'. -/
def flawChainsUptoCard : Claim7 := { stood := { row := flawChainsUptoRow, standIns := [], harness := (true, "a507d9c7356bfb861137dfbf61356f535894fe8546c4fe87c5f14bdc346f89e0"), looks := false }, kinds := [], alts := [], laidByText := true, laidKinds := [.data], laidTests := true, laidLooks := .later }
def FlawChainsUptoCardSaid : Prop := Claim7.holds Tryd.pinned (.plain (OpenSpec.upto flawChainsSpec)) flawChainsUptoCard

/-- THE SECOND FORM's CARD OF 'syllabarylaw04.FlawAdds'. -/
def flawAddsUptoCard : Claim7 := { stood := { row := flawAddsUptoRow, standIns := [], harness := (true, "a507d9c7356bfb861137dfbf61356f535894fe8546c4fe87c5f14bdc346f89e0"), looks := false }, kinds := [], alts := [], laidByText := true, laidKinds := [.data], laidTests := true, laidLooks := .later }
def FlawAddsUptoCardSaid : Prop := Claim7.holds Tryd.pinned (.plain (OpenSpec.upto flawAddsSpec)) flawAddsUptoCard
end Rows
end Go.Proofs.YtendieoandclkaaDoor

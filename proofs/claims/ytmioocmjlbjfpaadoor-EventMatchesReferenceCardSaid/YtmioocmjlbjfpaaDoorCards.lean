/-
  DERIVED. GIVEN WITH THE SEED: THE CARDS: each row of YtmioocmjlbjfpaaDoorRows.lean that lists a variable, with what it lists TIED to the program's text (the seventh form; the later family's looks); each row that meets fmt, with fmt's text TOLD by the authors' own Lean function (tested against real Go, not proved from fmt's source: count such statements apart). THE CARD IS WHAT COUNTS. Prove the row's statement (the work); the ties are given (YtmioocmjlbjfpaaDoorTie.lean); close each card by the builder's one call (the guide's Derived/Test/ToyasCard.lean, 'card_holds'). Laid BY PROGRAM, IN A SANDBOX (cutbox-door.mjs). By AI agents, Wed Nov 11 2026. No macro, syntax, notation, axiom, sorry.
-/
import Derived.Test.YtmioocmjlbjfpaaDoorRows
import GoSem.ClaimSeven
namespace Go.Proofs.YtmioocmjlbjfpaaDoor
namespace Rows

/-- THE TIED CARD OF 'syllabarylaw01.EventMatchesReference'. -/
def eventMatchesReferenceCard : Claim7 := { stood := { row := eventMatchesReferenceRow, standIns := [], harness := (true, "efb94044594714d9d99a062ad4e2669aa5ce2c520f52f87a9f294aa830350b26"), looks := false }, kinds := [], alts := [], laidByText := true, laidKinds := [.data, .data, .data], laidTests := true, laidLooks := .later }
def EventMatchesReferenceCardSaid : Prop := Claim7.holds Tryd.pinned (.plain (OpenSpec.ofChange eventMatchesReferenceSpec)) eventMatchesReferenceCard

/-- THE SECOND FORM's CARD OF 'syllabarylaw01.EventMatchesReference'. -/
def eventMatchesReferenceUptoCard : Claim7 := { stood := { row := eventMatchesReferenceUptoRow, standIns := [], harness := (true, "efb94044594714d9d99a062ad4e2669aa5ce2c520f52f87a9f294aa830350b26"), looks := false }, kinds := [], alts := [], laidByText := true, laidKinds := [.data, .data, .data], laidTests := true, laidLooks := .later }
def EventMatchesReferenceUptoCardSaid : Prop := Claim7.holds Tryd.pinned (.plain (OpenSpec.upto eventMatchesReferenceSpec)) eventMatchesReferenceUptoCard
end Rows
end Go.Proofs.YtmioocmjlbjfpaaDoor

/-
  DERIVED. GIVEN WITH THE SEED: THE CARDS: each row of YtadaijepalhohabDoorRows.lean that lists a variable, with what it lists TIED to the program's text (the seventh form; the later family's looks); each row that meets fmt, with fmt's text TOLD by the authors' own Lean function (tested against real Go, not proved from fmt's source: count such statements apart). THE CARD IS WHAT COUNTS. Prove the row's statement (the work); the ties are given (YtadaijepalhohabDoorTie.lean); close each card by the builder's one call (the guide's Derived/Test/ToyasCard.lean, 'card_holds'). Laid BY PROGRAM, IN A SANDBOX (cutbox-door.mjs). By AI agents, Wed Nov 11 2026. No macro, syntax, notation, axiom, sorry.
-/
import Derived.Test.YtadaijepalhohabDoorRows
import GoSem.ClaimSeven
namespace Go.Proofs.YtadaijepalhohabDoor
namespace Rows

/-- THE TIED CARD OF 'syllabarylaw04.FlawAdds'. -/
def flawAddsCard : Claim7 := { stood := { row := flawAddsRow, standIns := [], harness := (true, "150fd1f7a0bcd025ce5e2bd445c862f1db8ba154b3edf885ca3d7c579e03ec78"), looks := false }, kinds := [], alts := [], laidByText := true, laidKinds := [.data], laidTests := true, laidLooks := .later }
def FlawAddsCardSaid : Prop := Claim7.holds Tryd.pinned (.plain (OpenSpec.ofChange flawAddsSpec)) flawAddsCard

/-- THE SECOND FORM's CARD OF 'syllabarylaw04.FlawAdds'. -/
def flawAddsUptoCard : Claim7 := { stood := { row := flawAddsUptoRow, standIns := [], harness := (true, "150fd1f7a0bcd025ce5e2bd445c862f1db8ba154b3edf885ca3d7c579e03ec78"), looks := false }, kinds := [], alts := [], laidByText := true, laidKinds := [.data], laidTests := true, laidLooks := .later }
def FlawAddsUptoCardSaid : Prop := Claim7.holds Tryd.pinned (.plain (OpenSpec.upto flawAddsSpec)) flawAddsUptoCard
end Rows
end Go.Proofs.YtadaijepalhohabDoor

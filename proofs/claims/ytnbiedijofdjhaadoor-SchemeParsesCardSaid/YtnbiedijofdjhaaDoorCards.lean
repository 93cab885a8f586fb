/-
  DERIVED. GIVEN WITH THE SEED: THE CARDS: each row of YtnbiedijofdjhaaDoorRows.lean that lists a variable, with what it lists TIED to the program's text (the seventh form; the later family's looks); each row that meets fmt, with fmt's text TOLD by the authors' own Lean function (tested against real Go, not proved from fmt's source: count such statements apart). THE CARD IS WHAT COUNTS. Prove the row's statement (the work); the ties are given (YtnbiedijofdjhaaDoorTie.lean); close each card by the builder's one call (the guide's Derived/Test/ToyasCard.lean, 'card_holds'). Laid BY PROGRAM, IN A SANDBOX (cutbox-door.mjs). By AI agents, Wed Nov 11 2026. No macro, syntax, notation, axiom, sorry.
-/
import Derived.Test.YtnbiedijofdjhaaDoorRows
import GoSem.ClaimSeven
namespace Go.Proofs.YtnbiedijofdjhaaDoor
namespace Rows

/-- THE TIED CARD OF 'syllabarylaw02.SchemeChecks'. -/
def schemeChecksCard : Claim7 := { stood := { row := schemeChecksRow, standIns := [], harness := (true, "629b099f7b52a1032af42c0bba8ddbfb788ae6da3dac8e6475f820eb6d5566ca"), looks := false }, kinds := [], alts := [], laidByText := true, laidKinds := [.data, .data, .data, .data, .data, .pinned], laidTests := true, laidLooks := .later }
def SchemeChecksCardSaid : Prop := Claim7.holds Tryd.pinned (.plain (OpenSpec.ofChange schemeChecksSpec)) schemeChecksCard

/-- THE TIED CARD OF 'syllabarylaw02.SchemeRoundTrips'. -/
def schemeRoundTripsCard : Claim7 := { stood := { row := schemeRoundTripsRow, standIns := [], harness := (true, "629b099f7b52a1032af42c0bba8ddbfb788ae6da3dac8e6475f820eb6d5566ca"), looks := false }, kinds := [], alts := [], laidByText := true, laidKinds := [.data, .data, .data, .data, .data, .pinned], laidTests := true, laidLooks := .later }
def SchemeRoundTripsCardSaid : Prop := Claim7.holds Tryd.pinned (.plain (OpenSpec.ofChange schemeRoundTripsSpec)) schemeRoundTripsCard

/-- THE TIED CARD OF 'syllabarylaw02.SchemeParses'. -/
def schemeParsesCard : Claim7 := { stood := { row := schemeParsesRow, standIns := [], harness := (true, "629b099f7b52a1032af42c0bba8ddbfb788ae6da3dac8e6475f820eb6d5566ca"), looks := false }, kinds := [], alts := [], laidByText := true, laidKinds := [.data, .data, .data, .data, .data, .pinned], laidTests := true, laidLooks := .later }
def SchemeParsesCardSaid : Prop := Claim7.holds Tryd.pinned (.plain (OpenSpec.ofChange schemeParsesSpec)) schemeParsesCard

/-- THE TIED CARD OF 'syllabarylaw02.SchemeRules'. -/
def schemeRulesCard : Claim7 := { stood := { row := schemeRulesRow, standIns := [], harness := (true, "629b099f7b52a1032af42c0bba8ddbfb788ae6da3dac8e6475f820eb6d5566ca"), looks := false }, kinds := [], alts := [], laidByText := true, laidKinds := [.data, .data, .data, .data, .data, .pinned], laidTests := true, laidLooks := .later }
def SchemeRulesCardSaid : Prop := Claim7.holds Tryd.pinned (.plain (OpenSpec.ofChange schemeRulesSpec)) schemeRulesCard

/-- THE TIED CARD OF 'syllabarylaw02.SchemeLimits'. -/
def schemeLimitsCard : Claim7 := { stood := { row := schemeLimitsRow, standIns := [], harness := (true, "629b099f7b52a1032af42c0bba8ddbfb788ae6da3dac8e6475f820eb6d5566ca"), looks := false }, kinds := [], alts := [], laidByText := true, laidKinds := [.data, .data, .data, .data, .data, .pinned], laidTests := true, laidLooks := .later }
def SchemeLimitsCardSaid : Prop := Claim7.holds Tryd.pinned (.plain (OpenSpec.ofChange schemeLimitsSpec)) schemeLimitsCard

/-- THE TIED CARD OF 'syllabarylaw02.SchemeOrders'. -/
def schemeOrdersCard : Claim7 := { stood := { row := schemeOrdersRow, standIns := [], harness := (true, "629b099f7b52a1032af42c0bba8ddbfb788ae6da3dac8e6475f820eb6d5566ca"), looks := false }, kinds := [], alts := [], laidByText := true, laidKinds := [.data, .data, .data, .data, .data, .pinned], laidTests := true, laidLooks := .later }
def SchemeOrdersCardSaid : Prop := Claim7.holds Tryd.pinned (.plain (OpenSpec.ofChange schemeOrdersSpec)) schemeOrdersCard

/-- THE TIED CARD OF 'syllabarylaw02.SchemeTexts'. -/
def schemeTextsCard : Claim7 := { stood := { row := schemeTextsRow, standIns := [], harness := (true, "629b099f7b52a1032af42c0bba8ddbfb788ae6da3dac8e6475f820eb6d5566ca"), looks := false }, kinds := [], alts := [], laidByText := true, laidKinds := [.data, .data, .data, .data, .data, .pinned], laidTests := true, laidLooks := .later }
def SchemeTextsCardSaid : Prop := Claim7.holds Tryd.pinned (.plain (OpenSpec.ofChange schemeTextsSpec)) schemeTextsCard

/-- THE TIED CARD OF 'syllabarylaw04.FlawMatchesReference'. -/
def flawMatchesReferenceCard : Claim7 := { stood := { row := flawMatchesReferenceRow, standIns := [], harness := (true, "629b099f7b52a1032af42c0bba8ddbfb788ae6da3dac8e6475f820eb6d5566ca"), looks := false }, kinds := [], alts := [], laidByText := true, laidKinds := [.data], laidTests := true, laidLooks := .later }
def FlawMatchesReferenceCardSaid : Prop := Claim7.holds Tryd.pinned (.plain (OpenSpec.ofChange flawMatchesReferenceSpec)) flawMatchesReferenceCard

/-- THE TIED CARD OF 'syllabarylaw04.FlawProves'. -/
def flawProvesCard : Claim7 := { stood := { row := flawProvesRow, standIns := [], harness := (true, "629b099f7b52a1032af42c0bba8ddbfb788ae6da3dac8e6475f820eb6d5566ca"), looks := false }, kinds := [], alts := [], laidByText := true, laidKinds := [.data], laidTests := true, laidLooks := .later }
def FlawProvesCardSaid : Prop := Claim7.holds Tryd.pinned (.plain (OpenSpec.ofChange flawProvesSpec)) flawProvesCard

/-- THE TIED CARD OF 'syllabarylaw04.FlawDead'. -/
def flawDeadCard : Claim7 := { stood := { row := flawDeadRow, standIns := [], harness := (true, "629b099f7b52a1032af42c0bba8ddbfb788ae6da3dac8e6475f820eb6d5566ca"), looks := false }, kinds := [], alts := [], laidByText := true, laidKinds := [.data], laidTests := true, laidLooks := .later }
def FlawDeadCardSaid : Prop := Claim7.holds Tryd.pinned (.plain (OpenSpec.ofChange flawDeadSpec)) flawDeadCard

/-- THE TIED CARD OF 'syllabarylaw04.FlawChains'. -/
def flawChainsCard : Claim7 := { stood := { row := flawChainsRow, standIns := [], harness := (true, "629b099f7b52a1032af42c0bba8ddbfb788ae6da3dac8e6475f820eb6d5566ca"), looks := false }, kinds := [], alts := [], laidByText := true, laidKinds := [.data], laidTests := true, laidLooks := .later }
def FlawChainsCardSaid : Prop := Claim7.holds Tryd.pinned (.plain (OpenSpec.ofChange flawChainsSpec)) flawChainsCard

/-- THE TIED CARD OF 'syllabarylaw04.FlawSound'. -/
def flawSoundCard : Claim7 := { stood := { row := flawSoundRow, standIns := [], harness := (true, "629b099f7b52a1032af42c0bba8ddbfb788ae6da3dac8e6475f820eb6d5566ca"), looks := false }, kinds := [], alts := [], laidByText := true, laidKinds := [.data], laidTests := true, laidLooks := .later }
def FlawSoundCardSaid : Prop := Claim7.holds Tryd.pinned (.plain (OpenSpec.ofChange flawSoundSpec)) flawSoundCard

/-- THE SECOND FORM's CARD OF 'syllabarylaw02.SchemeChecks'. -/
def schemeChecksUptoCard : Claim7 := { stood := { row := schemeChecksUptoRow, standIns := [], harness := (true, "629b099f7b52a1032af42c0bba8ddbfb788ae6da3dac8e6475f820eb6d5566ca"), looks := false }, kinds := [], alts := [], laidByText := true, laidKinds := [.data, .data, .data, .data, .data, .pinned], laidTests := true, laidLooks := .later }
def SchemeChecksUptoCardSaid : Prop := Claim7.holds Tryd.pinned (.plain (OpenSpec.upto schemeChecksSpec)) schemeChecksUptoCard

/-- THE SECOND FORM's CARD OF 'syllabarylaw02.SchemeRoundTrips'. -/
def schemeRoundTripsUptoCard : Claim7 := { stood := { row := schemeRoundTripsUptoRow, standIns := [], harness := (true, "629b099f7b52a1032af42c0bba8ddbfb788ae6da3dac8e6475f820eb6d5566ca"), looks := false }, kinds := [], alts := [], laidByText := true, laidKinds := [.data, .data, .data, .data, .data, .pinned], laidTests := true, laidLooks := .later }
def SchemeRoundTripsUptoCardSaid : Prop := Claim7.holds Tryd.pinned (.plain (OpenSpec.upto schemeRoundTripsSpec)) schemeRoundTripsUptoCard

/-- THE SECOND FORM's CARD OF 'syllabarylaw02.SchemeParses'. -/
def schemeParsesUptoCard : Claim7 := { stood := { row := schemeParsesUptoRow, standIns := [], harness := (true, "629b099f7b52a1032af42c0bba8ddbfb788ae6da3dac8e6475f820eb6d5566ca"), looks := false }, kinds := [], alts := [], laidByText := true, laidKinds := [.data, .data, .data, .data, .data, .pinned], laidTests := true, laidLooks := .later }
def SchemeParsesUptoCardSaid : Prop := Claim7.holds Tryd.pinned (.plain (OpenSpec.upto schemeParsesSpec)) schemeParsesUptoCard

/-- THE SECOND FORM's CARD OF 'syllabarylaw02.SchemeRules'. -/
def schemeRulesUptoCard : Claim7 := { stood := { row := schemeRulesUptoRow, standIns := [], harness := (true, "629b099f7b52a1032af42c0bba8ddbfb788ae6da3dac8e6475f820eb6d5566ca"), looks := false }, kinds := [], alts := [], laidByText := true, laidKinds := [.data, .data, .data, .data, .data, .pinned], laidTests := true, laidLooks := .later }
def SchemeRulesUptoCardSaid : Prop := Claim7.holds Tryd.pinned (.plain (OpenSpec.upto schemeRulesSpec)) schemeRulesUptoCard

/-- THE SECOND FORM's CARD OF 'syllabarylaw02.SchemeLimits'. -/
def schemeLimitsUptoCard : Claim7 := { stood := { row := schemeLimitsUptoRow, standIns := [], harness := (true, "629b099f7b52a1032af42c0bba8ddbfb788ae6da3dac8e6475f820eb6d5566ca"), looks := false }, kinds := [], alts := [], laidByText := true, laidKinds := [.data, .data, .data, .data, .data, .pinned], laidTests := true, laidLooks := .later }
def SchemeLimitsUptoCardSaid : Prop := Claim7.holds Tryd.pinned (.plain (OpenSpec.upto schemeLimitsSpec)) schemeLimitsUptoCard

/-- THE SECOND FORM's CARD OF 'syllabarylaw02.SchemeOrders'. -/
def schemeOrdersUptoCard : Claim7 := { stood := { row := schemeOrdersUptoRow, standIns := [], harness := (true, "629b099f7b52a1032af42c0bba8ddbfb788ae6da3dac8e6475f820eb6d5566ca"), looks := false }, kinds := [], alts := [], laidByText := true, laidKinds := [.data, .data, .data, .data, .data, .pinned], laidTests := true, laidLooks := .later }
def SchemeOrdersUptoCardSaid : Prop := Claim7.holds Tryd.pinned (.plain (OpenSpec.upto schemeOrdersSpec)) schemeOrdersUptoCard

/-- THE SECOND FORM's CARD OF 'syllabarylaw02.SchemeTexts'. -/
def schemeTextsUptoCard : Claim7 := { stood := { row := schemeTextsUptoRow, standIns := [], harness := (true, "629b099f7b52a1032af42c0bba8ddbfb788ae6da3dac8e6475f820eb6d5566ca"), looks := false }, kinds := [], alts := [], laidByText := true, laidKinds := [.data, .data, .data, .data, .data, .pinned], laidTests := true, laidLooks := .later }
def SchemeTextsUptoCardSaid : Prop := Claim7.holds Tryd.pinned (.plain (OpenSpec.upto schemeTextsSpec)) schemeTextsUptoCard

/-- THE SECOND FORM's CARD OF 'syllabarylaw04.FlawMatchesReference'. -/
def flawMatchesReferenceUptoCard : Claim7 := { stood := { row := flawMatchesReferenceUptoRow, standIns := [], harness := (true, "629b099f7b52a1032af42c0bba8ddbfb788ae6da3dac8e6475f820eb6d5566ca"), looks := false }, kinds := [], alts := [], laidByText := true, laidKinds := [.data], laidTests := true, laidLooks := .later }
def FlawMatchesReferenceUptoCardSaid : Prop := Claim7.holds Tryd.pinned (.plain (OpenSpec.upto flawMatchesReferenceSpec)) flawMatchesReferenceUptoCard

/-- THE SECOND FORM's CARD OF 'syllabarylaw04.FlawProves'. -/
def flawProvesUptoCard : Claim7 := { stood := { row := flawProvesUptoRow, standIns := [], harness := (true, "629b099f7b52a1032af42c0bba8ddbfb788ae6da3dac8e6475f820eb6d5566ca"), looks := false }, kinds := [], alts := [], laidByText := true, laidKinds := [.data], laidTests := true, laidLooks := .later }
def FlawProvesUptoCardSaid : Prop := Claim7.holds Tryd.pinned (.plain (OpenSpec.upto flawProvesSpec)) flawProvesUptoCard

/-- THE SECOND FORM's CARD OF 'syllabarylaw04.FlawDead'. -/
def flawDeadUptoCard : Claim7 := { stood := { row := flawDeadUptoRow, standIns := [], harness := (true, "629b099f7b52a1032af42c0bba8ddbfb788ae6da3dac8e6475f820eb6d5566ca"), looks := false }, kinds := [], alts := [], laidByText := true, laidKinds := [.data], laidTests := true, laidLooks := .later }
def FlawDeadUptoCardSaid : Prop := Claim7.holds Tryd.pinned (.plain (OpenSpec.upto flawDeadSpec)) flawDeadUptoCard

/-- THE SECOND FORM's CARD OF 'syllabarylaw04.FlawChains'. -/
def flawChainsUptoCard : Claim7 := { stood := { row := flawChainsUptoRow, standIns := [], harness := (true, "629b099f7b52a1032af42c0bba8ddbfb788ae6da3dac8e6475f820eb6d5566ca"), looks := false }, kinds := [], alts := [], laidByText := true, laidKinds := [.data], laidTests := true, laidLooks := .later }
def FlawChainsUptoCardSaid : Prop := Claim7.holds Tryd.pinned (.plain (OpenSpec.upto flawChainsSpec)) flawChainsUptoCard

/-- THE SECOND FORM's CARD OF 'syllabarylaw04.FlawSound'. -/
def flawSoundUptoCard : Claim7 := { stood := { row := flawSoundUptoRow, standIns := [], harness := (true, "629b099f7b52a1032af42c0bba8ddbfb788ae6da3dac8e6475f820eb6d5566ca"), looks := false }, kinds := [], alts := [], laidByText := true, laidKinds := [.data], laidTests := true, laidLooks := .later }
def FlawSoundUptoCardSaid : Prop := Claim7.holds Tryd.pinned (.plain (OpenSpec.upto flawSoundSpec)) flawSoundUptoCard
end Rows
end Go.Proofs.YtnbiedijofdjhaaDoor

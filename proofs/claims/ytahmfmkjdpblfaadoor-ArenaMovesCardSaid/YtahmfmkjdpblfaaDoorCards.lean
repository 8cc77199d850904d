/-
  DERIVED. GIVEN WITH THE SEED: THE CARDS: each row of YtahmfmkjdpblfaaDoorRows.lean that lists a variable, with what it lists TIED to the program's text (the seventh form; the later family's looks); each row that meets fmt, with fmt's text TOLD by the authors' own Lean function (tested against real Go, not proved from fmt's source: count such statements apart). THE CARD IS WHAT COUNTS. Prove the row's statement (the work); the ties are given (YtahmfmkjdpblfaaDoorTie.lean); close each card by the builder's one call (the guide's Derived/Test/ToyasCard.lean, 'card_holds'). Laid BY PROGRAM, IN A SANDBOX (cutbox-door.mjs). By AI agents, Wed Nov 11 2026. No macro, syntax, notation, axiom, sorry.
-/
import Derived.Test.YtahmfmkjdpblfaaDoorRows
import GoSem.ClaimSeven
namespace Go.Proofs.YtahmfmkjdpblfaaDoor
namespace Rows

/-- THE TIED CARD OF 'overdrivelaw3.ProgMay'. -/
def progMayCard : Claim7 := { stood := { row := progMayRow, standIns := [], harness := (true, "ef07949a14ce1c95b8fa2c3a945c03892cd787181b2fb3ddb25d7efc62a4e91d"), looks := true }, kinds := [], alts := [], laidByText := true, laidKinds := [.sentinel, .sentinel, .sentinel, .sentinel, .sentinel, .sentinel, .sentinel, .sentinel, .sentinel, .sentinel, .sentinel, .sentinel, .sentinel, .sentinel], laidTests := true, laidLooks := .later }
def ProgMayCardSaid : Prop := Claim7.holds Tryd.pinned (.plain (OpenSpec.ofChange progMaySpec)) progMayCard

/-- THE TIED CARD OF 'overdrivelaw3.ProgEffects'. -/
def progEffectsCard : Claim7 := { stood := { row := progEffectsRow, standIns := [], harness := (true, "ef07949a14ce1c95b8fa2c3a945c03892cd787181b2fb3ddb25d7efc62a4e91d"), looks := true }, kinds := [], alts := [], laidByText := true, laidKinds := [.sentinel, .sentinel, .sentinel, .sentinel, .sentinel, .sentinel, .sentinel, .sentinel, .sentinel, .sentinel, .sentinel, .sentinel, .sentinel, .sentinel], laidTests := true, laidLooks := .later }
def ProgEffectsCardSaid : Prop := Claim7.holds Tryd.pinned (.plain (OpenSpec.ofChange progEffectsSpec)) progEffectsCard

/-- THE TIED CARD OF 'overdrivelaw3.ProgOne'. -/
def progOneCard : Claim7 := { stood := { row := progOneRow, standIns := [], harness := (true, "ef07949a14ce1c95b8fa2c3a945c03892cd787181b2fb3ddb25d7efc62a4e91d"), looks := true }, kinds := [], alts := [], laidByText := true, laidKinds := [.sentinel, .sentinel, .sentinel, .sentinel, .sentinel, .sentinel, .sentinel, .sentinel, .sentinel, .sentinel, .sentinel, .sentinel, .sentinel, .sentinel], laidTests := true, laidLooks := .later }
def ProgOneCardSaid : Prop := Claim7.holds Tryd.pinned (.plain (OpenSpec.ofChange progOneSpec)) progOneCard

/-- THE TIED CARD OF 'overdrivelaw3.ProgCounts'. -/
def progCountsCard : Claim7 := { stood := { row := progCountsRow, standIns := [], harness := (true, "ef07949a14ce1c95b8fa2c3a945c03892cd787181b2fb3ddb25d7efc62a4e91d"), looks := true }, kinds := [], alts := [], laidByText := true, laidKinds := [.sentinel, .sentinel, .sentinel, .sentinel, .sentinel, .sentinel, .sentinel, .sentinel, .sentinel, .sentinel, .sentinel, .sentinel, .sentinel, .sentinel], laidTests := true, laidLooks := .later }
def ProgCountsCardSaid : Prop := Claim7.holds Tryd.pinned (.plain (OpenSpec.ofChange progCountsSpec)) progCountsCard

/-- THE TIED CARD OF 'overdrivelaw3.ProgGoes'. -/
def progGoesCard : Claim7 := { stood := { row := progGoesRow, standIns := [], harness := (true, "ef07949a14ce1c95b8fa2c3a945c03892cd787181b2fb3ddb25d7efc62a4e91d"), looks := true }, kinds := [], alts := [], laidByText := true, laidKinds := [.sentinel, .sentinel, .sentinel, .sentinel, .sentinel, .sentinel, .sentinel, .sentinel, .sentinel, .sentinel, .sentinel, .sentinel, .sentinel, .sentinel], laidTests := true, laidLooks := .later }
def ProgGoesCardSaid : Prop := Claim7.holds Tryd.pinned (.plain (OpenSpec.ofChange progGoesSpec)) progGoesCard

/-- THE TIED CARD OF 'overdrivelaw10.ArenaPlays'. -/
def arenaPlaysCard : Claim7 := { stood := { row := arenaPlaysRow, standIns := [], harness := (true, "ef07949a14ce1c95b8fa2c3a945c03892cd787181b2fb3ddb25d7efc62a4e91d"), looks := true }, kinds := [], alts := [], laidByText := true, laidKinds := [.sentinel, .sentinel, .sentinel, .sentinel, .sentinel, .sentinel, .sentinel, .sentinel, .sentinel, .sentinel, .sentinel, .sentinel, .sentinel, .sentinel], laidTests := true, laidLooks := .later }
def ArenaPlaysCardSaid : Prop := Claim7.holds Tryd.pinned (.plain (OpenSpec.ofChange arenaPlaysSpec)) arenaPlaysCard

/-- THE TIED CARD OF 'overdrivelaw10.ArenaSpaces'. -/
def arenaSpacesCard : Claim7 := { stood := { row := arenaSpacesRow, standIns := [], harness := (true, "ef07949a14ce1c95b8fa2c3a945c03892cd787181b2fb3ddb25d7efc62a4e91d"), looks := true }, kinds := [], alts := [], laidByText := true, laidKinds := [.sentinel], laidTests := true, laidLooks := .later }
def ArenaSpacesCardSaid : Prop := Claim7.holds Tryd.pinned (.plain (OpenSpec.ofChange arenaSpacesSpec)) arenaSpacesCard

/-- THE TIED CARD OF 'overdrivelaw10.ArenaHeads'. -/
def arenaHeadsCard : Claim7 := { stood := { row := arenaHeadsRow, standIns := [], harness := (true, "ef07949a14ce1c95b8fa2c3a945c03892cd787181b2fb3ddb25d7efc62a4e91d"), looks := true }, kinds := [], alts := [], laidByText := true, laidKinds := [.sentinel], laidTests := true, laidLooks := .later }
def ArenaHeadsCardSaid : Prop := Claim7.holds Tryd.pinned (.plain (OpenSpec.ofChange arenaHeadsSpec)) arenaHeadsCard

/-- THE TIED CARD OF 'overdrivelaw10.ArenaMoves'. -/
def arenaMovesCard : Claim7 := { stood := { row := arenaMovesRow, standIns := [], harness := (true, "ef07949a14ce1c95b8fa2c3a945c03892cd787181b2fb3ddb25d7efc62a4e91d"), looks := true }, kinds := [], alts := [], laidByText := true, laidKinds := [.sentinel], laidTests := true, laidLooks := .later }
def ArenaMovesCardSaid : Prop := Claim7.holds Tryd.pinned (.plain (OpenSpec.ofChange arenaMovesSpec)) arenaMovesCard

/-- THE TIED CARD OF 'overdrivelaw15.ScriptBack'. -/
def scriptBackCard : Claim7 := { stood := { row := scriptBackRow, standIns := [], harness := (true, "ef07949a14ce1c95b8fa2c3a945c03892cd787181b2fb3ddb25d7efc62a4e91d"), looks := true }, kinds := [], alts := [], laidByText := true, laidKinds := [.sentinel, .sentinel, .sentinel, .sentinel, .sentinel, .sentinel], laidTests := true, laidLooks := .later }
def ScriptBackCardSaid : Prop := Claim7.holds Tryd.pinned (.plain (OpenSpec.ofChange scriptBackSpec)) scriptBackCard

/-- THE TIED CARD OF 'overdrivelaw15.ScriptPlays'. -/
def scriptPlaysCard : Claim7 := { stood := { row := scriptPlaysRow, standIns := [], harness := (true, "ef07949a14ce1c95b8fa2c3a945c03892cd787181b2fb3ddb25d7efc62a4e91d"), looks := true }, kinds := [], alts := [], laidByText := true, laidKinds := [.sentinel, .sentinel, .sentinel, .sentinel], laidTests := true, laidLooks := .later }
def ScriptPlaysCardSaid : Prop := Claim7.holds Tryd.pinned (.plain (OpenSpec.ofChange scriptPlaysSpec)) scriptPlaysCard

/-- THE TIED CARD OF 'overdrivelaw15.ScriptOne'. -/
def scriptOneCard : Claim7 := { stood := { row := scriptOneRow, standIns := [], harness := (true, "ef07949a14ce1c95b8fa2c3a945c03892cd787181b2fb3ddb25d7efc62a4e91d"), looks := true }, kinds := [], alts := [], laidByText := true, laidKinds := [.sentinel, .sentinel, .sentinel, .sentinel, .sentinel, .sentinel, .sentinel, .sentinel, .sentinel, .sentinel, .sentinel, .sentinel, .sentinel, .sentinel], laidTests := true, laidLooks := .later }
def ScriptOneCardSaid : Prop := Claim7.holds Tryd.pinned (.plain (OpenSpec.ofChange scriptOneSpec)) scriptOneCard

/-- THE SECOND FORM's CARD OF 'overdrivelaw3.ProgMay'. -/
def progMayUptoCard : Claim7 := { stood := { row := progMayUptoRow, standIns := [], harness := (true, "ef07949a14ce1c95b8fa2c3a945c03892cd787181b2fb3ddb25d7efc62a4e91d"), looks := true }, kinds := [], alts := [], laidByText := true, laidKinds := [.sentinel, .sentinel, .sentinel, .sentinel, .sentinel, .sentinel, .sentinel, .sentinel, .sentinel, .sentinel, .sentinel, .sentinel, .sentinel, .sentinel], laidTests := true, laidLooks := .later }
def ProgMayUptoCardSaid : Prop := Claim7.holds Tryd.pinned (.plain (OpenSpec.upto progMaySpec)) progMayUptoCard

/-- THE SECOND FORM's CARD OF 'overdrivelaw3.ProgEffects'. -/
def progEffectsUptoCard : Claim7 := { stood := { row := progEffectsUptoRow, standIns := [], harness := (true, "ef07949a14ce1c95b8fa2c3a945c03892cd787181b2fb3ddb25d7efc62a4e91d"), looks := true }, kinds := [], alts := [], laidByText := true, laidKinds := [.sentinel, .sentinel, .sentinel, .sentinel, .sentinel, .sentinel, .sentinel, .sentinel, .sentinel, .sentinel, .sentinel, .sentinel, .sentinel, .sentinel], laidTests := true, laidLooks := .later }
def ProgEffectsUptoCardSaid : Prop := Claim7.holds Tryd.pinned (.plain (OpenSpec.upto progEffectsSpec)) progEffectsUptoCard

/-- THE SECOND FORM's CARD OF 'overdrivelaw3.ProgOne'. -/
def progOneUptoCard : Claim7 := { stood := { row := progOneUptoRow, standIns := [], harness := (true, "ef07949a14ce1c95b8fa2c3a945c03892cd787181b2fb3ddb25d7efc62a4e91d"), looks := true }, kinds := [], alts := [], laidByText := true, laidKinds := [.sentinel, .sentinel, .sentinel, .sentinel, .sentinel, .sentinel, .sentinel, .sentinel, .sentinel, .sentinel, .sentinel, .sentinel, .sentinel, .sentinel], laidTests := true, laidLooks := .later }
def ProgOneUptoCardSaid : Prop := Claim7.holds Tryd.pinned (.plain (OpenSpec.upto progOneSpec)) progOneUptoCard

/-- THE SECOND FORM's CARD OF 'overdrivelaw3.ProgCounts'. -/
def progCountsUptoCard : Claim7 := { stood := { row := progCountsUptoRow, standIns := [], harness := (true, "ef07949a14ce1c95b8fa2c3a945c03892cd787181b2fb3ddb25d7efc62a4e91d"), looks := true }, kinds := [], alts := [], laidByText := true, laidKinds := [.sentinel, .sentinel, .sentinel, .sentinel, .sentinel, .sentinel, .sentinel, .sentinel, .sentinel, .sentinel, .sentinel, .sentinel, .sentinel, .sentinel], laidTests := true, laidLooks := .later }
def ProgCountsUptoCardSaid : Prop := Claim7.holds Tryd.pinned (.plain (OpenSpec.upto progCountsSpec)) progCountsUptoCard

/-- THE SECOND FORM's CARD OF 'overdrivelaw3.ProgGoes'. -/
def progGoesUptoCard : Claim7 := { stood := { row := progGoesUptoRow, standIns := [], harness := (true, "ef07949a14ce1c95b8fa2c3a945c03892cd787181b2fb3ddb25d7efc62a4e91d"), looks := true }, kinds := [], alts := [], laidByText := true, laidKinds := [.sentinel, .sentinel, .sentinel, .sentinel, .sentinel, .sentinel, .sentinel, .sentinel, .sentinel, .sentinel, .sentinel, .sentinel, .sentinel, .sentinel], laidTests := true, laidLooks := .later }
def ProgGoesUptoCardSaid : Prop := Claim7.holds Tryd.pinned (.plain (OpenSpec.upto progGoesSpec)) progGoesUptoCard

/-- THE SECOND FORM's CARD OF 'overdrivelaw10.ArenaPlays'. -/
def arenaPlaysUptoCard : Claim7 := { stood := { row := arenaPlaysUptoRow, standIns := [], harness := (true, "ef07949a14ce1c95b8fa2c3a945c03892cd787181b2fb3ddb25d7efc62a4e91d"), looks := true }, kinds := [], alts := [], laidByText := true, laidKinds := [.sentinel, .sentinel, .sentinel, .sentinel, .sentinel, .sentinel, .sentinel, .sentinel, .sentinel, .sentinel, .sentinel, .sentinel, .sentinel, .sentinel], laidTests := true, laidLooks := .later }
def ArenaPlaysUptoCardSaid : Prop := Claim7.holds Tryd.pinned (.plain (OpenSpec.upto arenaPlaysSpec)) arenaPlaysUptoCard

/-- THE SECOND FORM's CARD OF 'overdrivelaw10.ArenaSpaces'. -/
def arenaSpacesUptoCard : Claim7 := { stood := { row := arenaSpacesUptoRow, standIns := [], harness := (true, "ef07949a14ce1c95b8fa2c3a945c03892cd787181b2fb3ddb25d7efc62a4e91d"), looks := true }, kinds := [], alts := [], laidByText := true, laidKinds := [.sentinel], laidTests := true, laidLooks := .later }
def ArenaSpacesUptoCardSaid : Prop := Claim7.holds Tryd.pinned (.plain (OpenSpec.upto arenaSpacesSpec)) arenaSpacesUptoCard

/-- THE SECOND FORM's CARD OF 'overdrivelaw10.ArenaHeads'. -/
def arenaHeadsUptoCard : Claim7 := { stood := { row := arenaHeadsUptoRow, standIns := [], harness := (true, "ef07949a14ce1c95b8fa2c3a945c03892cd787181b2fb3ddb25d7efc62a4e91d"), looks := true }, kinds := [], alts := [], laidByText := true, laidKinds := [.sentinel], laidTests := true, laidLooks := .later }
def ArenaHeadsUptoCardSaid : Prop := Claim7.holds Tryd.pinned (.plain (OpenSpec.upto arenaHeadsSpec)) arenaHeadsUptoCard

/-- THE SECOND FORM's CARD OF 'overdrivelaw10.ArenaMoves'. -/
def arenaMovesUptoCard : Claim7 := { stood := { row := arenaMovesUptoRow, standIns := [], harness := (true, "ef07949a14ce1c95b8fa2c3a945c03892cd787181b2fb3ddb25d7efc62a4e91d"), looks := true }, kinds := [], alts := [], laidByText := true, laidKinds := [.sentinel], laidTests := true, laidLooks := .later }
def ArenaMovesUptoCardSaid : Prop := Claim7.holds Tryd.pinned (.plain (OpenSpec.upto arenaMovesSpec)) arenaMovesUptoCard

/-- THE SECOND FORM's CARD OF 'overdrivelaw15.ScriptBack'. -/
def scriptBackUptoCard : Claim7 := { stood := { row := scriptBackUptoRow, standIns := [], harness := (true, "ef07949a14ce1c95b8fa2c3a945c03892cd787181b2fb3ddb25d7efc62a4e91d"), looks := true }, kinds := [], alts := [], laidByText := true, laidKinds := [.sentinel, .sentinel, .sentinel, .sentinel, .sentinel, .sentinel], laidTests := true, laidLooks := .later }
def ScriptBackUptoCardSaid : Prop := Claim7.holds Tryd.pinned (.plain (OpenSpec.upto scriptBackSpec)) scriptBackUptoCard

/-- THE SECOND FORM's CARD OF 'overdrivelaw15.ScriptPlays'. -/
def scriptPlaysUptoCard : Claim7 := { stood := { row := scriptPlaysUptoRow, standIns := [], harness := (true, "ef07949a14ce1c95b8fa2c3a945c03892cd787181b2fb3ddb25d7efc62a4e91d"), looks := true }, kinds := [], alts := [], laidByText := true, laidKinds := [.sentinel, .sentinel, .sentinel, .sentinel], laidTests := true, laidLooks := .later }
def ScriptPlaysUptoCardSaid : Prop := Claim7.holds Tryd.pinned (.plain (OpenSpec.upto scriptPlaysSpec)) scriptPlaysUptoCard

/-- THE SECOND FORM's CARD OF 'overdrivelaw15.ScriptOne'. -/
def scriptOneUptoCard : Claim7 := { stood := { row := scriptOneUptoRow, standIns := [], harness := (true, "ef07949a14ce1c95b8fa2c3a945c03892cd787181b2fb3ddb25d7efc62a4e91d"), looks := true }, kinds := [], alts := [], laidByText := true, laidKinds := [.sentinel, .sentinel, .sentinel, .sentinel, .sentinel, .sentinel, .sentinel, .sentinel, .sentinel, .sentinel, .sentinel, .sentinel, .sentinel, .sentinel], laidTests := true, laidLooks := .later }
def ScriptOneUptoCardSaid : Prop := Claim7.holds Tryd.pinned (.plain (OpenSpec.upto scriptOneSpec)) scriptOneUptoCard
end Rows
end Go.Proofs.YtahmfmkjdpblfaaDoor

/-
  DERIVED. GIVEN WITH THE SEED: THE CARDS: each row of YtjcklfbpdjfibaaDoorRows.lean that lists a variable, with what it lists TIED to the program's text (the seventh form; the later family's looks); each row that meets fmt, with fmt's text TOLD by the authors' own Lean function (tested against real Go, not proved from fmt's source: count such statements apart). THE CARD IS WHAT COUNTS. Prove the row's statement (the work); the ties are given (YtjcklfbpdjfibaaDoorTie.lean); close each card by the builder's one call (the guide's Derived/Test/ToyasCard.lean, 'card_holds'). Laid BY PROGRAM, IN A SANDBOX (cutbox-door.mjs). By AI agents, Wed Nov 11 2026. No macro, syntax, notation, axiom, sorry.
-/
import Derived.Test.YtjcklfbpdjfibaaDoorRows
import GoSem.ClaimSeven
namespace Go.Proofs.YtjcklfbpdjfibaaDoor
namespace Rows

/-- THE TIED CARD OF 'overdrivelaw2.BitsPlays'. -/
def bitsPlaysCard : Claim7 := { stood := { row := bitsPlaysRow, standIns := [], harness := (true, "faad3d9aff9fe1bf4c1bc366c77154fa7cbf98d363371ddd9da5802cdbd0be4c"), looks := true }, kinds := [], alts := [], laidByText := true, laidKinds := [.data], laidTests := true, laidLooks := .later }
def BitsPlaysCardSaid : Prop := Claim7.holds Tryd.pinned (.plain (OpenSpec.ofChange bitsPlaysSpec)) bitsPlaysCard

/-- THE TIED CARD OF 'overdrivelaw3.ProgMay'. -/
def progMayCard : Claim7 := { stood := { row := progMayRow, standIns := [], harness := (true, "faad3d9aff9fe1bf4c1bc366c77154fa7cbf98d363371ddd9da5802cdbd0be4c"), looks := true }, kinds := [], alts := [], laidByText := true, laidKinds := [.sentinel, .sentinel, .sentinel, .sentinel, .sentinel, .sentinel, .sentinel, .sentinel, .sentinel, .sentinel, .sentinel, .sentinel, .sentinel, .sentinel], laidTests := true, laidLooks := .later }
def ProgMayCardSaid : Prop := Claim7.holds Tryd.pinned (.plain (OpenSpec.ofChange progMaySpec)) progMayCard

/-- THE TIED CARD OF 'overdrivelaw3.ProgEffects'. -/
def progEffectsCard : Claim7 := { stood := { row := progEffectsRow, standIns := [], harness := (true, "faad3d9aff9fe1bf4c1bc366c77154fa7cbf98d363371ddd9da5802cdbd0be4c"), looks := true }, kinds := [], alts := [], laidByText := true, laidKinds := [.sentinel, .sentinel, .sentinel, .sentinel, .sentinel, .sentinel, .sentinel, .sentinel, .sentinel, .sentinel, .sentinel, .sentinel, .sentinel, .sentinel], laidTests := true, laidLooks := .later }
def ProgEffectsCardSaid : Prop := Claim7.holds Tryd.pinned (.plain (OpenSpec.ofChange progEffectsSpec)) progEffectsCard

/-- THE TIED CARD OF 'overdrivelaw3.ProgOne'. -/
def progOneCard : Claim7 := { stood := { row := progOneRow, standIns := [], harness := (true, "faad3d9aff9fe1bf4c1bc366c77154fa7cbf98d363371ddd9da5802cdbd0be4c"), looks := true }, kinds := [], alts := [], laidByText := true, laidKinds := [.sentinel, .sentinel, .sentinel, .sentinel, .sentinel, .sentinel, .sentinel, .sentinel, .sentinel, .sentinel, .sentinel, .sentinel, .sentinel, .sentinel], laidTests := true, laidLooks := .later }
def ProgOneCardSaid : Prop := Claim7.holds Tryd.pinned (.plain (OpenSpec.ofChange progOneSpec)) progOneCard

/-- THE TIED CARD OF 'overdrivelaw3.ProgCounts'. -/
def progCountsCard : Claim7 := { stood := { row := progCountsRow, standIns := [], harness := (true, "faad3d9aff9fe1bf4c1bc366c77154fa7cbf98d363371ddd9da5802cdbd0be4c"), looks := true }, kinds := [], alts := [], laidByText := true, laidKinds := [.sentinel, .sentinel, .sentinel, .sentinel, .sentinel, .sentinel, .sentinel, .sentinel, .sentinel, .sentinel, .sentinel, .sentinel, .sentinel, .sentinel], laidTests := true, laidLooks := .later }
def ProgCountsCardSaid : Prop := Claim7.holds Tryd.pinned (.plain (OpenSpec.ofChange progCountsSpec)) progCountsCard

/-- THE TIED CARD OF 'overdrivelaw4.CodecHeads'. -/
def codecHeadsCard : Claim7 := { stood := { row := codecHeadsRow, standIns := [], harness := (true, "faad3d9aff9fe1bf4c1bc366c77154fa7cbf98d363371ddd9da5802cdbd0be4c"), looks := true }, kinds := [], alts := [], laidByText := true, laidKinds := [.sentinel, .sentinel, .sentinel, .sentinel, .sentinel, .sentinel, .sentinel, .sentinel, .sentinel, .sentinel, .sentinel, .sentinel, .sentinel, .sentinel], laidTests := true, laidLooks := .later }
def CodecHeadsCardSaid : Prop := Claim7.holds Tryd.pinned (.plain (OpenSpec.ofChange codecHeadsSpec)) codecHeadsCard

/-- THE TIED CARD OF 'overdrivelaw5.FlowChain'. -/
def flowChainCard : Claim7 := { stood := { row := flowChainRow, standIns := [], harness := (true, "faad3d9aff9fe1bf4c1bc366c77154fa7cbf98d363371ddd9da5802cdbd0be4c"), looks := true }, kinds := [], alts := [], laidByText := true, laidKinds := [.data], laidTests := true, laidLooks := .later }
def FlowChainCardSaid : Prop := Claim7.holds Tryd.pinned (.plain (OpenSpec.ofChange flowChainSpec)) flowChainCard

/-- THE TIED CARD OF 'overdrivelaw15.ScriptBack'. -/
def scriptBackCard : Claim7 := { stood := { row := scriptBackRow, standIns := [], harness := (true, "faad3d9aff9fe1bf4c1bc366c77154fa7cbf98d363371ddd9da5802cdbd0be4c"), looks := true }, kinds := [], alts := [], laidByText := true, laidKinds := [.sentinel, .sentinel, .sentinel, .sentinel, .sentinel, .sentinel], laidTests := true, laidLooks := .later }
def ScriptBackCardSaid : Prop := Claim7.holds Tryd.pinned (.plain (OpenSpec.ofChange scriptBackSpec)) scriptBackCard

/-- THE TIED CARD OF 'overdrivelaw15.ScriptPlays'. -/
def scriptPlaysCard : Claim7 := { stood := { row := scriptPlaysRow, standIns := [], harness := (true, "faad3d9aff9fe1bf4c1bc366c77154fa7cbf98d363371ddd9da5802cdbd0be4c"), looks := true }, kinds := [], alts := [], laidByText := true, laidKinds := [.sentinel, .sentinel, .sentinel, .sentinel], laidTests := true, laidLooks := .later }
def ScriptPlaysCardSaid : Prop := Claim7.holds Tryd.pinned (.plain (OpenSpec.ofChange scriptPlaysSpec)) scriptPlaysCard

/-- THE TIED CARD OF 'overdrivelaw15.ScriptCut'. -/
def scriptCutCard : Claim7 := { stood := { row := scriptCutRow, standIns := [], harness := (true, "faad3d9aff9fe1bf4c1bc366c77154fa7cbf98d363371ddd9da5802cdbd0be4c"), looks := true }, kinds := [], alts := [], laidByText := true, laidKinds := [.sentinel, .sentinel, .sentinel, .sentinel, .sentinel, .sentinel, .sentinel, .sentinel, .sentinel, .sentinel, .sentinel, .sentinel, .sentinel, .sentinel], laidTests := true, laidLooks := .later }
def ScriptCutCardSaid : Prop := Claim7.holds Tryd.pinned (.plain (OpenSpec.ofChange scriptCutSpec)) scriptCutCard

/-- THE TIED CARD OF 'overdrivelaw23.MovesNone'. -/
def movesNoneCard : Claim7 := { stood := { row := movesNoneRow, standIns := [], harness := (true, "faad3d9aff9fe1bf4c1bc366c77154fa7cbf98d363371ddd9da5802cdbd0be4c"), looks := true }, kinds := [], alts := [], laidByText := true, laidKinds := [.sentinel, .sentinel, .sentinel, .sentinel, .sentinel, .sentinel, .sentinel, .sentinel, .sentinel, .sentinel, .sentinel, .sentinel, .sentinel, .sentinel], laidTests := true, laidLooks := .later }
def MovesNoneCardSaid : Prop := Claim7.holds Tryd.pinned (.plain (OpenSpec.ofChange movesNoneSpec)) movesNoneCard

/-- THE SECOND FORM's CARD OF 'overdrivelaw2.BitsPlays'. -/
def bitsPlaysUptoCard : Claim7 := { stood := { row := bitsPlaysUptoRow, standIns := [], harness := (true, "faad3d9aff9fe1bf4c1bc366c77154fa7cbf98d363371ddd9da5802cdbd0be4c"), looks := true }, kinds := [], alts := [], laidByText := true, laidKinds := [.data], laidTests := true, laidLooks := .later }
def BitsPlaysUptoCardSaid : Prop := Claim7.holds Tryd.pinned (.plain (OpenSpec.upto bitsPlaysSpec)) bitsPlaysUptoCard

/-- THE SECOND FORM's CARD OF 'overdrivelaw3.ProgMay'. -/
def progMayUptoCard : Claim7 := { stood := { row := progMayUptoRow, standIns := [], harness := (true, "faad3d9aff9fe1bf4c1bc366c77154fa7cbf98d363371ddd9da5802cdbd0be4c"), looks := true }, kinds := [], alts := [], laidByText := true, laidKinds := [.sentinel, .sentinel, .sentinel, .sentinel, .sentinel, .sentinel, .sentinel, .sentinel, .sentinel, .sentinel, .sentinel, .sentinel, .sentinel, .sentinel], laidTests := true, laidLooks := .later }
def ProgMayUptoCardSaid : Prop := Claim7.holds Tryd.pinned (.plain (OpenSpec.upto progMaySpec)) progMayUptoCard

/-- THE SECOND FORM's CARD OF 'overdrivelaw3.ProgEffects'. -/
def progEffectsUptoCard : Claim7 := { stood := { row := progEffectsUptoRow, standIns := [], harness := (true, "faad3d9aff9fe1bf4c1bc366c77154fa7cbf98d363371ddd9da5802cdbd0be4c"), looks := true }, kinds := [], alts := [], laidByText := true, laidKinds := [.sentinel, .sentinel, .sentinel, .sentinel, .sentinel, .sentinel, .sentinel, .sentinel, .sentinel, .sentinel, .sentinel, .sentinel, .sentinel, .sentinel], laidTests := true, laidLooks := .later }
def ProgEffectsUptoCardSaid : Prop := Claim7.holds Tryd.pinned (.plain (OpenSpec.upto progEffectsSpec)) progEffectsUptoCard

/-- THE SECOND FORM's CARD OF 'overdrivelaw3.ProgOne'. -/
def progOneUptoCard : Claim7 := { stood := { row := progOneUptoRow, standIns := [], harness := (true, "faad3d9aff9fe1bf4c1bc366c77154fa7cbf98d363371ddd9da5802cdbd0be4c"), looks := true }, kinds := [], alts := [], laidByText := true, laidKinds := [.sentinel, .sentinel, .sentinel, .sentinel, .sentinel, .sentinel, .sentinel, .sentinel, .sentinel, .sentinel, .sentinel, .sentinel, .sentinel, .sentinel], laidTests := true, laidLooks := .later }
def ProgOneUptoCardSaid : Prop := Claim7.holds Tryd.pinned (.plain (OpenSpec.upto progOneSpec)) progOneUptoCard

/-- THE SECOND FORM's CARD OF 'overdrivelaw3.ProgCounts'. -/
def progCountsUptoCard : Claim7 := { stood := { row := progCountsUptoRow, standIns := [], harness := (true, "faad3d9aff9fe1bf4c1bc366c77154fa7cbf98d363371ddd9da5802cdbd0be4c"), looks := true }, kinds := [], alts := [], laidByText := true, laidKinds := [.sentinel, .sentinel, .sentinel, .sentinel, .sentinel, .sentinel, .sentinel, .sentinel, .sentinel, .sentinel, .sentinel, .sentinel, .sentinel, .sentinel], laidTests := true, laidLooks := .later }
def ProgCountsUptoCardSaid : Prop := Claim7.holds Tryd.pinned (.plain (OpenSpec.upto progCountsSpec)) progCountsUptoCard

/-- THE SECOND FORM's CARD OF 'overdrivelaw4.CodecHeads'. -/
def codecHeadsUptoCard : Claim7 := { stood := { row := codecHeadsUptoRow, standIns := [], harness := (true, "faad3d9aff9fe1bf4c1bc366c77154fa7cbf98d363371ddd9da5802cdbd0be4c"), looks := true }, kinds := [], alts := [], laidByText := true, laidKinds := [.sentinel, .sentinel, .sentinel, .sentinel, .sentinel, .sentinel, .sentinel, .sentinel, .sentinel, .sentinel, .sentinel, .sentinel, .sentinel, .sentinel], laidTests := true, laidLooks := .later }
def CodecHeadsUptoCardSaid : Prop := Claim7.holds Tryd.pinned (.plain (OpenSpec.upto codecHeadsSpec)) codecHeadsUptoCard

/-- THE SECOND FORM's CARD OF 'overdrivelaw5.FlowChain'. -/
def flowChainUptoCard : Claim7 := { stood := { row := flowChainUptoRow, standIns := [], harness := (true, "faad3d9aff9fe1bf4c1bc366c77154fa7cbf98d363371ddd9da5802cdbd0be4c"), looks := true }, kinds := [], alts := [], laidByText := true, laidKinds := [.data], laidTests := true, laidLooks := .later }
def FlowChainUptoCardSaid : Prop := Claim7.holds Tryd.pinned (.plain (OpenSpec.upto flowChainSpec)) flowChainUptoCard

/-- THE SECOND FORM's CARD OF 'overdrivelaw15.ScriptBack'. -/
def scriptBackUptoCard : Claim7 := { stood := { row := scriptBackUptoRow, standIns := [], harness := (true, "faad3d9aff9fe1bf4c1bc366c77154fa7cbf98d363371ddd9da5802cdbd0be4c"), looks := true }, kinds := [], alts := [], laidByText := true, laidKinds := [.sentinel, .sentinel, .sentinel, .sentinel, .sentinel, .sentinel], laidTests := true, laidLooks := .later }
def ScriptBackUptoCardSaid : Prop := Claim7.holds Tryd.pinned (.plain (OpenSpec.upto scriptBackSpec)) scriptBackUptoCard

/-- THE SECOND FORM's CARD OF 'overdrivelaw15.ScriptPlays'. -/
def scriptPlaysUptoCard : Claim7 := { stood := { row := scriptPlaysUptoRow, standIns := [], harness := (true, "faad3d9aff9fe1bf4c1bc366c77154fa7cbf98d363371ddd9da5802cdbd0be4c"), looks := true }, kinds := [], alts := [], laidByText := true, laidKinds := [.sentinel, .sentinel, .sentinel, .sentinel], laidTests := true, laidLooks := .later }
def ScriptPlaysUptoCardSaid : Prop := Claim7.holds Tryd.pinned (.plain (OpenSpec.upto scriptPlaysSpec)) scriptPlaysUptoCard

/-- THE SECOND FORM's CARD OF 'overdrivelaw15.ScriptCut'. -/
def scriptCutUptoCard : Claim7 := { stood := { row := scriptCutUptoRow, standIns := [], harness := (true, "faad3d9aff9fe1bf4c1bc366c77154fa7cbf98d363371ddd9da5802cdbd0be4c"), looks := true }, kinds := [], alts := [], laidByText := true, laidKinds := [.sentinel, .sentinel, .sentinel, .sentinel, .sentinel, .sentinel, .sentinel, .sentinel, .sentinel, .sentinel, .sentinel, .sentinel, .sentinel, .sentinel], laidTests := true, laidLooks := .later }
def ScriptCutUptoCardSaid : Prop := Claim7.holds Tryd.pinned (.plain (OpenSpec.upto scriptCutSpec)) scriptCutUptoCard

/-- THE SECOND FORM's CARD OF 'overdrivelaw23.MovesNone'. -/
def movesNoneUptoCard : Claim7 := { stood := { row := movesNoneUptoRow, standIns := [], harness := (true, "faad3d9aff9fe1bf4c1bc366c77154fa7cbf98d363371ddd9da5802cdbd0be4c"), looks := true }, kinds := [], alts := [], laidByText := true, laidKinds := [.sentinel, .sentinel, .sentinel, .sentinel, .sentinel, .sentinel, .sentinel, .sentinel, .sentinel, .sentinel, .sentinel, .sentinel, .sentinel, .sentinel], laidTests := true, laidLooks := .later }
def MovesNoneUptoCardSaid : Prop := Claim7.holds Tryd.pinned (.plain (OpenSpec.upto movesNoneSpec)) movesNoneUptoCard
end Rows
end Go.Proofs.YtjcklfbpdjfibaaDoor

/-
  DERIVED. GIVEN WITH THE SEED: THE CARDS: each row of YtpfpieakemnadaaDoorRows.lean that lists a variable, with what it lists TIED to the program's text (the seventh form; the later family's looks); each row that meets fmt, with fmt's text TOLD by the authors' own Lean function (tested against real Go, not proved from fmt's source: count such statements apart). THE CARD IS WHAT COUNTS. Prove the row's statement (the work); the ties are given (YtpfpieakemnadaaDoorTie.lean); close each card by the builder's one call (the guide's Derived/Test/ToyasCard.lean, 'card_holds'). Laid BY PROGRAM, IN A SANDBOX (cutbox-door.mjs). By AI agents, Wed Nov 11 2026. No macro, syntax, notation, axiom, sorry.
-/
import Derived.Test.YtpfpieakemnadaaDoorRows
import GoSem.ClaimSeven
namespace Go.Proofs.YtpfpieakemnadaaDoor
namespace Rows

/-- THE TIED CARD OF 'overdrivelaw2.BitsPlays'. -/
def bitsPlaysCard : Claim7 := { stood := { row := bitsPlaysRow, standIns := [], harness := (true, "af5a62d336be1a25a401e4fbc65360263020479a4327992f56575950acce3f71"), looks := true }, kinds := [], alts := [], laidByText := true, laidKinds := [.data], laidTests := true, laidLooks := .later }
def BitsPlaysCardSaid : Prop := Claim7.holds Tryd.pinned (.plain (OpenSpec.ofChange bitsPlaysSpec)) bitsPlaysCard

/-- THE TIED CARD OF 'overdrivelaw2.BitsAlgebra'. -/
def bitsAlgebraCard : Claim7 := { stood := { row := bitsAlgebraRow, standIns := [], harness := (true, "af5a62d336be1a25a401e4fbc65360263020479a4327992f56575950acce3f71"), looks := true }, kinds := [], alts := [], laidByText := true, laidKinds := [.data], laidTests := true, laidLooks := .later }
def BitsAlgebraCardSaid : Prop := Claim7.holds Tryd.pinned (.plain (OpenSpec.ofChange bitsAlgebraSpec)) bitsAlgebraCard

/-- THE TIED CARD OF 'overdrivelaw2.BitsBounds'. -/
def bitsBoundsCard : Claim7 := { stood := { row := bitsBoundsRow, standIns := [], harness := (true, "af5a62d336be1a25a401e4fbc65360263020479a4327992f56575950acce3f71"), looks := true }, kinds := [], alts := [], laidByText := true, laidKinds := [.data], laidTests := true, laidLooks := .later }
def BitsBoundsCardSaid : Prop := Claim7.holds Tryd.pinned (.plain (OpenSpec.ofChange bitsBoundsSpec)) bitsBoundsCard

/-- THE TIED CARD OF 'overdrivelaw2.BitsOrder'. -/
def bitsOrderCard : Claim7 := { stood := { row := bitsOrderRow, standIns := [], harness := (true, "af5a62d336be1a25a401e4fbc65360263020479a4327992f56575950acce3f71"), looks := true }, kinds := [], alts := [], laidByText := true, laidKinds := [.data], laidTests := true, laidLooks := .later }
def BitsOrderCardSaid : Prop := Claim7.holds Tryd.pinned (.plain (OpenSpec.ofChange bitsOrderSpec)) bitsOrderCard

/-- THE TIED CARD OF 'overdrivelaw2.BitsApart'. -/
def bitsApartCard : Claim7 := { stood := { row := bitsApartRow, standIns := [], harness := (true, "af5a62d336be1a25a401e4fbc65360263020479a4327992f56575950acce3f71"), looks := true }, kinds := [], alts := [], laidByText := true, laidKinds := [.data], laidTests := true, laidLooks := .later }
def BitsApartCardSaid : Prop := Claim7.holds Tryd.pinned (.plain (OpenSpec.ofChange bitsApartSpec)) bitsApartCard

/-- THE TIED CARD OF 'overdrivelaw3.ProgOne'. -/
def progOneCard : Claim7 := { stood := { row := progOneRow, standIns := [], harness := (true, "af5a62d336be1a25a401e4fbc65360263020479a4327992f56575950acce3f71"), looks := true }, kinds := [], alts := [], laidByText := true, laidKinds := [.sentinel, .sentinel, .sentinel, .sentinel, .sentinel, .sentinel, .sentinel, .sentinel, .sentinel, .sentinel, .sentinel, .sentinel, .sentinel, .sentinel], laidTests := true, laidLooks := .later }
def ProgOneCardSaid : Prop := Claim7.holds Tryd.pinned (.plain (OpenSpec.ofChange progOneSpec)) progOneCard

/-- THE TIED CARD OF 'overdrivelaw3.ProgCounts'. -/
def progCountsCard : Claim7 := { stood := { row := progCountsRow, standIns := [], harness := (true, "af5a62d336be1a25a401e4fbc65360263020479a4327992f56575950acce3f71"), looks := true }, kinds := [], alts := [], laidByText := true, laidKinds := [.sentinel, .sentinel, .sentinel, .sentinel, .sentinel, .sentinel, .sentinel, .sentinel, .sentinel, .sentinel, .sentinel, .sentinel, .sentinel, .sentinel], laidTests := true, laidLooks := .later }
def ProgCountsCardSaid : Prop := Claim7.holds Tryd.pinned (.plain (OpenSpec.ofChange progCountsSpec)) progCountsCard

/-- THE TIED CARD OF 'overdrivelaw3.ProgGoes'. -/
def progGoesCard : Claim7 := { stood := { row := progGoesRow, standIns := [], harness := (true, "af5a62d336be1a25a401e4fbc65360263020479a4327992f56575950acce3f71"), looks := true }, kinds := [], alts := [], laidByText := true, laidKinds := [.sentinel, .sentinel, .sentinel, .sentinel, .sentinel, .sentinel, .sentinel, .sentinel, .sentinel, .sentinel, .sentinel, .sentinel, .sentinel, .sentinel], laidTests := true, laidLooks := .later }
def ProgGoesCardSaid : Prop := Claim7.holds Tryd.pinned (.plain (OpenSpec.ofChange progGoesSpec)) progGoesCard

/-- THE TIED CARD OF 'overdrivelaw4.CodecHeads'. -/
def codecHeadsCard : Claim7 := { stood := { row := codecHeadsRow, standIns := [], harness := (true, "af5a62d336be1a25a401e4fbc65360263020479a4327992f56575950acce3f71"), looks := true }, kinds := [], alts := [], laidByText := true, laidKinds := [.sentinel, .sentinel, .sentinel, .sentinel, .sentinel, .sentinel, .sentinel, .sentinel, .sentinel, .sentinel, .sentinel, .sentinel, .sentinel, .sentinel], laidTests := true, laidLooks := .later }
def CodecHeadsCardSaid : Prop := Claim7.holds Tryd.pinned (.plain (OpenSpec.ofChange codecHeadsSpec)) codecHeadsCard

/-- THE TIED CARD OF 'overdrivelaw10.ArenaPlays'. -/
def arenaPlaysCard : Claim7 := { stood := { row := arenaPlaysRow, standIns := [], harness := (true, "af5a62d336be1a25a401e4fbc65360263020479a4327992f56575950acce3f71"), looks := true }, kinds := [], alts := [], laidByText := true, laidKinds := [.sentinel, .sentinel, .sentinel, .sentinel, .sentinel, .sentinel, .sentinel, .sentinel, .sentinel, .sentinel, .sentinel, .sentinel, .sentinel, .sentinel], laidTests := true, laidLooks := .later }
def ArenaPlaysCardSaid : Prop := Claim7.holds Tryd.pinned (.plain (OpenSpec.ofChange arenaPlaysSpec)) arenaPlaysCard

/-- THE TIED CARD OF 'overdrivelaw15.ScriptOne'. -/
def scriptOneCard : Claim7 := { stood := { row := scriptOneRow, standIns := [], harness := (true, "af5a62d336be1a25a401e4fbc65360263020479a4327992f56575950acce3f71"), looks := true }, kinds := [], alts := [], laidByText := true, laidKinds := [.sentinel, .sentinel, .sentinel, .sentinel, .sentinel, .sentinel, .sentinel, .sentinel, .sentinel, .sentinel, .sentinel, .sentinel, .sentinel, .sentinel], laidTests := true, laidLooks := .later }
def ScriptOneCardSaid : Prop := Claim7.holds Tryd.pinned (.plain (OpenSpec.ofChange scriptOneSpec)) scriptOneCard

/-- THE TIED CARD OF 'overdrivelaw15.ScriptRises'. -/
def scriptRisesCard : Claim7 := { stood := { row := scriptRisesRow, standIns := [], harness := (true, "af5a62d336be1a25a401e4fbc65360263020479a4327992f56575950acce3f71"), looks := true }, kinds := [], alts := [], laidByText := true, laidKinds := [.sentinel, .sentinel, .sentinel, .sentinel, .sentinel, .sentinel, .sentinel, .sentinel, .sentinel, .sentinel, .sentinel, .sentinel, .sentinel, .sentinel], laidTests := true, laidLooks := .later }
def ScriptRisesCardSaid : Prop := Claim7.holds Tryd.pinned (.plain (OpenSpec.ofChange scriptRisesSpec)) scriptRisesCard

/-- THE SECOND FORM's CARD OF 'overdrivelaw2.BitsPlays'. -/
def bitsPlaysUptoCard : Claim7 := { stood := { row := bitsPlaysUptoRow, standIns := [], harness := (true, "af5a62d336be1a25a401e4fbc65360263020479a4327992f56575950acce3f71"), looks := true }, kinds := [], alts := [], laidByText := true, laidKinds := [.data], laidTests := true, laidLooks := .later }
def BitsPlaysUptoCardSaid : Prop := Claim7.holds Tryd.pinned (.plain (OpenSpec.upto bitsPlaysSpec)) bitsPlaysUptoCard

/-- THE SECOND FORM's CARD OF 'overdrivelaw2.BitsAlgebra'. -/
def bitsAlgebraUptoCard : Claim7 := { stood := { row := bitsAlgebraUptoRow, standIns := [], harness := (true, "af5a62d336be1a25a401e4fbc65360263020479a4327992f56575950acce3f71"), looks := true }, kinds := [], alts := [], laidByText := true, laidKinds := [.data], laidTests := true, laidLooks := .later }
def BitsAlgebraUptoCardSaid : Prop := Claim7.holds Tryd.pinned (.plain (OpenSpec.upto bitsAlgebraSpec)) bitsAlgebraUptoCard

/-- THE SECOND FORM's CARD OF 'overdrivelaw2.BitsBounds'. -/
def bitsBoundsUptoCard : Claim7 := { stood := { row := bitsBoundsUptoRow, standIns := [], harness := (true, "af5a62d336be1a25a401e4fbc65360263020479a4327992f56575950acce3f71"), looks := true }, kinds := [], alts := [], laidByText := true, laidKinds := [.data], laidTests := true, laidLooks := .later }
def BitsBoundsUptoCardSaid : Prop := Claim7.holds Tryd.pinned (.plain (OpenSpec.upto bitsBoundsSpec)) bitsBoundsUptoCard

/-- THE SECOND FORM's CARD OF 'overdrivelaw2.BitsOrder'. -/
def bitsOrderUptoCard : Claim7 := { stood := { row := bitsOrderUptoRow, standIns := [], harness := (true, "af5a62d336be1a25a401e4fbc65360263020479a4327992f56575950acce3f71"), looks := true }, kinds := [], alts := [], laidByText := true, laidKinds := [.data], laidTests := true, laidLooks := .later }
def BitsOrderUptoCardSaid : Prop := Claim7.holds Tryd.pinned (.plain (OpenSpec.upto bitsOrderSpec)) bitsOrderUptoCard

/-- THE SECOND FORM's CARD OF 'overdrivelaw2.BitsApart'. -/
def bitsApartUptoCard : Claim7 := { stood := { row := bitsApartUptoRow, standIns := [], harness := (true, "af5a62d336be1a25a401e4fbc65360263020479a4327992f56575950acce3f71"), looks := true }, kinds := [], alts := [], laidByText := true, laidKinds := [.data], laidTests := true, laidLooks := .later }
def BitsApartUptoCardSaid : Prop := Claim7.holds Tryd.pinned (.plain (OpenSpec.upto bitsApartSpec)) bitsApartUptoCard

/-- THE SECOND FORM's CARD OF 'overdrivelaw3.ProgOne'. -/
def progOneUptoCard : Claim7 := { stood := { row := progOneUptoRow, standIns := [], harness := (true, "af5a62d336be1a25a401e4fbc65360263020479a4327992f56575950acce3f71"), looks := true }, kinds := [], alts := [], laidByText := true, laidKinds := [.sentinel, .sentinel, .sentinel, .sentinel, .sentinel, .sentinel, .sentinel, .sentinel, .sentinel, .sentinel, .sentinel, .sentinel, .sentinel, .sentinel], laidTests := true, laidLooks := .later }
def ProgOneUptoCardSaid : Prop := Claim7.holds Tryd.pinned (.plain (OpenSpec.upto progOneSpec)) progOneUptoCard

/-- THE SECOND FORM's CARD OF 'overdrivelaw3.ProgCounts'. -/
def progCountsUptoCard : Claim7 := { stood := { row := progCountsUptoRow, standIns := [], harness := (true, "af5a62d336be1a25a401e4fbc65360263020479a4327992f56575950acce3f71"), looks := true }, kinds := [], alts := [], laidByText := true, laidKinds := [.sentinel, .sentinel, .sentinel, .sentinel, .sentinel, .sentinel, .sentinel, .sentinel, .sentinel, .sentinel, .sentinel, .sentinel, .sentinel, .sentinel], laidTests := true, laidLooks := .later }
def ProgCountsUptoCardSaid : Prop := Claim7.holds Tryd.pinned (.plain (OpenSpec.upto progCountsSpec)) progCountsUptoCard

/-- THE SECOND FORM's CARD OF 'overdrivelaw3.ProgGoes'. -/
def progGoesUptoCard : Claim7 := { stood := { row := progGoesUptoRow, standIns := [], harness := (true, "af5a62d336be1a25a401e4fbc65360263020479a4327992f56575950acce3f71"), looks := true }, kinds := [], alts := [], laidByText := true, laidKinds := [.sentinel, .sentinel, .sentinel, .sentinel, .sentinel, .sentinel, .sentinel, .sentinel, .sentinel, .sentinel, .sentinel, .sentinel, .sentinel, .sentinel], laidTests := true, laidLooks := .later }
def ProgGoesUptoCardSaid : Prop := Claim7.holds Tryd.pinned (.plain (OpenSpec.upto progGoesSpec)) progGoesUptoCard

/-- THE SECOND FORM's CARD OF 'overdrivelaw4.CodecHeads'. -/
def codecHeadsUptoCard : Claim7 := { stood := { row := codecHeadsUptoRow, standIns := [], harness := (true, "af5a62d336be1a25a401e4fbc65360263020479a4327992f56575950acce3f71"), looks := true }, kinds := [], alts := [], laidByText := true, laidKinds := [.sentinel, .sentinel, .sentinel, .sentinel, .sentinel, .sentinel, .sentinel, .sentinel, .sentinel, .sentinel, .sentinel, .sentinel, .sentinel, .sentinel], laidTests := true, laidLooks := .later }
def CodecHeadsUptoCardSaid : Prop := Claim7.holds Tryd.pinned (.plain (OpenSpec.upto codecHeadsSpec)) codecHeadsUptoCard

/-- THE SECOND FORM's CARD OF 'overdrivelaw10.ArenaPlays'. -/
def arenaPlaysUptoCard : Claim7 := { stood := { row := arenaPlaysUptoRow, standIns := [], harness := (true, "af5a62d336be1a25a401e4fbc65360263020479a4327992f56575950acce3f71"), looks := true }, kinds := [], alts := [], laidByText := true, laidKinds := [.sentinel, .sentinel, .sentinel, .sentinel, .sentinel, .sentinel, .sentinel, .sentinel, .sentinel, .sentinel, .sentinel, .sentinel, .sentinel, .sentinel], laidTests := true, laidLooks := .later }
def ArenaPlaysUptoCardSaid : Prop := Claim7.holds Tryd.pinned (.plain (OpenSpec.upto arenaPlaysSpec)) arenaPlaysUptoCard

/-- THE SECOND FORM's CARD OF 'overdrivelaw15.ScriptOne'. -/
def scriptOneUptoCard : Claim7 := { stood := { row := scriptOneUptoRow, standIns := [], harness := (true, "af5a62d336be1a25a401e4fbc65360263020479a4327992f56575950acce3f71"), looks := true }, kinds := [], alts := [], laidByText := true, laidKinds := [.sentinel, .sentinel, .sentinel, .sentinel, .sentinel, .sentinel, .sentinel, .sentinel, .sentinel, .sentinel, .sentinel, .sentinel, .sentinel, .sentinel], laidTests := true, laidLooks := .later }
def ScriptOneUptoCardSaid : Prop := Claim7.holds Tryd.pinned (.plain (OpenSpec.upto scriptOneSpec)) scriptOneUptoCard

/-- THE SECOND FORM's CARD OF 'overdrivelaw15.ScriptRises'. -/
def scriptRisesUptoCard : Claim7 := { stood := { row := scriptRisesUptoRow, standIns := [], harness := (true, "af5a62d336be1a25a401e4fbc65360263020479a4327992f56575950acce3f71"), looks := true }, kinds := [], alts := [], laidByText := true, laidKinds := [.sentinel, .sentinel, .sentinel, .sentinel, .sentinel, .sentinel, .sentinel, .sentinel, .sentinel, .sentinel, .sentinel, .sentinel, .sentinel, .sentinel], laidTests := true, laidLooks := .later }
def ScriptRisesUptoCardSaid : Prop := Claim7.holds Tryd.pinned (.plain (OpenSpec.upto scriptRisesSpec)) scriptRisesUptoCard
end Rows
end Go.Proofs.YtpfpieakemnadaaDoor

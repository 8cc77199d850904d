/-
  DERIVED. GIVEN WITH THE SEED: THE CARDS: each row of YtjffbojgdemooaaDoorRows.lean that lists a variable, with what it lists TIED to the program's text (the seventh form; the later family's looks); each row that meets fmt, with fmt's text TOLD by the authors' own Lean function (tested against real Go, not proved from fmt's source: count such statements apart). THE CARD IS WHAT COUNTS. Prove the row's statement (the work); the ties are given (YtjffbojgdemooaaDoorTie.lean); close each card by the builder's one call (the guide's Derived/Test/ToyasCard.lean, 'card_holds'). Laid BY PROGRAM, IN A SANDBOX (cutbox-door.mjs). By AI agents, Wed Nov 11 2026. No macro, syntax, notation, axiom, sorry.
-/
import Derived.Test.YtjffbojgdemooaaDoorRows
import GoSem.ClaimSeven
namespace Go.Proofs.YtjffbojgdemooaaDoor
namespace Rows

/-- THE TIED CARD OF 'overdrivelaw2.BitsPlays'. -/
def bitsPlaysCard : Claim7 := { stood := { row := bitsPlaysRow, standIns := [], harness := (true, "375488ac9e17043202ba33e85b8e5a9b0e6205981f593232ab5cd09196503f71"), looks := true }, kinds := [], alts := [], laidByText := true, laidKinds := [.data], laidTests := true, laidLooks := .later }
def BitsPlaysCardSaid : Prop := Claim7.holds Tryd.pinned (.plain (OpenSpec.ofChange bitsPlaysSpec)) bitsPlaysCard

/-- THE TIED CARD OF 'overdrivelaw3.ProgMay'. -/
def progMayCard : Claim7 := { stood := { row := progMayRow, standIns := [], harness := (true, "375488ac9e17043202ba33e85b8e5a9b0e6205981f593232ab5cd09196503f71"), looks := true }, kinds := [], alts := [], laidByText := true, laidKinds := [.sentinel, .sentinel, .sentinel, .sentinel, .sentinel, .sentinel, .sentinel, .sentinel, .sentinel, .sentinel, .sentinel, .sentinel, .sentinel, .sentinel], laidTests := true, laidLooks := .later }
def ProgMayCardSaid : Prop := Claim7.holds Tryd.pinned (.plain (OpenSpec.ofChange progMaySpec)) progMayCard

/-- THE TIED CARD OF 'overdrivelaw3.ProgEffects'. -/
def progEffectsCard : Claim7 := { stood := { row := progEffectsRow, standIns := [], harness := (true, "375488ac9e17043202ba33e85b8e5a9b0e6205981f593232ab5cd09196503f71"), looks := true }, kinds := [], alts := [], laidByText := true, laidKinds := [.sentinel, .sentinel, .sentinel, .sentinel, .sentinel, .sentinel, .sentinel, .sentinel, .sentinel, .sentinel, .sentinel, .sentinel, .sentinel, .sentinel], laidTests := true, laidLooks := .later }
def ProgEffectsCardSaid : Prop := Claim7.holds Tryd.pinned (.plain (OpenSpec.ofChange progEffectsSpec)) progEffectsCard

/-- THE TIED CARD OF 'overdrivelaw4.CodecConsts'. -/
def codecConstsCard : Claim7 := { stood := { row := codecConstsRow, standIns := [], harness := (true, "375488ac9e17043202ba33e85b8e5a9b0e6205981f593232ab5cd09196503f71"), looks := true }, kinds := [], alts := [], laidByText := true, laidKinds := [.sentinel, .sentinel, .sentinel, .sentinel, .sentinel, .sentinel, .sentinel, .sentinel, .sentinel, .sentinel, .sentinel, .sentinel, .sentinel, .sentinel], laidTests := true, laidLooks := .later }
def CodecConstsCardSaid : Prop := Claim7.holds Tryd.pinned (.plain (OpenSpec.ofChange codecConstsSpec)) codecConstsCard

/-- THE TIED CARD OF 'overdrivelaw4.CodecHeads'. -/
def codecHeadsCard : Claim7 := { stood := { row := codecHeadsRow, standIns := [], harness := (true, "375488ac9e17043202ba33e85b8e5a9b0e6205981f593232ab5cd09196503f71"), looks := true }, kinds := [], alts := [], laidByText := true, laidKinds := [.sentinel, .sentinel, .sentinel, .sentinel, .sentinel, .sentinel, .sentinel, .sentinel, .sentinel, .sentinel, .sentinel, .sentinel, .sentinel, .sentinel], laidTests := true, laidLooks := .later }
def CodecHeadsCardSaid : Prop := Claim7.holds Tryd.pinned (.plain (OpenSpec.ofChange codecHeadsSpec)) codecHeadsCard

/-- THE TIED CARD OF 'overdrivelaw5.FlowTurned'. -/
def flowTurnedCard : Claim7 := { stood := { row := flowTurnedRow, standIns := [], harness := (true, "375488ac9e17043202ba33e85b8e5a9b0e6205981f593232ab5cd09196503f71"), looks := true }, kinds := [], alts := [], laidByText := true, laidKinds := [.data], laidTests := true, laidLooks := .later }
def FlowTurnedCardSaid : Prop := Claim7.holds Tryd.pinned (.plain (OpenSpec.ofChange flowTurnedSpec)) flowTurnedCard

/-- THE TIED CARD OF 'overdrivelaw5.FlowChain'. -/
def flowChainCard : Claim7 := { stood := { row := flowChainRow, standIns := [], harness := (true, "375488ac9e17043202ba33e85b8e5a9b0e6205981f593232ab5cd09196503f71"), looks := true }, kinds := [], alts := [], laidByText := true, laidKinds := [.data], laidTests := true, laidLooks := .later }
def FlowChainCardSaid : Prop := Claim7.holds Tryd.pinned (.plain (OpenSpec.ofChange flowChainSpec)) flowChainCard

/-- THE TIED CARD OF 'overdrivelaw11.HeapKinds'. -/
def heapKindsCard : Claim7 := { stood := { row := heapKindsRow, standIns := [], harness := (true, "375488ac9e17043202ba33e85b8e5a9b0e6205981f593232ab5cd09196503f71"), looks := true }, kinds := [], alts := [], laidByText := true, laidKinds := [.sentinel], laidTests := true, laidLooks := .later }
def HeapKindsCardSaid : Prop := Claim7.holds Tryd.pinned (.plain (OpenSpec.ofChange heapKindsSpec)) heapKindsCard

/-- THE TIED CARD OF 'overdrivelaw11.HeapRing'. -/
def heapRingCard : Claim7 := { stood := { row := heapRingRow, standIns := [], harness := (true, "375488ac9e17043202ba33e85b8e5a9b0e6205981f593232ab5cd09196503f71"), looks := true }, kinds := [], alts := [], laidByText := true, laidKinds := [.sentinel], laidTests := true, laidLooks := .later }
def HeapRingCardSaid : Prop := Claim7.holds Tryd.pinned (.plain (OpenSpec.ofChange heapRingSpec)) heapRingCard

/-- THE TIED CARD OF 'overdrivelaw12.GcNone'. -/
def gcNoneCard : Claim7 := { stood := { row := gcNoneRow, standIns := [], harness := (true, "375488ac9e17043202ba33e85b8e5a9b0e6205981f593232ab5cd09196503f71"), looks := true }, kinds := [], alts := [], laidByText := true, laidKinds := [.sentinel], laidTests := true, laidLooks := .later }
def GcNoneCardSaid : Prop := Claim7.holds Tryd.pinned (.plain (OpenSpec.ofChange gcNoneSpec)) gcNoneCard

/-- THE TIED CARD OF 'overdrivelaw23.MovesAtOnce'. -/
def movesAtOnceCard : Claim7 := { stood := { row := movesAtOnceRow, standIns := [], harness := (true, "375488ac9e17043202ba33e85b8e5a9b0e6205981f593232ab5cd09196503f71"), looks := true }, kinds := [], alts := [], laidByText := true, laidKinds := [.sentinel, .sentinel, .sentinel, .sentinel, .sentinel, .sentinel, .sentinel, .sentinel, .sentinel, .sentinel, .sentinel, .sentinel, .sentinel, .sentinel], laidTests := true, laidLooks := .later }
def MovesAtOnceCardSaid : Prop := Claim7.holds Tryd.pinned (.plain (OpenSpec.ofChange movesAtOnceSpec)) movesAtOnceCard

/-- THE TIED CARD OF 'overdrivelaw23.MovesRing'. -/
def movesRingCard : Claim7 := { stood := { row := movesRingRow, standIns := [], harness := (true, "375488ac9e17043202ba33e85b8e5a9b0e6205981f593232ab5cd09196503f71"), looks := true }, kinds := [], alts := [], laidByText := true, laidKinds := [.sentinel, .sentinel, .sentinel], laidTests := true, laidLooks := .later }
def MovesRingCardSaid : Prop := Claim7.holds Tryd.pinned (.plain (OpenSpec.ofChange movesRingSpec)) movesRingCard

/-- THE SECOND FORM's CARD OF 'overdrivelaw2.BitsPlays'. -/
def bitsPlaysUptoCard : Claim7 := { stood := { row := bitsPlaysUptoRow, standIns := [], harness := (true, "375488ac9e17043202ba33e85b8e5a9b0e6205981f593232ab5cd09196503f71"), looks := true }, kinds := [], alts := [], laidByText := true, laidKinds := [.data], laidTests := true, laidLooks := .later }
def BitsPlaysUptoCardSaid : Prop := Claim7.holds Tryd.pinned (.plain (OpenSpec.upto bitsPlaysSpec)) bitsPlaysUptoCard

/-- THE SECOND FORM's CARD OF 'overdrivelaw3.ProgMay'. -/
def progMayUptoCard : Claim7 := { stood := { row := progMayUptoRow, standIns := [], harness := (true, "375488ac9e17043202ba33e85b8e5a9b0e6205981f593232ab5cd09196503f71"), looks := true }, kinds := [], alts := [], laidByText := true, laidKinds := [.sentinel, .sentinel, .sentinel, .sentinel, .sentinel, .sentinel, .sentinel, .sentinel, .sentinel, .sentinel, .sentinel, .sentinel, .sentinel, .sentinel], laidTests := true, laidLooks := .later }
def ProgMayUptoCardSaid : Prop := Claim7.holds Tryd.pinned (.plain (OpenSpec.upto progMaySpec)) progMayUptoCard

/-- THE SECOND FORM's CARD OF 'overdrivelaw3.ProgEffects'. -/
def progEffectsUptoCard : Claim7 := { stood := { row := progEffectsUptoRow, standIns := [], harness := (true, "375488ac9e17043202ba33e85b8e5a9b0e6205981f593232ab5cd09196503f71"), looks := true }, kinds := [], alts := [], laidByText := true, laidKinds := [.sentinel, .sentinel, .sentinel, .sentinel, .sentinel, .sentinel, .sentinel, .sentinel, .sentinel, .sentinel, .sentinel, .sentinel, .sentinel, .sentinel], laidTests := true, laidLooks := .later }
def ProgEffectsUptoCardSaid : Prop := Claim7.holds Tryd.pinned (.plain (OpenSpec.upto progEffectsSpec)) progEffectsUptoCard

/-- THE SECOND FORM's CARD OF 'overdrivelaw4.CodecConsts'. -/
def codecConstsUptoCard : Claim7 := { stood := { row := codecConstsUptoRow, standIns := [], harness := (true, "375488ac9e17043202ba33e85b8e5a9b0e6205981f593232ab5cd09196503f71"), looks := true }, kinds := [], alts := [], laidByText := true, laidKinds := [.sentinel, .sentinel, .sentinel, .sentinel, .sentinel, .sentinel, .sentinel, .sentinel, .sentinel, .sentinel, .sentinel, .sentinel, .sentinel, .sentinel], laidTests := true, laidLooks := .later }
def CodecConstsUptoCardSaid : Prop := Claim7.holds Tryd.pinned (.plain (OpenSpec.upto codecConstsSpec)) codecConstsUptoCard

/-- THE SECOND FORM's CARD OF 'overdrivelaw4.CodecHeads'. -/
def codecHeadsUptoCard : Claim7 := { stood := { row := codecHeadsUptoRow, standIns := [], harness := (true, "375488ac9e17043202ba33e85b8e5a9b0e6205981f593232ab5cd09196503f71"), looks := true }, kinds := [], alts := [], laidByText := true, laidKinds := [.sentinel, .sentinel, .sentinel, .sentinel, .sentinel, .sentinel, .sentinel, .sentinel, .sentinel, .sentinel, .sentinel, .sentinel, .sentinel, .sentinel], laidTests := true, laidLooks := .later }
def CodecHeadsUptoCardSaid : Prop := Claim7.holds Tryd.pinned (.plain (OpenSpec.upto codecHeadsSpec)) codecHeadsUptoCard

/-- THE SECOND FORM's CARD OF 'overdrivelaw5.FlowTurned'. -/
def flowTurnedUptoCard : Claim7 := { stood := { row := flowTurnedUptoRow, standIns := [], harness := (true, "375488ac9e17043202ba33e85b8e5a9b0e6205981f593232ab5cd09196503f71"), looks := true }, kinds := [], alts := [], laidByText := true, laidKinds := [.data], laidTests := true, laidLooks := .later }
def FlowTurnedUptoCardSaid : Prop := Claim7.holds Tryd.pinned (.plain (OpenSpec.upto flowTurnedSpec)) flowTurnedUptoCard

/-- THE SECOND FORM's CARD OF 'overdrivelaw5.FlowChain'. -/
def flowChainUptoCard : Claim7 := { stood := { row := flowChainUptoRow, standIns := [], harness := (true, "375488ac9e17043202ba33e85b8e5a9b0e6205981f593232ab5cd09196503f71"), looks := true }, kinds := [], alts := [], laidByText := true, laidKinds := [.data], laidTests := true, laidLooks := .later }
def FlowChainUptoCardSaid : Prop := Claim7.holds Tryd.pinned (.plain (OpenSpec.upto flowChainSpec)) flowChainUptoCard

/-- THE SECOND FORM's CARD OF 'overdrivelaw11.HeapKinds'. -/
def heapKindsUptoCard : Claim7 := { stood := { row := heapKindsUptoRow, standIns := [], harness := (true, "375488ac9e17043202ba33e85b8e5a9b0e6205981f593232ab5cd09196503f71"), looks := true }, kinds := [], alts := [], laidByText := true, laidKinds := [.sentinel], laidTests := true, laidLooks := .later }
def HeapKindsUptoCardSaid : Prop := Claim7.holds Tryd.pinned (.plain (OpenSpec.upto heapKindsSpec)) heapKindsUptoCard

/-- THE SECOND FORM's CARD OF 'overdrivelaw11.HeapRing'. -/
def heapRingUptoCard : Claim7 := { stood := { row := heapRingUptoRow, standIns := [], harness := (true, "375488ac9e17043202ba33e85b8e5a9b0e6205981f593232ab5cd09196503f71"), looks := true }, kinds := [], alts := [], laidByText := true, laidKinds := [.sentinel], laidTests := true, laidLooks := .later }
def HeapRingUptoCardSaid : Prop := Claim7.holds Tryd.pinned (.plain (OpenSpec.upto heapRingSpec)) heapRingUptoCard

/-- THE SECOND FORM's CARD OF 'overdrivelaw12.GcNone'. -/
def gcNoneUptoCard : Claim7 := { stood := { row := gcNoneUptoRow, standIns := [], harness := (true, "375488ac9e17043202ba33e85b8e5a9b0e6205981f593232ab5cd09196503f71"), looks := true }, kinds := [], alts := [], laidByText := true, laidKinds := [.sentinel], laidTests := true, laidLooks := .later }
def GcNoneUptoCardSaid : Prop := Claim7.holds Tryd.pinned (.plain (OpenSpec.upto gcNoneSpec)) gcNoneUptoCard

/-- THE SECOND FORM's CARD OF 'overdrivelaw23.MovesAtOnce'. -/
def movesAtOnceUptoCard : Claim7 := { stood := { row := movesAtOnceUptoRow, standIns := [], harness := (true, "375488ac9e17043202ba33e85b8e5a9b0e6205981f593232ab5cd09196503f71"), looks := true }, kinds := [], alts := [], laidByText := true, laidKinds := [.sentinel, .sentinel, .sentinel, .sentinel, .sentinel, .sentinel, .sentinel, .sentinel, .sentinel, .sentinel, .sentinel, .sentinel, .sentinel, .sentinel], laidTests := true, laidLooks := .later }
def MovesAtOnceUptoCardSaid : Prop := Claim7.holds Tryd.pinned (.plain (OpenSpec.upto movesAtOnceSpec)) movesAtOnceUptoCard

/-- THE SECOND FORM's CARD OF 'overdrivelaw23.MovesRing'. -/
def movesRingUptoCard : Claim7 := { stood := { row := movesRingUptoRow, standIns := [], harness := (true, "375488ac9e17043202ba33e85b8e5a9b0e6205981f593232ab5cd09196503f71"), looks := true }, kinds := [], alts := [], laidByText := true, laidKinds := [.sentinel, .sentinel, .sentinel], laidTests := true, laidLooks := .later }
def MovesRingUptoCardSaid : Prop := Claim7.holds Tryd.pinned (.plain (OpenSpec.upto movesRingSpec)) movesRingUptoCard
end Rows
end Go.Proofs.YtjffbojgdemooaaDoor

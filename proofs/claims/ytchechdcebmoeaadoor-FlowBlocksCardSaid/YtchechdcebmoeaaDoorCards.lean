/-
  DERIVED. GIVEN WITH THE SEED: THE CARDS: each row of YtchechdcebmoeaaDoorRows.lean that lists a variable, with what it lists TIED to the program's text (the seventh form; the later family's looks); each row that meets fmt, with fmt's text TOLD by the authors' own Lean function (tested against real Go, not proved from fmt's source: count such statements apart). THE CARD IS WHAT COUNTS. Prove the row's statement (the work); the ties are given (YtchechdcebmoeaaDoorTie.lean); close each card by the builder's one call (the guide's Derived/Test/ToyasCard.lean, 'card_holds'). Laid BY PROGRAM, IN A SANDBOX (cutbox-door.mjs). By AI agents, Wed Nov 11 2026. No macro, syntax, notation, axiom, sorry.
-/
import Derived.Test.YtchechdcebmoeaaDoorRows
import GoSem.ClaimSeven
namespace Go.Proofs.YtchechdcebmoeaaDoor
namespace Rows

/-- THE TIED CARD OF 'overdrivelaw2.BitsPlays'. -/
def bitsPlaysCard : Claim7 := { stood := { row := bitsPlaysRow, standIns := [], harness := (true, "f6539c9cb93e3a63d397b844795690e031e76a4ec177ea1f6772713e9cc033a4"), looks := true }, kinds := [], alts := [], laidByText := true, laidKinds := [.data], laidTests := true, laidLooks := .later }
def BitsPlaysCardSaid : Prop := Claim7.holds Tryd.pinned (.plain (OpenSpec.ofChange bitsPlaysSpec)) bitsPlaysCard

/-- THE TIED CARD OF 'overdrivelaw4.CodecConsts'. -/
def codecConstsCard : Claim7 := { stood := { row := codecConstsRow, standIns := [], harness := (true, "f6539c9cb93e3a63d397b844795690e031e76a4ec177ea1f6772713e9cc033a4"), looks := true }, kinds := [], alts := [], laidByText := true, laidKinds := [.sentinel, .sentinel, .sentinel, .sentinel, .sentinel, .sentinel, .sentinel, .sentinel, .sentinel, .sentinel, .sentinel, .sentinel, .sentinel, .sentinel], laidTests := true, laidLooks := .later }
def CodecConstsCardSaid : Prop := Claim7.holds Tryd.pinned (.plain (OpenSpec.ofChange codecConstsSpec)) codecConstsCard

/-- THE TIED CARD OF 'overdrivelaw4.CodecHeads'. -/
def codecHeadsCard : Claim7 := { stood := { row := codecHeadsRow, standIns := [], harness := (true, "f6539c9cb93e3a63d397b844795690e031e76a4ec177ea1f6772713e9cc033a4"), looks := true }, kinds := [], alts := [], laidByText := true, laidKinds := [.sentinel, .sentinel, .sentinel, .sentinel, .sentinel, .sentinel, .sentinel, .sentinel, .sentinel, .sentinel, .sentinel, .sentinel, .sentinel, .sentinel], laidTests := true, laidLooks := .later }
def CodecHeadsCardSaid : Prop := Claim7.holds Tryd.pinned (.plain (OpenSpec.ofChange codecHeadsSpec)) codecHeadsCard

/-- THE TIED CARD OF 'overdrivelaw5.FlowBlocks'. -/
def flowBlocksCard : Claim7 := { stood := { row := flowBlocksRow, standIns := [], harness := (true, "f6539c9cb93e3a63d397b844795690e031e76a4ec177ea1f6772713e9cc033a4"), looks := true }, kinds := [], alts := [], laidByText := true, laidKinds := [.data], laidTests := true, laidLooks := .later }
def FlowBlocksCardSaid : Prop := Claim7.holds Tryd.pinned (.plain (OpenSpec.ofChange flowBlocksSpec)) flowBlocksCard

/-- THE TIED CARD OF 'overdrivelaw5.FlowGraphs'. -/
def flowGraphsCard : Claim7 := { stood := { row := flowGraphsRow, standIns := [], harness := (true, "f6539c9cb93e3a63d397b844795690e031e76a4ec177ea1f6772713e9cc033a4"), looks := true }, kinds := [], alts := [], laidByText := true, laidKinds := [.data], laidTests := true, laidLooks := .later }
def FlowGraphsCardSaid : Prop := Claim7.holds Tryd.pinned (.plain (OpenSpec.ofChange flowGraphsSpec)) flowGraphsCard

/-- THE TIED CARD OF 'overdrivelaw5.FlowOrders'. -/
def flowOrdersCard : Claim7 := { stood := { row := flowOrdersRow, standIns := [], harness := (true, "f6539c9cb93e3a63d397b844795690e031e76a4ec177ea1f6772713e9cc033a4"), looks := true }, kinds := [], alts := [], laidByText := true, laidKinds := [.data], laidTests := true, laidLooks := .later }
def FlowOrdersCardSaid : Prop := Claim7.holds Tryd.pinned (.plain (OpenSpec.ofChange flowOrdersSpec)) flowOrdersCard

/-- THE TIED CARD OF 'overdrivelaw5.FlowCover'. -/
def flowCoverCard : Claim7 := { stood := { row := flowCoverRow, standIns := [], harness := (true, "f6539c9cb93e3a63d397b844795690e031e76a4ec177ea1f6772713e9cc033a4"), looks := true }, kinds := [], alts := [], laidByText := true, laidKinds := [.data], laidTests := true, laidLooks := .later }
def FlowCoverCardSaid : Prop := Claim7.holds Tryd.pinned (.plain (OpenSpec.ofChange flowCoverSpec)) flowCoverCard

/-- THE TIED CARD OF 'overdrivelaw5.FlowTurned'. -/
def flowTurnedCard : Claim7 := { stood := { row := flowTurnedRow, standIns := [], harness := (true, "f6539c9cb93e3a63d397b844795690e031e76a4ec177ea1f6772713e9cc033a4"), looks := true }, kinds := [], alts := [], laidByText := true, laidKinds := [.data], laidTests := true, laidLooks := .later }
def FlowTurnedCardSaid : Prop := Claim7.holds Tryd.pinned (.plain (OpenSpec.ofChange flowTurnedSpec)) flowTurnedCard

/-- THE TIED CARD OF 'overdrivelaw5.FlowChain'. -/
def flowChainCard : Claim7 := { stood := { row := flowChainRow, standIns := [], harness := (true, "f6539c9cb93e3a63d397b844795690e031e76a4ec177ea1f6772713e9cc033a4"), looks := true }, kinds := [], alts := [], laidByText := true, laidKinds := [.data], laidTests := true, laidLooks := .later }
def FlowChainCardSaid : Prop := Claim7.holds Tryd.pinned (.plain (OpenSpec.ofChange flowChainSpec)) flowChainCard

/-- THE TIED CARD OF 'overdrivelaw11.HeapShapes'. -/
def heapShapesCard : Claim7 := { stood := { row := heapShapesRow, standIns := [], harness := (true, "f6539c9cb93e3a63d397b844795690e031e76a4ec177ea1f6772713e9cc033a4"), looks := true }, kinds := [], alts := [], laidByText := true, laidKinds := [.sentinel], laidTests := true, laidLooks := .later }
def HeapShapesCardSaid : Prop := Claim7.holds Tryd.pinned (.plain (OpenSpec.ofChange heapShapesSpec)) heapShapesCard

/-- THE TIED CARD OF 'overdrivelaw12.GcNone'. -/
def gcNoneCard : Claim7 := { stood := { row := gcNoneRow, standIns := [], harness := (true, "f6539c9cb93e3a63d397b844795690e031e76a4ec177ea1f6772713e9cc033a4"), looks := true }, kinds := [], alts := [], laidByText := true, laidKinds := [.sentinel], laidTests := true, laidLooks := .later }
def GcNoneCardSaid : Prop := Claim7.holds Tryd.pinned (.plain (OpenSpec.ofChange gcNoneSpec)) gcNoneCard

/-- THE TIED CARD OF 'overdrivelaw23.MovesRing'. -/
def movesRingCard : Claim7 := { stood := { row := movesRingRow, standIns := [], harness := (true, "f6539c9cb93e3a63d397b844795690e031e76a4ec177ea1f6772713e9cc033a4"), looks := true }, kinds := [], alts := [], laidByText := true, laidKinds := [.sentinel, .sentinel, .sentinel], laidTests := true, laidLooks := .later }
def MovesRingCardSaid : Prop := Claim7.holds Tryd.pinned (.plain (OpenSpec.ofChange movesRingSpec)) movesRingCard

/-- THE SECOND FORM's CARD OF 'overdrivelaw2.BitsPlays'. -/
def bitsPlaysUptoCard : Claim7 := { stood := { row := bitsPlaysUptoRow, standIns := [], harness := (true, "f6539c9cb93e3a63d397b844795690e031e76a4ec177ea1f6772713e9cc033a4"), looks := true }, kinds := [], alts := [], laidByText := true, laidKinds := [.data], laidTests := true, laidLooks := .later }
def BitsPlaysUptoCardSaid : Prop := Claim7.holds Tryd.pinned (.plain (OpenSpec.upto bitsPlaysSpec)) bitsPlaysUptoCard

/-- THE SECOND FORM's CARD OF 'overdrivelaw4.CodecConsts'. -/
def codecConstsUptoCard : Claim7 := { stood := { row := codecConstsUptoRow, standIns := [], harness := (true, "f6539c9cb93e3a63d397b844795690e031e76a4ec177ea1f6772713e9cc033a4"), looks := true }, kinds := [], alts := [], laidByText := true, laidKinds := [.sentinel, .sentinel, .sentinel, .sentinel, .sentinel, .sentinel, .sentinel, .sentinel, .sentinel, .sentinel, .sentinel, .sentinel, .sentinel, .sentinel], laidTests := true, laidLooks := .later }
def CodecConstsUptoCardSaid : Prop := Claim7.holds Tryd.pinned (.plain (OpenSpec.upto codecConstsSpec)) codecConstsUptoCard

/-- THE SECOND FORM's CARD OF 'overdrivelaw4.CodecHeads'. -/
def codecHeadsUptoCard : Claim7 := { stood := { row := codecHeadsUptoRow, standIns := [], harness := (true, "f6539c9cb93e3a63d397b844795690e031e76a4ec177ea1f6772713e9cc033a4"), looks := true }, kinds := [], alts := [], laidByText := true, laidKinds := [.sentinel, .sentinel, .sentinel, .sentinel, .sentinel, .sentinel, .sentinel, .sentinel, .sentinel, .sentinel, .sentinel, .sentinel, .sentinel, .sentinel], laidTests := true, laidLooks := .later }
def CodecHeadsUptoCardSaid : Prop := Claim7.holds Tryd.pinned (.plain (OpenSpec.upto codecHeadsSpec)) codecHeadsUptoCard

/-- THE SECOND FORM's CARD OF 'overdrivelaw5.FlowBlocks'. -/
def flowBlocksUptoCard : Claim7 := { stood := { row := flowBlocksUptoRow, standIns := [], harness := (true, "f6539c9cb93e3a63d397b844795690e031e76a4ec177ea1f6772713e9cc033a4"), looks := true }, kinds := [], alts := [], laidByText := true, laidKinds := [.data], laidTests := true, laidLooks := .later }
def FlowBlocksUptoCardSaid : Prop := Claim7.holds Tryd.pinned (.plain (OpenSpec.upto flowBlocksSpec)) flowBlocksUptoCard

/-- THE SECOND FORM's CARD OF 'overdrivelaw5.FlowGraphs'. -/
def flowGraphsUptoCard : Claim7 := { stood := { row := flowGraphsUptoRow, standIns := [], harness := (true, "f6539c9cb93e3a63d397b844795690e031e76a4ec177ea1f6772713e9cc033a4"), looks := true }, kinds := [], alts := [], laidByText := true, laidKinds := [.data], laidTests := true, laidLooks := .later }
def FlowGraphsUptoCardSaid : Prop := Claim7.holds Tryd.pinned (.plain (OpenSpec.upto flowGraphsSpec)) flowGraphsUptoCard

/-- THE SECOND FORM's CARD OF 'overdrivelaw5.FlowOrders'. -/
def flowOrdersUptoCard : Claim7 := { stood := { row := flowOrdersUptoRow, standIns := [], harness := (true, "f6539c9cb93e3a63d397b844795690e031e76a4ec177ea1f6772713e9cc033a4"), looks := true }, kinds := [], alts := [], laidByText := true, laidKinds := [.data], laidTests := true, laidLooks := .later }
def FlowOrdersUptoCardSaid : Prop := Claim7.holds Tryd.pinned (.plain (OpenSpec.upto flowOrdersSpec)) flowOrdersUptoCard

/-- THE SECOND FORM's CARD OF 'overdrivelaw5.FlowCover'. -/
def flowCoverUptoCard : Claim7 := { stood := { row := flowCoverUptoRow, standIns := [], harness := (true, "f6539c9cb93e3a63d397b844795690e031e76a4ec177ea1f6772713e9cc033a4"), looks := true }, kinds := [], alts := [], laidByText := true, laidKinds := [.data], laidTests := true, laidLooks := .later }
def FlowCoverUptoCardSaid : Prop := Claim7.holds Tryd.pinned (.plain (OpenSpec.upto flowCoverSpec)) flowCoverUptoCard

/-- THE SECOND FORM's CARD OF 'overdrivelaw5.FlowTurned'. -/
def flowTurnedUptoCard : Claim7 := { stood := { row := flowTurnedUptoRow, standIns := [], harness := (true, "f6539c9cb93e3a63d397b844795690e031e76a4ec177ea1f6772713e9cc033a4"), looks := true }, kinds := [], alts := [], laidByText := true, laidKinds := [.data], laidTests := true, laidLooks := .later }
def FlowTurnedUptoCardSaid : Prop := Claim7.holds Tryd.pinned (.plain (OpenSpec.upto flowTurnedSpec)) flowTurnedUptoCard

/-- THE SECOND FORM's CARD OF 'overdrivelaw5.FlowChain'. -/
def flowChainUptoCard : Claim7 := { stood := { row := flowChainUptoRow, standIns := [], harness := (true, "f6539c9cb93e3a63d397b844795690e031e76a4ec177ea1f6772713e9cc033a4"), looks := true }, kinds := [], alts := [], laidByText := true, laidKinds := [.data], laidTests := true, laidLooks := .later }
def FlowChainUptoCardSaid : Prop := Claim7.holds Tryd.pinned (.plain (OpenSpec.upto flowChainSpec)) flowChainUptoCard

/-- THE SECOND FORM's CARD OF 'overdrivelaw11.HeapShapes'. -/
def heapShapesUptoCard : Claim7 := { stood := { row := heapShapesUptoRow, standIns := [], harness := (true, "f6539c9cb93e3a63d397b844795690e031e76a4ec177ea1f6772713e9cc033a4"), looks := true }, kinds := [], alts := [], laidByText := true, laidKinds := [.sentinel], laidTests := true, laidLooks := .later }
def HeapShapesUptoCardSaid : Prop := Claim7.holds Tryd.pinned (.plain (OpenSpec.upto heapShapesSpec)) heapShapesUptoCard

/-- THE SECOND FORM's CARD OF 'overdrivelaw12.GcNone'. -/
def gcNoneUptoCard : Claim7 := { stood := { row := gcNoneUptoRow, standIns := [], harness := (true, "f6539c9cb93e3a63d397b844795690e031e76a4ec177ea1f6772713e9cc033a4"), looks := true }, kinds := [], alts := [], laidByText := true, laidKinds := [.sentinel], laidTests := true, laidLooks := .later }
def GcNoneUptoCardSaid : Prop := Claim7.holds Tryd.pinned (.plain (OpenSpec.upto gcNoneSpec)) gcNoneUptoCard

/-- THE SECOND FORM's CARD OF 'overdrivelaw23.MovesRing'. -/
def movesRingUptoCard : Claim7 := { stood := { row := movesRingUptoRow, standIns := [], harness := (true, "f6539c9cb93e3a63d397b844795690e031e76a4ec177ea1f6772713e9cc033a4"), looks := true }, kinds := [], alts := [], laidByText := true, laidKinds := [.sentinel, .sentinel, .sentinel], laidTests := true, laidLooks := .later }
def MovesRingUptoCardSaid : Prop := Claim7.holds Tryd.pinned (.plain (OpenSpec.upto movesRingSpec)) movesRingUptoCard
end Rows
end Go.Proofs.YtchechdcebmoeaaDoor

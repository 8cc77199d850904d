/-
  NARROWER THAN 'FOR EVERY INPUT', by the rows' own cells (each row's printed sentence says how): BitsPlays: laid · CodecConsts: laid · CodecHeads: laid · FlowBlocks: laid · FlowGraphs: laid · FlowOrders: laid · FlowCover: laid · FlowTurned: laid · FlowChain: laid · HeapShapes: laid · GcNone: laid · MovesRing: laid.
  DERIVED. THE GIVEN ROWS OF THIS SEAT. 12 by the template 'for every input the law returns true; each argument reads behind the call as it read before'; 0 by the template 'total and deterministic' (their statements: YtchechdcebmoeaaDoorTotals.lean).
  GIVEN WITH THE SEED: the statements are not yours to turn. If you find one false, say at which input.
  Laid BY PROGRAM, IN A SANDBOX (cutbox-rows.mjs): the forced cells as the released guide's own fill.sh prints them over the translation 2bca87fdc39d203d… (all of the seat's roots in one cut). By AI agents, Wed Nov 11 2026. No macro, syntax, notation, axiom, sorry.
-/
import Derived.Test.YtchechdcebmoeaaDoorChecked
import GoSem.Claim
import GoSem.ClaimJoined
import GoSem.ClaimMapViews
import Derived.JoinedTies
import Derived.KernelRfl
namespace Go.Proofs.YtchechdcebmoeaaDoor
/- THE CELL 'sum', in the pinned program and in every row, IS THE sha256 OF THE DUMP (.gsa) THAT YtchechdcebmoeaaDoorProg.lean LOADS. Nothing in Lean hashes anything: it is a label: what it is worth is what the hold of that sum in a sandbox is worth. -/
noncomputable def Tryd.pinned : Pinned := { name := "ytchechdcebmoeaadoor", sum := "2bca87fdc39d203dab452c904f7e7c1c42007420aa5033f58522b16b476b99a1", checked := Tryd.checked }
namespace Rows
def none {H : Type} : Left H := { results := [], args := [] }

/- WHAT THE LISTED PACKAGE-LEVEL VARIABLES READ AS WHEN THE CALL BEGINS. Each datum BY PROGRAM (the guide's laid-datum.mjs) off the statement by which the dump's own 'gosem.cut.vars' lays the variable. In a bare row this is a premise. The card (YtchechdcebmoeaaDoorCards.lean) ties it to the program's text. -/
def laid_math_bits_deBruijn64tab {H : Type} : DataW H := .agg [.lit (.int .u8 0), .lit (.int .u8 1), .lit (.int .u8 56), .lit (.int .u8 2), .lit (.int .u8 57), .lit (.int .u8 49), .lit (.int .u8 28), .lit (.int .u8 3), .lit (.int .u8 61), .lit (.int .u8 58), .lit (.int .u8 42), .lit (.int .u8 50), .lit (.int .u8 38), .lit (.int .u8 29), .lit (.int .u8 17), .lit (.int .u8 4), .lit (.int .u8 62), .lit (.int .u8 47), .lit (.int .u8 59), .lit (.int .u8 36), .lit (.int .u8 45), .lit (.int .u8 43), .lit (.int .u8 51), .lit (.int .u8 22), .lit (.int .u8 53), .lit (.int .u8 39), .lit (.int .u8 33), .lit (.int .u8 30), .lit (.int .u8 24), .lit (.int .u8 18), .lit (.int .u8 12), .lit (.int .u8 5), .lit (.int .u8 63), .lit (.int .u8 55), .lit (.int .u8 48), .lit (.int .u8 27), .lit (.int .u8 60), .lit (.int .u8 41), .lit (.int .u8 37), .lit (.int .u8 16), .lit (.int .u8 46), .lit (.int .u8 35), .lit (.int .u8 44), .lit (.int .u8 21), .lit (.int .u8 52), .lit (.int .u8 32), .lit (.int .u8 23), .lit (.int .u8 11), .lit (.int .u8 54), .lit (.int .u8 26), .lit (.int .u8 40), .lit (.int .u8 15), .lit (.int .u8 34), .lit (.int .u8 20), .lit (.int .u8 31), .lit (.int .u8 10), .lit (.int .u8 25), .lit (.int .u8 14), .lit (.int .u8 19), .lit (.int .u8 9), .lit (.int .u8 13), .lit (.int .u8 8), .lit (.int .u8 7), .lit (.int .u8 6)]
def laid_overdrive_api_ErrMany {H : Type} : DataW H := .iface "*errors.errorString" (.ptr (.agg [.lit (.string [116, 111, 111, 32, 109, 97, 110, 121])]))
def laid_overdrive_api_ErrKind {H : Type} : DataW H := .iface "*errors.errorString" (.ptr (.agg [.lit (.string [110, 111, 32, 115, 117, 99, 104, 32, 107, 105, 110, 100])]))
def laid_overdrive_api_ErrIndex {H : Type} : DataW H := .iface "*errors.errorString" (.ptr (.agg [.lit (.string [110, 111, 32, 115, 117, 99, 104, 32, 116, 104, 105, 110, 103])]))
def laid_overdrive_api_ErrTarget {H : Type} : DataW H := .iface "*errors.errorString" (.ptr (.agg [.lit (.string [110, 111, 32, 112, 108, 97, 99, 101, 32, 116, 111, 32, 106, 117, 109, 112, 32, 116, 111])]))
def laid_overdrive_api_ErrShape {H : Type} : DataW H := .iface "*errors.errorString" (.ptr (.agg [.lit (.string [110, 111, 116, 32, 116, 104, 101, 32, 115, 104, 97, 112, 101, 32, 116, 104, 97, 116, 32, 105, 116, 32, 104, 97, 115, 32, 116, 111, 32, 104, 97, 118, 101])]))
def laid_overdrive_api_ErrEnd {H : Type} : DataW H := .iface "*errors.errorString" (.ptr (.agg [.lit (.string [105, 116, 32, 101, 110, 100, 115, 32, 116, 111, 111, 32, 101, 97, 114, 108, 121])]))
def laid_overdrive_api_ErrByte {H : Type} : DataW H := .iface "*errors.errorString" (.ptr (.agg [.lit (.string [97, 32, 98, 121, 116, 101, 32, 116, 104, 97, 116, 32, 100, 111, 101, 115, 32, 110, 111, 116, 32, 102, 105, 116])]))
def laid_overdrive_api_ErrStack {H : Type} : DataW H := .iface "*errors.errorString" (.ptr (.agg [.lit (.string [116, 111, 111, 32, 108, 105, 116, 116, 108, 101, 32, 111, 114, 32, 116, 111, 111, 32, 109, 117, 99, 104, 32, 111, 110, 32, 116, 104, 101, 32, 115, 116, 97, 99, 107])]))
def laid_overdrive_api_ErrMerge {H : Type} : DataW H := .iface "*errors.errorString" (.ptr (.agg [.lit (.string [116, 119, 111, 32, 119, 97, 121, 115, 32, 116, 104, 97, 116, 32, 100, 111, 32, 110, 111, 116, 32, 97, 103, 114, 101, 101])]))
def laid_overdrive_api_ErrFall {H : Type} : DataW H := .iface "*errors.errorString" (.ptr (.agg [.lit (.string [105, 116, 32, 102, 97, 108, 108, 115, 32, 111, 102, 102, 32, 116, 104, 101, 32, 101, 110, 100])]))
def laid_overdrive_api_ErrLimit {H : Type} : DataW H := .iface "*errors.errorString" (.ptr (.agg [.lit (.string [110, 111, 32, 115, 117, 99, 104, 32, 108, 105, 109, 105, 116])]))
def laid_overdrive_api_ErrNode {H : Type} : DataW H := .iface "*errors.errorString" (.ptr (.agg [.lit (.string [97, 32, 110, 111, 100, 101, 32, 116, 104, 97, 116, 32, 109, 97, 121, 32, 110, 111, 116, 32, 98, 101])]))
def laid_overdrive_api_ErrState {H : Type} : DataW H := .iface "*errors.errorString" (.ptr (.agg [.lit (.string [97, 32, 115, 116, 97, 116, 101, 32, 116, 104, 97, 116, 32, 109, 97, 121, 32, 110, 111, 116, 32, 98, 101])]))
def laid_overdrive_api_ErrRoom {H : Type} : DataW H := .iface "*errors.errorString" (.ptr (.agg [.lit (.string [110, 111, 32, 114, 111, 111, 109])]))

/-- 'overdrivelaw2.BitsPlays': WHATEVER THE INPUT: true; the input reads as it did. -/
def bitsPlaysSpec : ChangeSpec := { name := "bitsPlays", fn := fun _ => fun
  | [d1, d2, d3, d4, d5] => { results := [.lit (.bool true)], args := [d1, d2, d3, d4, d5] }
  | _ => none }
def bitsPlaysRow : OpenClaim := { program := "ytchechdcebmoeaadoor", sum := "2bca87fdc39d203dab452c904f7e7c1c42007420aa5033f58522b16b476b99a1", func := "overdrive/overdrivelaw2.BitsPlays", spec := "bitsPlays", unfollowed := true, recurses := true, named := ["math/bits.deBruijn64tab"], plainKeys := false, apart := false, laid := [("math/bits.deBruijn64tab", laid_math_bits_deBruijn64tab)] }
def BitsPlaysSaid : Prop := bitsPlaysRow.holds Tryd.pinned (OpenSpec.ofChange bitsPlaysSpec)

/-- ITS FALSE NEIGHBOUR: 'it returns false'. Refute it at one input. -/
def bitsPlaysWrong : ChangeSpec := { name := "bitsPlays", fn := fun _ => fun
  | [d1, d2, d3, d4, d5] => { results := [.lit (.bool false)], args := [d1, d2, d3, d4, d5] }
  | _ => none }
def BitsPlaysWrongFalsely : Prop := bitsPlaysRow.holds Tryd.pinned (OpenSpec.ofChange bitsPlaysWrong)

/-- 'overdrivelaw4.CodecConsts': WHATEVER THE INPUT: true; the input reads as it did. -/
def codecConstsSpec : ChangeSpec := { name := "codecConsts", fn := fun _ => fun
  | [d] => { results := [.lit (.bool true)], args := [d] }
  | _ => none }
def codecConstsRow : OpenClaim := { program := "ytchechdcebmoeaadoor", sum := "2bca87fdc39d203dab452c904f7e7c1c42007420aa5033f58522b16b476b99a1", func := "overdrive/overdrivelaw4.CodecConsts", spec := "codecConsts", unfollowed := true, recurses := true, named := ["overdrive/api.ErrMany", "overdrive/api.ErrKind", "overdrive/api.ErrIndex", "overdrive/api.ErrTarget", "overdrive/api.ErrEnd", "overdrive/api.ErrByte", "overdrive/api.ErrShape", "overdrive/api.ErrStack", "overdrive/api.ErrMerge", "overdrive/api.ErrFall", "overdrive/api.ErrLimit", "overdrive/api.ErrNode", "overdrive/api.ErrState", "overdrive/api.ErrRoom"], plainKeys := false, apart := false, laid := [("overdrive/api.ErrMany", laid_overdrive_api_ErrMany), ("overdrive/api.ErrKind", laid_overdrive_api_ErrKind), ("overdrive/api.ErrIndex", laid_overdrive_api_ErrIndex), ("overdrive/api.ErrTarget", laid_overdrive_api_ErrTarget), ("overdrive/api.ErrShape", laid_overdrive_api_ErrShape), ("overdrive/api.ErrEnd", laid_overdrive_api_ErrEnd), ("overdrive/api.ErrByte", laid_overdrive_api_ErrByte), ("overdrive/api.ErrStack", laid_overdrive_api_ErrStack), ("overdrive/api.ErrMerge", laid_overdrive_api_ErrMerge), ("overdrive/api.ErrFall", laid_overdrive_api_ErrFall), ("overdrive/api.ErrLimit", laid_overdrive_api_ErrLimit), ("overdrive/api.ErrNode", laid_overdrive_api_ErrNode), ("overdrive/api.ErrState", laid_overdrive_api_ErrState), ("overdrive/api.ErrRoom", laid_overdrive_api_ErrRoom)] }
def CodecConstsSaid : Prop := codecConstsRow.holds Tryd.pinned (OpenSpec.ofChange codecConstsSpec)

/-- ITS FALSE NEIGHBOUR: 'it returns false'. Refute it at one input. -/
def codecConstsWrong : ChangeSpec := { name := "codecConsts", fn := fun _ => fun
  | [d] => { results := [.lit (.bool false)], args := [d] }
  | _ => none }
def CodecConstsWrongFalsely : Prop := codecConstsRow.holds Tryd.pinned (OpenSpec.ofChange codecConstsWrong)

/-- 'overdrivelaw4.CodecHeads': WHATEVER THE INPUT: true; the input reads as it did. -/
def codecHeadsSpec : ChangeSpec := { name := "codecHeads", fn := fun _ => fun
  | [d] => { results := [.lit (.bool true)], args := [d] }
  | _ => none }
def codecHeadsRow : OpenClaim := { program := "ytchechdcebmoeaadoor", sum := "2bca87fdc39d203dab452c904f7e7c1c42007420aa5033f58522b16b476b99a1", func := "overdrive/overdrivelaw4.CodecHeads", spec := "codecHeads", unfollowed := true, recurses := true, named := ["overdrive/api.ErrMany", "overdrive/api.ErrKind", "overdrive/api.ErrIndex", "overdrive/api.ErrTarget", "overdrive/api.ErrEnd", "overdrive/api.ErrByte", "overdrive/api.ErrShape", "overdrive/api.ErrStack", "overdrive/api.ErrMerge", "overdrive/api.ErrFall", "overdrive/api.ErrLimit", "overdrive/api.ErrNode", "overdrive/api.ErrState", "overdrive/api.ErrRoom"], plainKeys := false, apart := false, laid := [("overdrive/api.ErrMany", laid_overdrive_api_ErrMany), ("overdrive/api.ErrKind", laid_overdrive_api_ErrKind), ("overdrive/api.ErrIndex", laid_overdrive_api_ErrIndex), ("overdrive/api.ErrTarget", laid_overdrive_api_ErrTarget), ("overdrive/api.ErrShape", laid_overdrive_api_ErrShape), ("overdrive/api.ErrEnd", laid_overdrive_api_ErrEnd), ("overdrive/api.ErrByte", laid_overdrive_api_ErrByte), ("overdrive/api.ErrStack", laid_overdrive_api_ErrStack), ("overdrive/api.ErrMerge", laid_overdrive_api_ErrMerge), ("overdrive/api.ErrFall", laid_overdrive_api_ErrFall), ("overdrive/api.ErrLimit", laid_overdrive_api_ErrLimit), ("overdrive/api.ErrNode", laid_overdrive_api_ErrNode), ("overdrive/api.ErrState", laid_overdrive_api_ErrState), ("overdrive/api.ErrRoom", laid_overdrive_api_ErrRoom)] }
def CodecHeadsSaid : Prop := codecHeadsRow.holds Tryd.pinned (OpenSpec.ofChange codecHeadsSpec)

/-- ITS FALSE NEIGHBOUR: 'it returns false'. Refute it at one input. -/
def codecHeadsWrong : ChangeSpec := { name := "codecHeads", fn := fun _ => fun
  | [d] => { results := [.lit (.bool false)], args := [d] }
  | _ => none }
def CodecHeadsWrongFalsely : Prop := codecHeadsRow.holds Tryd.pinned (OpenSpec.ofChange codecHeadsWrong)

/-- 'overdrivelaw5.FlowBlocks': WHATEVER THE INPUT: true; the input reads as it did. -/
def flowBlocksSpec : ChangeSpec := { name := "flowBlocks", fn := fun _ => fun
  | [d] => { results := [.lit (.bool true)], args := [d] }
  | _ => none }
def flowBlocksRow : OpenClaim := { program := "ytchechdcebmoeaadoor", sum := "2bca87fdc39d203dab452c904f7e7c1c42007420aa5033f58522b16b476b99a1", func := "overdrive/overdrivelaw5.FlowBlocks", spec := "flowBlocks", unfollowed := true, recurses := true, named := ["math/bits.deBruijn64tab"], plainKeys := false, apart := false, laid := [("math/bits.deBruijn64tab", laid_math_bits_deBruijn64tab)] }
def FlowBlocksSaid : Prop := flowBlocksRow.holds Tryd.pinned (OpenSpec.ofChange flowBlocksSpec)

/-- ITS FALSE NEIGHBOUR: 'it returns false'. Refute it at one input. -/
def flowBlocksWrong : ChangeSpec := { name := "flowBlocks", fn := fun _ => fun
  | [d] => { results := [.lit (.bool false)], args := [d] }
  | _ => none }
def FlowBlocksWrongFalsely : Prop := flowBlocksRow.holds Tryd.pinned (OpenSpec.ofChange flowBlocksWrong)

/-- 'overdrivelaw5.FlowGraphs': WHATEVER THE INPUT: true; the input reads as it did. -/
def flowGraphsSpec : ChangeSpec := { name := "flowGraphs", fn := fun _ => fun
  | [d] => { results := [.lit (.bool true)], args := [d] }
  | _ => none }
def flowGraphsRow : OpenClaim := { program := "ytchechdcebmoeaadoor", sum := "2bca87fdc39d203dab452c904f7e7c1c42007420aa5033f58522b16b476b99a1", func := "overdrive/overdrivelaw5.FlowGraphs", spec := "flowGraphs", unfollowed := true, recurses := true, named := ["math/bits.deBruijn64tab"], plainKeys := false, apart := false, laid := [("math/bits.deBruijn64tab", laid_math_bits_deBruijn64tab)] }
def FlowGraphsSaid : Prop := flowGraphsRow.holds Tryd.pinned (OpenSpec.ofChange flowGraphsSpec)

/-- ITS FALSE NEIGHBOUR: 'it returns false'. Refute it at one input. -/
def flowGraphsWrong : ChangeSpec := { name := "flowGraphs", fn := fun _ => fun
  | [d] => { results := [.lit (.bool false)], args := [d] }
  | _ => none }
def FlowGraphsWrongFalsely : Prop := flowGraphsRow.holds Tryd.pinned (OpenSpec.ofChange flowGraphsWrong)

/-- 'overdrivelaw5.FlowOrders': WHATEVER THE INPUT: true; the input reads as it did. -/
def flowOrdersSpec : ChangeSpec := { name := "flowOrders", fn := fun _ => fun
  | [d] => { results := [.lit (.bool true)], args := [d] }
  | _ => none }
def flowOrdersRow : OpenClaim := { program := "ytchechdcebmoeaadoor", sum := "2bca87fdc39d203dab452c904f7e7c1c42007420aa5033f58522b16b476b99a1", func := "overdrive/overdrivelaw5.FlowOrders", spec := "flowOrders", unfollowed := true, recurses := true, named := ["math/bits.deBruijn64tab"], plainKeys := false, apart := false, laid := [("math/bits.deBruijn64tab", laid_math_bits_deBruijn64tab)] }
def FlowOrdersSaid : Prop := flowOrdersRow.holds Tryd.pinned (OpenSpec.ofChange flowOrdersSpec)

/-- ITS FALSE NEIGHBOUR: 'it returns false'. Refute it at one input. -/
def flowOrdersWrong : ChangeSpec := { name := "flowOrders", fn := fun _ => fun
  | [d] => { results := [.lit (.bool false)], args := [d] }
  | _ => none }
def FlowOrdersWrongFalsely : Prop := flowOrdersRow.holds Tryd.pinned (OpenSpec.ofChange flowOrdersWrong)

/-- 'overdrivelaw5.FlowCover': WHATEVER THE INPUT: true; the input reads as it did. -/
def flowCoverSpec : ChangeSpec := { name := "flowCover", fn := fun _ => fun
  | [d] => { results := [.lit (.bool true)], args := [d] }
  | _ => none }
def flowCoverRow : OpenClaim := { program := "ytchechdcebmoeaadoor", sum := "2bca87fdc39d203dab452c904f7e7c1c42007420aa5033f58522b16b476b99a1", func := "overdrive/overdrivelaw5.FlowCover", spec := "flowCover", unfollowed := true, recurses := true, named := ["math/bits.deBruijn64tab"], plainKeys := false, apart := false, laid := [("math/bits.deBruijn64tab", laid_math_bits_deBruijn64tab)] }
def FlowCoverSaid : Prop := flowCoverRow.holds Tryd.pinned (OpenSpec.ofChange flowCoverSpec)

/-- ITS FALSE NEIGHBOUR: 'it returns false'. Refute it at one input. -/
def flowCoverWrong : ChangeSpec := { name := "flowCover", fn := fun _ => fun
  | [d] => { results := [.lit (.bool false)], args := [d] }
  | _ => none }
def FlowCoverWrongFalsely : Prop := flowCoverRow.holds Tryd.pinned (OpenSpec.ofChange flowCoverWrong)

/-- 'overdrivelaw5.FlowTurned': WHATEVER THE INPUT: true; the input reads as it did. -/
def flowTurnedSpec : ChangeSpec := { name := "flowTurned", fn := fun _ => fun
  | [d] => { results := [.lit (.bool true)], args := [d] }
  | _ => none }
def flowTurnedRow : OpenClaim := { program := "ytchechdcebmoeaadoor", sum := "2bca87fdc39d203dab452c904f7e7c1c42007420aa5033f58522b16b476b99a1", func := "overdrive/overdrivelaw5.FlowTurned", spec := "flowTurned", unfollowed := true, recurses := true, named := ["math/bits.deBruijn64tab"], plainKeys := false, apart := false, laid := [("math/bits.deBruijn64tab", laid_math_bits_deBruijn64tab)] }
def FlowTurnedSaid : Prop := flowTurnedRow.holds Tryd.pinned (OpenSpec.ofChange flowTurnedSpec)

/-- ITS FALSE NEIGHBOUR: 'it returns false'. Refute it at one input. -/
def flowTurnedWrong : ChangeSpec := { name := "flowTurned", fn := fun _ => fun
  | [d] => { results := [.lit (.bool false)], args := [d] }
  | _ => none }
def FlowTurnedWrongFalsely : Prop := flowTurnedRow.holds Tryd.pinned (OpenSpec.ofChange flowTurnedWrong)

/-- 'overdrivelaw5.FlowChain': WHATEVER THE INPUT: true; the input reads as it did. -/
def flowChainSpec : ChangeSpec := { name := "flowChain", fn := fun _ => fun
  | [d1, d2] => { results := [.lit (.bool true)], args := [d1, d2] }
  | _ => none }
def flowChainRow : OpenClaim := { program := "ytchechdcebmoeaadoor", sum := "2bca87fdc39d203dab452c904f7e7c1c42007420aa5033f58522b16b476b99a1", func := "overdrive/overdrivelaw5.FlowChain", spec := "flowChain", unfollowed := true, recurses := true, named := ["math/bits.deBruijn64tab"], plainKeys := false, apart := false, laid := [("math/bits.deBruijn64tab", laid_math_bits_deBruijn64tab)] }
def FlowChainSaid : Prop := flowChainRow.holds Tryd.pinned (OpenSpec.ofChange flowChainSpec)

/-- ITS FALSE NEIGHBOUR: 'it returns false'. Refute it at one input. -/
def flowChainWrong : ChangeSpec := { name := "flowChain", fn := fun _ => fun
  | [d1, d2] => { results := [.lit (.bool false)], args := [d1, d2] }
  | _ => none }
def FlowChainWrongFalsely : Prop := flowChainRow.holds Tryd.pinned (OpenSpec.ofChange flowChainWrong)

/-- 'overdrivelaw11.HeapShapes': WHATEVER THE INPUT: true; the input reads as it did. -/
def heapShapesSpec : ChangeSpec := { name := "heapShapes", fn := fun _ => fun
  | [d1, d2, d3] => { results := [.lit (.bool true)], args := [d1, d2, d3] }
  | _ => none }
def heapShapesRow : OpenClaim := { program := "ytchechdcebmoeaadoor", sum := "2bca87fdc39d203dab452c904f7e7c1c42007420aa5033f58522b16b476b99a1", func := "overdrive/overdrivelaw11.HeapShapes", spec := "heapShapes", unfollowed := true, recurses := true, named := ["overdrive/api.ErrLimit"], plainKeys := false, apart := false, laid := [("overdrive/api.ErrLimit", laid_overdrive_api_ErrLimit)] }
def HeapShapesSaid : Prop := heapShapesRow.holds Tryd.pinned (OpenSpec.ofChange heapShapesSpec)

/-- ITS FALSE NEIGHBOUR: 'it returns false'. Refute it at one input. -/
def heapShapesWrong : ChangeSpec := { name := "heapShapes", fn := fun _ => fun
  | [d1, d2, d3] => { results := [.lit (.bool false)], args := [d1, d2, d3] }
  | _ => none }
def HeapShapesWrongFalsely : Prop := heapShapesRow.holds Tryd.pinned (OpenSpec.ofChange heapShapesWrong)

/-- 'overdrivelaw12.GcNone': WHATEVER THE INPUT: true; the input reads as it did. -/
def gcNoneSpec : ChangeSpec := { name := "gcNone", fn := fun _ => fun
  | [d1, d2] => { results := [.lit (.bool true)], args := [d1, d2] }
  | _ => none }
def gcNoneRow : OpenClaim := { program := "ytchechdcebmoeaadoor", sum := "2bca87fdc39d203dab452c904f7e7c1c42007420aa5033f58522b16b476b99a1", func := "overdrive/overdrivelaw12.GcNone", spec := "gcNone", unfollowed := true, recurses := true, named := ["overdrive/api.ErrLimit"], plainKeys := false, apart := false, laid := [("overdrive/api.ErrLimit", laid_overdrive_api_ErrLimit)] }
def GcNoneSaid : Prop := gcNoneRow.holds Tryd.pinned (OpenSpec.ofChange gcNoneSpec)

/-- ITS FALSE NEIGHBOUR: 'it returns false'. Refute it at one input. -/
def gcNoneWrong : ChangeSpec := { name := "gcNone", fn := fun _ => fun
  | [d1, d2] => { results := [.lit (.bool false)], args := [d1, d2] }
  | _ => none }
def GcNoneWrongFalsely : Prop := gcNoneRow.holds Tryd.pinned (OpenSpec.ofChange gcNoneWrong)

/-- 'overdrivelaw23.MovesRing': WHATEVER THE INPUT: true; the input reads as it did. -/
def movesRingSpec : ChangeSpec := { name := "movesRing", fn := fun _ => fun
  | [d1, d2, d3] => { results := [.lit (.bool true)], args := [d1, d2, d3] }
  | _ => none }
def movesRingRow : OpenClaim := { program := "ytchechdcebmoeaadoor", sum := "2bca87fdc39d203dab452c904f7e7c1c42007420aa5033f58522b16b476b99a1", func := "overdrive/overdrivelaw23.MovesRing", spec := "movesRing", unfollowed := true, recurses := true, named := ["overdrive/api.ErrMany", "overdrive/api.ErrIndex", "overdrive/api.ErrShape"], plainKeys := false, apart := false, laid := [("overdrive/api.ErrMany", laid_overdrive_api_ErrMany), ("overdrive/api.ErrIndex", laid_overdrive_api_ErrIndex), ("overdrive/api.ErrShape", laid_overdrive_api_ErrShape)] }
def MovesRingSaid : Prop := movesRingRow.holds Tryd.pinned (OpenSpec.ofChange movesRingSpec)

/-- ITS FALSE NEIGHBOUR: 'it returns false'. Refute it at one input. -/
def movesRingWrong : ChangeSpec := { name := "movesRing", fn := fun _ => fun
  | [d1, d2, d3] => { results := [.lit (.bool false)], args := [d1, d2, d3] }
  | _ => none }
def MovesRingWrongFalsely : Prop := movesRingRow.holds Tryd.pinned (OpenSpec.ofChange movesRingWrong)

/- THE SECOND FORM. 'bulk': how many values and letters a reading holds, each counted each time it is reached (what is shared counts as often as it is met; a slice's spare places count too). A statement '..UptoSaid' is the law's where the arguments, and the package variables that the reading takes, are together of bulk at most 1048576: NARROWER than '..Said'. Prove '..Said' where nothing that the law and all that it calls make is longer than what came in: it says more and counts as full. Else prove '..UptoSaid'. A law counts once. -/
mutual
def uptoBulk {H : Type} : DataW H → Nat
  | .lit (.string bytes) => bytes.length + 1
  | .lit _ => 1
  | .nil => 1
  | .ptr d => uptoBulk d + 1
  | .slice elems spare => uptoBulkAll elems + uptoBulkAll spare + 1
  | .agg parts => uptoBulkAll parts + 1
  | .iface _ d => uptoBulk d + 1
  | .map entries => uptoBulkEntries entries + 1
  | .held _ => 1
def uptoBulkAll {H : Type} : List (DataW H) → Nat
  | [] => 0
  | d :: r => uptoBulk d + uptoBulkAll r
def uptoBulkEntries {H : Type} : List (Lit × DataW H) → Nat
  | [] => 0
  | x :: r => uptoBulkEntry x + uptoBulkEntries r
def uptoBulkEntry {H : Type} : Lit × DataW H → Nat
  | (.string bytes, d) => bytes.length + uptoBulk d + 1
  | (_, d) => uptoBulk d + 1
 end
def uptoSmall : (H : Type) → List (DataW H) → Bool := fun _ ds => decide (uptoBulkAll ds ≤ 1048576)
def OpenSpec.upto (s : _root_.Go.ChangeSpec) : _root_.Go.OpenSpec := { _root_.Go.OpenSpec.ofChange s with cond := some uptoSmall }

/-- 'overdrivelaw2.BitsPlays', WHERE WHAT IT READS IS OF BULK AT MOST 1048576: true; the input reads as it did. -/
def bitsPlaysUptoRow : OpenClaim := { program := "ytchechdcebmoeaadoor", sum := "2bca87fdc39d203dab452c904f7e7c1c42007420aa5033f58522b16b476b99a1", func := "overdrive/overdrivelaw2.BitsPlays", spec := "bitsPlays", unfollowed := true, recurses := true, named := ["math/bits.deBruijn64tab"], plainKeys := false, apart := false, laid := [("math/bits.deBruijn64tab", laid_math_bits_deBruijn64tab)], narrowed := true }
def BitsPlaysUptoSaid : Prop := bitsPlaysUptoRow.holds Tryd.pinned (OpenSpec.upto bitsPlaysSpec)

/-- 'overdrivelaw4.CodecConsts', WHERE WHAT IT READS IS OF BULK AT MOST 1048576: true; the input reads as it did. -/
def codecConstsUptoRow : OpenClaim := { program := "ytchechdcebmoeaadoor", sum := "2bca87fdc39d203dab452c904f7e7c1c42007420aa5033f58522b16b476b99a1", func := "overdrive/overdrivelaw4.CodecConsts", spec := "codecConsts", unfollowed := true, recurses := true, named := ["overdrive/api.ErrMany", "overdrive/api.ErrKind", "overdrive/api.ErrIndex", "overdrive/api.ErrTarget", "overdrive/api.ErrEnd", "overdrive/api.ErrByte", "overdrive/api.ErrShape", "overdrive/api.ErrStack", "overdrive/api.ErrMerge", "overdrive/api.ErrFall", "overdrive/api.ErrLimit", "overdrive/api.ErrNode", "overdrive/api.ErrState", "overdrive/api.ErrRoom"], plainKeys := false, apart := false, laid := [("overdrive/api.ErrMany", laid_overdrive_api_ErrMany), ("overdrive/api.ErrKind", laid_overdrive_api_ErrKind), ("overdrive/api.ErrIndex", laid_overdrive_api_ErrIndex), ("overdrive/api.ErrTarget", laid_overdrive_api_ErrTarget), ("overdrive/api.ErrShape", laid_overdrive_api_ErrShape), ("overdrive/api.ErrEnd", laid_overdrive_api_ErrEnd), ("overdrive/api.ErrByte", laid_overdrive_api_ErrByte), ("overdrive/api.ErrStack", laid_overdrive_api_ErrStack), ("overdrive/api.ErrMerge", laid_overdrive_api_ErrMerge), ("overdrive/api.ErrFall", laid_overdrive_api_ErrFall), ("overdrive/api.ErrLimit", laid_overdrive_api_ErrLimit), ("overdrive/api.ErrNode", laid_overdrive_api_ErrNode), ("overdrive/api.ErrState", laid_overdrive_api_ErrState), ("overdrive/api.ErrRoom", laid_overdrive_api_ErrRoom)], narrowed := true }
def CodecConstsUptoSaid : Prop := codecConstsUptoRow.holds Tryd.pinned (OpenSpec.upto codecConstsSpec)

/-- 'overdrivelaw4.CodecHeads', WHERE WHAT IT READS IS OF BULK AT MOST 1048576: true; the input reads as it did. -/
def codecHeadsUptoRow : OpenClaim := { program := "ytchechdcebmoeaadoor", sum := "2bca87fdc39d203dab452c904f7e7c1c42007420aa5033f58522b16b476b99a1", func := "overdrive/overdrivelaw4.CodecHeads", spec := "codecHeads", unfollowed := true, recurses := true, named := ["overdrive/api.ErrMany", "overdrive/api.ErrKind", "overdrive/api.ErrIndex", "overdrive/api.ErrTarget", "overdrive/api.ErrEnd", "overdrive/api.ErrByte", "overdrive/api.ErrShape", "overdrive/api.ErrStack", "overdrive/api.ErrMerge", "overdrive/api.ErrFall", "overdrive/api.ErrLimit", "overdrive/api.ErrNode", "overdrive/api.ErrState", "overdrive/api.ErrRoom"], plainKeys := false, apart := false, laid := [("overdrive/api.ErrMany", laid_overdrive_api_ErrMany), ("overdrive/api.ErrKind", laid_overdrive_api_ErrKind), ("overdrive/api.ErrIndex", laid_overdrive_api_ErrIndex), ("overdrive/api.ErrTarget", laid_overdrive_api_ErrTarget), ("overdrive/api.ErrShape", laid_overdrive_api_ErrShape), ("overdrive/api.ErrEnd", laid_overdrive_api_ErrEnd), ("overdrive/api.ErrByte", laid_overdrive_api_ErrByte), ("overdrive/api.ErrStack", laid_overdrive_api_ErrStack), ("overdrive/api.ErrMerge", laid_overdrive_api_ErrMerge), ("overdrive/api.ErrFall", laid_overdrive_api_ErrFall), ("overdrive/api.ErrLimit", laid_overdrive_api_ErrLimit), ("overdrive/api.ErrNode", laid_overdrive_api_ErrNode), ("overdrive/api.ErrState", laid_overdrive_api_ErrState), ("overdrive/api.ErrRoom", laid_overdrive_api_ErrRoom)], narrowed := true }
def CodecHeadsUptoSaid : Prop := codecHeadsUptoRow.holds Tryd.pinned (OpenSpec.upto codecHeadsSpec)

/-- 'overdrivelaw5.FlowBlocks', WHERE WHAT IT READS IS OF BULK AT MOST 1048576: true; the input reads as it did. -/
def flowBlocksUptoRow : OpenClaim := { program := "ytchechdcebmoeaadoor", sum := "2bca87fdc39d203dab452c904f7e7c1c42007420aa5033f58522b16b476b99a1", func := "overdrive/overdrivelaw5.FlowBlocks", spec := "flowBlocks", unfollowed := true, recurses := true, named := ["math/bits.deBruijn64tab"], plainKeys := false, apart := false, laid := [("math/bits.deBruijn64tab", laid_math_bits_deBruijn64tab)], narrowed := true }
def FlowBlocksUptoSaid : Prop := flowBlocksUptoRow.holds Tryd.pinned (OpenSpec.upto flowBlocksSpec)

/-- 'overdrivelaw5.FlowGraphs', WHERE WHAT IT READS IS OF BULK AT MOST 1048576: true; the input reads as it did. -/
def flowGraphsUptoRow : OpenClaim := { program := "ytchechdcebmoeaadoor", sum := "2bca87fdc39d203dab452c904f7e7c1c42007420aa5033f58522b16b476b99a1", func := "overdrive/overdrivelaw5.FlowGraphs", spec := "flowGraphs", unfollowed := true, recurses := true, named := ["math/bits.deBruijn64tab"], plainKeys := false, apart := false, laid := [("math/bits.deBruijn64tab", laid_math_bits_deBruijn64tab)], narrowed := true }
def FlowGraphsUptoSaid : Prop := flowGraphsUptoRow.holds Tryd.pinned (OpenSpec.upto flowGraphsSpec)

/-- 'overdrivelaw5.FlowOrders', WHERE WHAT IT READS IS OF BULK AT MOST 1048576: true; the input reads as it did. -/
def flowOrdersUptoRow : OpenClaim := { program := "ytchechdcebmoeaadoor", sum := "2bca87fdc39d203dab452c904f7e7c1c42007420aa5033f58522b16b476b99a1", func := "overdrive/overdrivelaw5.FlowOrders", spec := "flowOrders", unfollowed := true, recurses := true, named := ["math/bits.deBruijn64tab"], plainKeys := false, apart := false, laid := [("math/bits.deBruijn64tab", laid_math_bits_deBruijn64tab)], narrowed := true }
def FlowOrdersUptoSaid : Prop := flowOrdersUptoRow.holds Tryd.pinned (OpenSpec.upto flowOrdersSpec)

/-- 'overdrivelaw5.FlowCover', WHERE WHAT IT READS IS OF BULK AT MOST 1048576: true; the input reads as it did. -/
def flowCoverUptoRow : OpenClaim := { program := "ytchechdcebmoeaadoor", sum := "2bca87fdc39d203dab452c904f7e7c1c42007420aa5033f58522b16b476b99a1", func := "overdrive/overdrivelaw5.FlowCover", spec := "flowCover", unfollowed := true, recurses := true, named := ["math/bits.deBruijn64tab"], plainKeys := false, apart := false, laid := [("math/bits.deBruijn64tab", laid_math_bits_deBruijn64tab)], narrowed := true }
def FlowCoverUptoSaid : Prop := flowCoverUptoRow.holds Tryd.pinned (OpenSpec.upto flowCoverSpec)

/-- 'overdrivelaw5.FlowTurned', WHERE WHAT IT READS IS OF BULK AT MOST 1048576: true; the input reads as it did. -/
def flowTurnedUptoRow : OpenClaim := { program := "ytchechdcebmoeaadoor", sum := "2bca87fdc39d203dab452c904f7e7c1c42007420aa5033f58522b16b476b99a1", func := "overdrive/overdrivelaw5.FlowTurned", spec := "flowTurned", unfollowed := true, recurses := true, named := ["math/bits.deBruijn64tab"], plainKeys := false, apart := false, laid := [("math/bits.deBruijn64tab", laid_math_bits_deBruijn64tab)], narrowed := true }
def FlowTurnedUptoSaid : Prop := flowTurnedUptoRow.holds Tryd.pinned (OpenSpec.upto flowTurnedSpec)

/-- 'overdrivelaw5.FlowChain', WHERE WHAT IT READS IS OF BULK AT MOST 1048576: true; the input reads as it did. -/
def flowChainUptoRow : OpenClaim := { program := "ytchechdcebmoeaadoor", sum := "2bca87fdc39d203dab452c904f7e7c1c42007420aa5033f58522b16b476b99a1", func := "overdrive/overdrivelaw5.FlowChain", spec := "flowChain", unfollowed := true, recurses := true, named := ["math/bits.deBruijn64tab"], plainKeys := false, apart := false, laid := [("math/bits.deBruijn64tab", laid_math_bits_deBruijn64tab)], narrowed := true }
def FlowChainUptoSaid : Prop := flowChainUptoRow.holds Tryd.pinned (OpenSpec.upto flowChainSpec)

/-- 'overdrivelaw11.HeapShapes', WHERE WHAT IT READS IS OF BULK AT MOST 1048576: true; the input reads as it did. -/
def heapShapesUptoRow : OpenClaim := { program := "ytchechdcebmoeaadoor", sum := "2bca87fdc39d203dab452c904f7e7c1c42007420aa5033f58522b16b476b99a1", func := "overdrive/overdrivelaw11.HeapShapes", spec := "heapShapes", unfollowed := true, recurses := true, named := ["overdrive/api.ErrLimit"], plainKeys := false, apart := false, laid := [("overdrive/api.ErrLimit", laid_overdrive_api_ErrLimit)], narrowed := true }
def HeapShapesUptoSaid : Prop := heapShapesUptoRow.holds Tryd.pinned (OpenSpec.upto heapShapesSpec)

/-- 'overdrivelaw12.GcNone', WHERE WHAT IT READS IS OF BULK AT MOST 1048576: true; the input reads as it did. -/
def gcNoneUptoRow : OpenClaim := { program := "ytchechdcebmoeaadoor", sum := "2bca87fdc39d203dab452c904f7e7c1c42007420aa5033f58522b16b476b99a1", func := "overdrive/overdrivelaw12.GcNone", spec := "gcNone", unfollowed := true, recurses := true, named := ["overdrive/api.ErrLimit"], plainKeys := false, apart := false, laid := [("overdrive/api.ErrLimit", laid_overdrive_api_ErrLimit)], narrowed := true }
def GcNoneUptoSaid : Prop := gcNoneUptoRow.holds Tryd.pinned (OpenSpec.upto gcNoneSpec)

/-- 'overdrivelaw23.MovesRing', WHERE WHAT IT READS IS OF BULK AT MOST 1048576: true; the input reads as it did. -/
def movesRingUptoRow : OpenClaim := { program := "ytchechdcebmoeaadoor", sum := "2bca87fdc39d203dab452c904f7e7c1c42007420aa5033f58522b16b476b99a1", func := "overdrive/overdrivelaw23.MovesRing", spec := "movesRing", unfollowed := true, recurses := true, named := ["overdrive/api.ErrMany", "overdrive/api.ErrIndex", "overdrive/api.ErrShape"], plainKeys := false, apart := false, laid := [("overdrive/api.ErrMany", laid_overdrive_api_ErrMany), ("overdrive/api.ErrIndex", laid_overdrive_api_ErrIndex), ("overdrive/api.ErrShape", laid_overdrive_api_ErrShape)], narrowed := true }
def MovesRingUptoSaid : Prop := movesRingUptoRow.holds Tryd.pinned (OpenSpec.upto movesRingSpec)

end Rows
end Go.Proofs.YtchechdcebmoeaaDoor

/-
  Nothing, or a listed error.
-/
import Derived.Test.YtjffbojgdemooaaDoorSee3
namespace Go.Proofs.YtjffbojgdemooaaDoor
open Go.RowKit

/-- Nothing, or a listed error. -/
def errV (a : Nat → Addr) : Nat → Value
  | 0 => .nilIface
  | c + 1 => .iface 272 (.pointer (some (a c)))

def MayPost (a : Nat → Addr) (c : Nat) (w : World) (e : Ending) (w' : World) : Prop := e = .returned (errV a c) ∧ Below w.heap.size w w'

end Go.Proofs.YtjffbojgdemooaaDoor

/-
  What this claim takes of the earlier layers' texts: the cells that a list of numbers lays.
-/
import Derived.Test.YtapcmbbhhclepaaGreatDoorB25
namespace Go.Proofs.YtapcmbbhhclepaaGreatDoor
/-- the cells that a list of numbers lays -/
def litCells : DataW Unit → Array Value
  | .agg l => (l.map (fun d => match d with | .lit (.int k z) => Value.int k z | _ => undef)).toArray
  | _ => #[]
end Go.Proofs.YtapcmbbhhclepaaGreatDoor

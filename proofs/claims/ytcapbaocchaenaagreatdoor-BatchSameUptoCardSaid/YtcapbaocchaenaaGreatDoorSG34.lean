import Derived.Test.YtcapbaocchaenaaGreatDoorSG33
/- The walk of the code's Read of an event, where the bytes begin with the version. -/
namespace Go.Proofs.YtcapbaocchaenaaGreatDoor
open Go.RowKit Go.Shelf Fl
attribute [local go_sem] run_store_func run_store_nilFunc

theorem blk {w w' : World} {i : Nat} {o : Obj} (h : w.heap[i]? = some o) (hb : Below w.heap.size w w') : w'.heap[i]? = some o := (hb.block _ (Array.getElem?_eq_some_iff.1 h).1).trans h

end Go.Proofs.YtcapbaocchaenaaGreatDoor


import Derived.Test.YtjoolocdejnohaaGreatSC8
import Derived.Test.YtjoolocdejnohaaGreatSC9
import Derived.BigRegion
/- The walk of a file's cut. -/
namespace Go.Proofs.YtjoolocdejnohaaGreat
open Go.RowKit Go.Maps Go.Shelf

theorem DiskAt.drew {S : Nat → Prop} {w : World} {d mb : Nat} {p : Int} {L : List FW} {M : DM} (h : DiskAt S w d mb p L M) : DiskAt S w.drew d mb p L M := h.below ((Below.refl _ _).drew)

end Go.Proofs.YtjoolocdejnohaaGreat


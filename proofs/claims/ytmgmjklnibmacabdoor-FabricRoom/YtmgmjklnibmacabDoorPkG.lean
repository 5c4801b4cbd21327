/- DERIVED of the program: assentbook.Roomy and Intact of bytes; assentref1.Num. Own work. -/
import Derived.Test.YtmgmjklnibmacabDoorPkF
namespace Go.Proofs.YtmgmjklnibmacabDoor
open Go.RowKit Go.Extern.Stop Go.Stop Go.Extern

theorem set_fill (L : List Value) (k : Nat) (hk : k < 80) (M Z : Value) :
    (L ++ (List.replicate k M ++ List.replicate (80 - k) Z)).toArray.setIfInBounds (L.length + k) M = (L ++ (List.replicate (k + 1) M ++ List.replicate (80 - (k + 1)) Z)).toArray := by
  apply Array.toList_inj.1
  rw [Array.toList_setIfInBounds]
  show (L ++ (List.replicate k M ++ List.replicate (80 - k) Z)).set (L.length + k) M = _
  rw [List.set_append_right _ _ (by omega), show 80 - k = (80 - (k + 1)) + 1 from by omega, List.replicate_succ, List.set_append_right _ _ (by simp)]
  simp [List.replicate_succ']

theorem bys_rep (k m : Nat) : bys (List.replicate k m) = List.replicate k (Value.int .u8 (m : Int)) := by simp [bys]

end Go.Proofs.YtmgmjklnibmacabDoor

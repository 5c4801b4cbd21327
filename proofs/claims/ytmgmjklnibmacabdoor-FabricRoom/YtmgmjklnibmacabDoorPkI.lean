/- DERIVED of the program: rows of numbers as arguments. Own work. -/
import Derived.Test.YtmgmjklnibmacabDoorPkH
import Derived.ChangeSlices
import Derived.OpenShut
import Derived.SizedLaws
namespace Go.Proofs.YtmgmjklnibmacabDoor
open Go.RowKit Go.Extern.Stop Go.Stop Go.Extern Go.ChangeShapes Go.WideShapes Go.ChangeAt Go.ChangeMaps

theorem Tryd.bytesU8 : Tryd.prog.bytesOf 5 = 1 := by kernel_rfl

end Go.Proofs.YtmgmjklnibmacabDoor

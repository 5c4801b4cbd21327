/- DERIVED of the program: (*Reader).Num, End, Wrong, At; assentbook.Same of bytes. Own work. -/
import Derived.Test.YtmgmjklnibmacabDoorPkD
namespace Go.Proofs.YtmgmjklnibmacabDoor
open Go.RowKit Go.Extern.Stop Go.Stop Go.Extern

/-- What Num answers. -/
abbrev numS (bs : List Nat) (at_ c : Nat) : Nat × Int × Nat := inS bs (-9223372036854775808) 9223372036854775807 at_ c

/-- What End leaves. -/
def endS (bs : List Nat) (at_ c : Nat) : Nat := if c ≠ 0 then c else if at_ < bs.length then 5 else 0

end Go.Proofs.YtmgmjklnibmacabDoor

/- DERIVED of the program: PackRuns returns true. Own work. -/
import Derived.Test.YtmgmjklnibmacabDoorPkE
namespace Go.Proofs.YtmgmjklnibmacabDoor
open Go.RowKit Go.Extern.Stop Go.Stop Go.Extern

theorem Lie.lit (w : World) (t : TypeId) (bs : List Nat) (cs : Array Value) (hcs : cs = (bys bs).toArray) : Lie (w.alloc (.cells cs t)) (some ⟨w.heap.size, 0, none⟩) bs.length bs := by
  subst hcs
  refine ⟨Nat.le_refl _, (by simp), fun k hk => ⟨w.heap.size, 0, rfl, ?_⟩⟩
  simp [bys, hk]

/-- A call that writes the one block q, of the caller's own. -/
theorem wrote {B : Nat} {w w1 w2 : World} {q : Nat} (h : Below B w w1) (hg : w1.grownBy w2 (some q)) (hB : B ≤ w.heap.size) (hq : B ≤ q) : Below B w w2 :=
  h.grown hg (Nat.le_trans hB h.size) (fun k hk => by cases hk; exact hq)

end Go.Proofs.YtmgmjklnibmacabDoor

/- DERIVED: a region that draws its order, walked once, in a class of worlds: its operations only read, its callees lead from the class into it. Over the guide's wp_region_quiet. Own work. -/
import Derived.Test.YtakomlmbdienpaaDoorGenA
namespace Go.Proofs.YtakomlmbdienpaaDoor
open Go.RowKit Go.Extern.Stop Go.Stop Go.Extern

/-- A world of the class. -/
def Kin (C : World → Prop) : Type := { W : World // C W }
/-- The world itself. -/
def Kin.of {C : World → Prop} (n : Kin C) : World := n.val
theorem Kin.in {C : World → Prop} (n : Kin C) : C n.of := n.property

theorem wp_region_kin {P : Program} {C : World → Prop} {id : Nat} {Q : Exit → Act → World → Prop} {a : Act} {w : World} {l : List Oper} (hm : P.follows .mixedOrders = true) (hB : Region.lexB .any l.toArray = true) (hC : C w.drew)
    (h : Nonempty (Kin C) → wpQuiet P l.toArray (fun w' => ∃ n : Kin C, w' = n.of) (fun a' => ∀ w', (∃ n : Kin C, w' = n.of) → Q .normal a' w') l a) : (Code.region id l.toArray true).wp P Q a w :=
  wp_region_quiet (C := fun w' => ∃ n : Kin C, w' = n.of) hm hB ⟨⟨_, hC⟩, rfl⟩ (by simpa using h ⟨⟨_, hC⟩⟩)

/-- A callee that leads from the class into it. -/
theorem Kin.call {P : Program} {C : World → Prop} {f : FuncId} {args : Array Value} {v : Value} (n : Kin C) (h : C n.of → Calls P f args n.of fun e w' => e = .returned v ∧ C w') :
    Calls P f args n.of fun e w' => e = .returned v ∧ ∃ m : Kin C, w' = m.of :=
  (h n.in).mono fun _ w' ⟨he, hw⟩ => ⟨he, ⟨w', hw⟩, rfl⟩

/-- A callee that leaves the world as it was. -/
theorem Kin.same {P : Program} {C : World → Prop} {f : FuncId} {args : Array Value} {v : Value} (n : Kin C) (h : Calls P f args n.of fun e w' => e = .returned v ∧ w' = n.of) :
    Calls P f args n.of fun e w' => e = .returned v ∧ ∃ m : Kin C, w' = m.of :=
  h.mono fun _ _ ⟨he, hw⟩ => ⟨he, n, hw⟩

/-- The class 'below': nothing of what there was has changed. -/
theorem Kin.below {P : Program} {B : Nat} {w : World} {f : FuncId} {args : Array Value} {v : Value} (hB : B ≤ w.heap.size) (n : Kin (fun W => Below B w W)) (h : Calls P f args n.of fun e w' => e = .returned v ∧ Below n.of.heap.size n.of w') :
    Calls P f args n.of fun e w' => e = .returned v ∧ ∃ m : Kin (fun W => Below B w W), w' = m.of :=
  h.mono fun _ w' ⟨he, hw⟩ => ⟨he, ⟨w', bstep n.in hB hw⟩, rfl⟩

end Go.Proofs.YtakomlmbdienpaaDoor

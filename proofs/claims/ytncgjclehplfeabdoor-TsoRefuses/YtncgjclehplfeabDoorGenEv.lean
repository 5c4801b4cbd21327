/- DERIVED of the program: an event that is an argument by value. Own work. -/
import Derived.Test.YtncgjclehplfeabDoorGenW
import Derived.WideShapes
namespace Go.Proofs.YtncgjclehplfeabDoor
open Go.RowKit Go.Extern.Stop Go.Stop Go.Extern Go.WideShapes
set_option maxRecDepth 100000 in
theorem open_ev {H : Type} {enc : TypeId × Value → H} {w : World} {base : Nat} {spare : Nat → Bool} {held : Bool} {r : Reach} {b0 : Nat} {v : Value} {d : DataW H} {p : List MemPlace}
    (hv : Value.okWide Tryd.prog w r b0 31 v) (h : DataW.Trod enc Tryd.prog w base spare held 31 v d p) : ∃ (k c a v1 n : Int) (b : Bool), v = .agg #[.int .i64 k, .int .i64 c, .int .i64 a, .int .u32 v1, .int .u32 n, .bool b] := by
  obtain ⟨cs, rfl, hsz⟩ := okWide_struct Tryd.underlying31 hv
  obtain ⟨fuel, hf⟩ := h
  obtain ⟨k, c, a, v1, n, b, e⟩ := ev_trod hf
  refine ⟨k, c, a, v1, n, b, ?_⟩
  congr 1
  exact Array.toList_inj.1 e
end Go.Proofs.YtncgjclehplfeabDoor

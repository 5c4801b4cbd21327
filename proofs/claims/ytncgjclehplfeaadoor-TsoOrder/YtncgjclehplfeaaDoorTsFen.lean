/- DERIVED of the program: an array of four words. Own work. -/
import Derived.Test.YtncgjclehplfeaaDoorTsK
import Derived.Test.YtncgjclehplfeaaDoorGenW
namespace Go.Proofs.YtncgjclehplfeaaDoor
open Go.RowKit Go.Extern.Stop Go.Stop Go.Extern

theorem u4_get (M : List Int) (i : Nat) (hi : i < M.length) : (((M.map (fun z => Value.int .u32 z)).toArray))[i]? = some (.int .u32 (M.getD i 0)) := by
  simp [List.getD, hi]
theorem u4_set (M : List Int) (i : Nat) (v : Int) : ((M.map (fun z => Value.int .u32 z)).toArray).setIfInBounds i (.int .u32 v) = ((M.set i v).map (fun z => Value.int .u32 z)).toArray := by
  simp [List.map_set]
abbrev uarr (M : List Int) : Array Value := (M.map (fun z => Value.int .u32 z)).toArray

end Go.Proofs.YtncgjclehplfeaaDoor

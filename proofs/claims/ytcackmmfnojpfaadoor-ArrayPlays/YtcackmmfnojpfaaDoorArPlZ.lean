/- DERIVED of the program: ArrayPlays returns true. Own work. -/
import Derived.Test.YtcackmmfnojpfaaDoorArPlays
namespace Go.Proofs.YtcackmmfnojpfaaDoor
open Go.RowKit Go.Extern.Stop Go.Stop Go.Extern

theorem arrayPlays_any (w : World) (sa : Nat → Addr) (hE : Env10 w sa) (n0 n1 : Int) (al : Option Addr) (n capl : Nat) (hQ : Asks6 w al n) :
    Calls Tryd.prog 4 #[.int .i64 n0, .int .i64 n1, .slice al n capl] w fun r w' => r = .returned (.bool true) ∧ Below w.heap.size w w' := by
  cases h0 : pB n0 with
  | false => exact arrayPlays_arg w sa hE n0 n1 0 (.inl ⟨h0, rfl⟩) al n capl
  | true =>
    cases h1 : pB n1 with
    | false => exact arrayPlays_arg w sa hE n0 n1 1 (.inr ⟨h0, h1, rfl⟩) al n capl
    | true =>
      obtain ⟨s, rfl, hs⟩ := pB_nat h0
      obtain ⟨k, rfl, hk⟩ := pB_nat h1
      exact arrayPlays_ok w sa hE s k hs hk al n capl hQ

end Go.Proofs.YtcackmmfnojpfaaDoor

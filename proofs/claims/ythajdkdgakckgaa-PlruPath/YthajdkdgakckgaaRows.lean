/-
  No cell of these rows narrows 'for every input' (looked for: loops, veiled, ifaces, maps, wideKeys, modest, calm, conditions, laid).
  DERIVED. THE GIVEN ROWS OF THIS SEAT. 6 by the template 'for every input the law returns true; each argument reads behind the call as it read before'; 0 by the template 'total and deterministic' (their statements: YthajdkdgakckgaaTotals.lean).
  GIVEN WITH THE SEED: the statements are not yours to turn. If you find one false, say at which input.
  Laid BY PROGRAM, IN A SANDBOX (cutbox-rows.mjs): the forced cells as the released guide's own fill.sh prints them over the translation b675260420752f10… (all of the seat's roots in one cut). By AI agents, Wed Nov 11 2026. No macro, syntax, notation, axiom, sorry.
-/
import Derived.Test.YthajdkdgakckgaaChecked
import GoSem.Claim
import GoSem.ClaimJoined
import GoSem.ClaimMapViews
import Derived.JoinedTies
import Derived.KernelRfl
namespace Go.Proofs.Ythajdkdgakckgaa
/- THE CELL 'sum', in the pinned program and in every row, IS THE sha256 OF THE DUMP (.gsa) THAT YthajdkdgakckgaaProg.lean LOADS. Nothing in Lean hashes anything: it is a label: what it is worth is what the hold of that sum in a sandbox is worth. -/
noncomputable def Try.pinned : Pinned := { name := "ythajdkdgakckgaa", sum := "b675260420752f10a7dfa5fe52c117d9ac94f3759498ec11320d7ec448d585c5", checked := Try.checked }
namespace Rows
def none {H : Type} : Left H := { results := [], args := [] }

/-- 'assentlaw5.PlruRuns': WHATEVER THE INPUT: true; the input reads as it did. -/
def plruRunsSpec : ChangeSpec := { name := "plruRuns", fn := fun _ => fun
  | [] => { results := [.lit (.bool true)], args := [] }
  | _ => none }
def plruRunsRow : OpenClaim := { program := "ythajdkdgakckgaa", sum := "b675260420752f10a7dfa5fe52c117d9ac94f3759498ec11320d7ec448d585c5", func := "assent/assentlaw5.PlruRuns", spec := "plruRuns", apart := false }
def PlruRunsSaid : Prop := plruRunsRow.holds Try.pinned (OpenSpec.ofChange plruRunsSpec)

/-- ITS FALSE NEIGHBOUR: 'it returns false'. Refute it at one input. -/
def plruRunsWrong : ChangeSpec := { name := "plruRuns", fn := fun _ => fun
  | [] => { results := [.lit (.bool false)], args := [] }
  | _ => none }
def PlruRunsWrongFalsely : Prop := plruRunsRow.holds Try.pinned (OpenSpec.ofChange plruRunsWrong)

/-- 'assentlaw5.PlruTells': WHATEVER THE INPUT: true; the input reads as it did. -/
def plruTellsSpec : ChangeSpec := { name := "plruTells", fn := fun _ => fun
  | [d1, d2, d3] => { results := [.lit (.bool true)], args := [d1, d2, d3] }
  | _ => none }
def plruTellsRow : OpenClaim := { program := "ythajdkdgakckgaa", sum := "b675260420752f10a7dfa5fe52c117d9ac94f3759498ec11320d7ec448d585c5", func := "assent/assentlaw5.PlruTells", spec := "plruTells", apart := false }
def PlruTellsSaid : Prop := plruTellsRow.holds Try.pinned (OpenSpec.ofChange plruTellsSpec)

/-- ITS FALSE NEIGHBOUR: 'it returns false'. Refute it at one input. -/
def plruTellsWrong : ChangeSpec := { name := "plruTells", fn := fun _ => fun
  | [d1, d2, d3] => { results := [.lit (.bool false)], args := [d1, d2, d3] }
  | _ => none }
def PlruTellsWrongFalsely : Prop := plruTellsRow.holds Try.pinned (OpenSpec.ofChange plruTellsWrong)

/-- 'assentlaw5.PlruTurns': WHATEVER THE INPUT: true; the input reads as it did. -/
def plruTurnsSpec : ChangeSpec := { name := "plruTurns", fn := fun _ => fun
  | [d1, d2, d3] => { results := [.lit (.bool true)], args := [d1, d2, d3] }
  | _ => none }
def plruTurnsRow : OpenClaim := { program := "ythajdkdgakckgaa", sum := "b675260420752f10a7dfa5fe52c117d9ac94f3759498ec11320d7ec448d585c5", func := "assent/assentlaw5.PlruTurns", spec := "plruTurns", apart := false }
def PlruTurnsSaid : Prop := plruTurnsRow.holds Try.pinned (OpenSpec.ofChange plruTurnsSpec)

/-- ITS FALSE NEIGHBOUR: 'it returns false'. Refute it at one input. -/
def plruTurnsWrong : ChangeSpec := { name := "plruTurns", fn := fun _ => fun
  | [d1, d2, d3] => { results := [.lit (.bool false)], args := [d1, d2, d3] }
  | _ => none }
def PlruTurnsWrongFalsely : Prop := plruTurnsRow.holds Try.pinned (OpenSpec.ofChange plruTurnsWrong)

/-- 'assentlaw5.PlruPath': WHATEVER THE INPUT: true; the input reads as it did. -/
def plruPathSpec : ChangeSpec := { name := "plruPath", fn := fun _ => fun
  | [d1, d2, d3, d4] => { results := [.lit (.bool true)], args := [d1, d2, d3, d4] }
  | _ => none }
def plruPathRow : OpenClaim := { program := "ythajdkdgakckgaa", sum := "b675260420752f10a7dfa5fe52c117d9ac94f3759498ec11320d7ec448d585c5", func := "assent/assentlaw5.PlruPath", spec := "plruPath", apart := false }
def PlruPathSaid : Prop := plruPathRow.holds Try.pinned (OpenSpec.ofChange plruPathSpec)

/-- ITS FALSE NEIGHBOUR: 'it returns false'. Refute it at one input. -/
def plruPathWrong : ChangeSpec := { name := "plruPath", fn := fun _ => fun
  | [d1, d2, d3, d4] => { results := [.lit (.bool false)], args := [d1, d2, d3, d4] }
  | _ => none }
def PlruPathWrongFalsely : Prop := plruPathRow.holds Try.pinned (OpenSpec.ofChange plruPathWrong)

/-- 'assentlaw5.PlruRow': WHATEVER THE INPUT: true; the input reads as it did. -/
def plruRowSpec : ChangeSpec := { name := "plruRow", fn := fun _ => fun
  | [d1, d2, d3] => { results := [.lit (.bool true)], args := [d1, d2, d3] }
  | _ => none }
def plruRowRow : OpenClaim := { program := "ythajdkdgakckgaa", sum := "b675260420752f10a7dfa5fe52c117d9ac94f3759498ec11320d7ec448d585c5", func := "assent/assentlaw5.PlruRow", spec := "plruRow", apart := false }
def PlruRowSaid : Prop := plruRowRow.holds Try.pinned (OpenSpec.ofChange plruRowSpec)

/-- ITS FALSE NEIGHBOUR: 'it returns false'. Refute it at one input. -/
def plruRowWrong : ChangeSpec := { name := "plruRow", fn := fun _ => fun
  | [d1, d2, d3] => { results := [.lit (.bool false)], args := [d1, d2, d3] }
  | _ => none }
def PlruRowWrongFalsely : Prop := plruRowRow.holds Try.pinned (OpenSpec.ofChange plruRowWrong)

/-- 'assentlaw5.PlruOne': WHATEVER THE INPUT: true; the input reads as it did. -/
def plruOneSpec : ChangeSpec := { name := "plruOne", fn := fun _ => fun
  | [d1, d2, d3] => { results := [.lit (.bool true)], args := [d1, d2, d3] }
  | _ => none }
def plruOneRow : OpenClaim := { program := "ythajdkdgakckgaa", sum := "b675260420752f10a7dfa5fe52c117d9ac94f3759498ec11320d7ec448d585c5", func := "assent/assentlaw5.PlruOne", spec := "plruOne", apart := false }
def PlruOneSaid : Prop := plruOneRow.holds Try.pinned (OpenSpec.ofChange plruOneSpec)

/-- ITS FALSE NEIGHBOUR: 'it returns false'. Refute it at one input. -/
def plruOneWrong : ChangeSpec := { name := "plruOne", fn := fun _ => fun
  | [d1, d2, d3] => { results := [.lit (.bool false)], args := [d1, d2, d3] }
  | _ => none }
def PlruOneWrongFalsely : Prop := plruOneRow.holds Try.pinned (OpenSpec.ofChange plruOneWrong)

/- THE SECOND FORM. 'bulk': how many values and letters a reading holds, each counted each time it is reached (what is shared counts as often as it is met; a slice's spare places count too). A statement '..UptoSaid' is the law's where the arguments, and the package variables that the reading takes, are together of bulk at most 1048576: NARROWER than '..Said'. Prove '..Said' where nothing that the law and all that it calls make is longer than what came in: it says more and counts as full. Else prove '..UptoSaid'. A law counts once. -/
mutual
def uptoBulk {H : Type} : DataW H → Nat
  | .lit (.string bytes) => bytes.length + 1
  | .lit _ => 1
  | .nil => 1
  | .ptr d => uptoBulk d + 1
  | .slice elems spare => uptoBulkAll elems + uptoBulkAll spare + 1
  | .agg parts => uptoBulkAll parts + 1
  | .iface _ d => uptoBulk d + 1
  | .map entries => uptoBulkEntries entries + 1
  | .held _ => 1
def uptoBulkAll {H : Type} : List (DataW H) → Nat
  | [] => 0
  | d :: r => uptoBulk d + uptoBulkAll r
def uptoBulkEntries {H : Type} : List (Lit × DataW H) → Nat
  | [] => 0
  | x :: r => uptoBulkEntry x + uptoBulkEntries r
def uptoBulkEntry {H : Type} : Lit × DataW H → Nat
  | (.string bytes, d) => bytes.length + uptoBulk d + 1
  | (_, d) => uptoBulk d + 1
 end
def uptoSmall : (H : Type) → List (DataW H) → Bool := fun _ ds => decide (uptoBulkAll ds ≤ 1048576)
def OpenSpec.upto (s : _root_.Go.ChangeSpec) : _root_.Go.OpenSpec := { _root_.Go.OpenSpec.ofChange s with cond := some uptoSmall }

/-- 'assentlaw5.PlruRuns', WHERE WHAT IT READS IS OF BULK AT MOST 1048576: true; the input reads as it did. -/
def plruRunsUptoRow : OpenClaim := { program := "ythajdkdgakckgaa", sum := "b675260420752f10a7dfa5fe52c117d9ac94f3759498ec11320d7ec448d585c5", func := "assent/assentlaw5.PlruRuns", spec := "plruRuns", apart := false, narrowed := true }
def PlruRunsUptoSaid : Prop := plruRunsUptoRow.holds Try.pinned (OpenSpec.upto plruRunsSpec)

/-- 'assentlaw5.PlruTells', WHERE WHAT IT READS IS OF BULK AT MOST 1048576: true; the input reads as it did. -/
def plruTellsUptoRow : OpenClaim := { program := "ythajdkdgakckgaa", sum := "b675260420752f10a7dfa5fe52c117d9ac94f3759498ec11320d7ec448d585c5", func := "assent/assentlaw5.PlruTells", spec := "plruTells", apart := false, narrowed := true }
def PlruTellsUptoSaid : Prop := plruTellsUptoRow.holds Try.pinned (OpenSpec.upto plruTellsSpec)

/-- 'assentlaw5.PlruTurns', WHERE WHAT IT READS IS OF BULK AT MOST 1048576: true; the input reads as it did. -/
def plruTurnsUptoRow : OpenClaim := { program := "ythajdkdgakckgaa", sum := "b675260420752f10a7dfa5fe52c117d9ac94f3759498ec11320d7ec448d585c5", func := "assent/assentlaw5.PlruTurns", spec := "plruTurns", apart := false, narrowed := true }
def PlruTurnsUptoSaid : Prop := plruTurnsUptoRow.holds Try.pinned (OpenSpec.upto plruTurnsSpec)

/-- 'assentlaw5.PlruPath', WHERE WHAT IT READS IS OF BULK AT MOST 1048576: true; the input reads as it did. -/
def plruPathUptoRow : OpenClaim := { program := "ythajdkdgakckgaa", sum := "b675260420752f10a7dfa5fe52c117d9ac94f3759498ec11320d7ec448d585c5", func := "assent/assentlaw5.PlruPath", spec := "plruPath", apart := false, narrowed := true }
def PlruPathUptoSaid : Prop := plruPathUptoRow.holds Try.pinned (OpenSpec.upto plruPathSpec)

/-- 'assentlaw5.PlruRow', WHERE WHAT IT READS IS OF BULK AT MOST 1048576: true; the input reads as it did. -/
def plruRowUptoRow : OpenClaim := { program := "ythajdkdgakckgaa", sum := "b675260420752f10a7dfa5fe52c117d9ac94f3759498ec11320d7ec448d585c5", func := "assent/assentlaw5.PlruRow", spec := "plruRow", apart := false, narrowed := true }
def PlruRowUptoSaid : Prop := plruRowUptoRow.holds Try.pinned (OpenSpec.upto plruRowSpec)

/-- 'assentlaw5.PlruOne', WHERE WHAT IT READS IS OF BULK AT MOST 1048576: true; the input reads as it did. -/
def plruOneUptoRow : OpenClaim := { program := "ythajdkdgakckgaa", sum := "b675260420752f10a7dfa5fe52c117d9ac94f3759498ec11320d7ec448d585c5", func := "assent/assentlaw5.PlruOne", spec := "plruOne", apart := false, narrowed := true }
def PlruOneUptoSaid : Prop := plruOneUptoRow.holds Try.pinned (OpenSpec.upto plruOneSpec)

end Rows
end Go.Proofs.Ythajdkdgakckgaa

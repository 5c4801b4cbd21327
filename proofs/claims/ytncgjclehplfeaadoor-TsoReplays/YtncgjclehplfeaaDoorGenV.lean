/- DERIVED of the program: of a slice that came in: no longer than its room; 's[:j]' of whatever elements. For every seat. Own work. -/
import Derived.Test.YtncgjclehplfeaaDoorGenB
import Derived.Deep.Slices
namespace Go.Proofs.YtncgjclehplfeaaDoor
open Go.RowKit Go.Extern.Stop Go.Stop Go.Extern Go.ChangeShapes Go.WideShapes Go.ChangeAt Go.ChangeMaps

theorem trod_le {H : Type} {enc : TypeId × Value → H} {P : Program} {base : Nat} {spare : Nat → Bool} {held : Bool} {W : World} {ao : Option Addr} {n cap : Nat} {d : DataW H} {ps : List MemPlace} {t e : TypeId}
    (ht : P.underlying t = some (.slice e)) (h : DataW.Trod enc P W base spare held t (.slice ao n cap) d ps) : n ≤ cap := by
  obtain ⟨fuel, hf⟩ := h
  rcases Go.Deep.open_slice ht hf with ⟨hcs, _⟩ | ⟨a, len', cap', m, n', D, Pl, hcs, hb, hl, _⟩
  · simp [Value.cells] at hcs
    obtain ⟨rfl, rfl, rfl⟩ := hcs
    exact Nat.le_refl _
  · simp [Value.cells] at hcs
    obtain ⟨rfl, rfl, rfl⟩ := hcs
    exact hl
theorem slice_toQ (ts te : TypeId) (z : Value) (m by_ : Nat) (hts : Tryd.prog.underlying ts = some (.slice te)) (hte : (Tryd.prog.info? te).map (fun i => (i.zero, i.size, i.bytes)) = some (some z, m, by_)) (ao : Option Addr) (N cap j : Nat) (hj : j ≤ cap) (w : World) :
    (Instr.sliceAt ts (.slice ao N cap) none (some (.int .i64 (j : Int))) none).run Tryd.prog w = .ok (.slice ao j cap) w := by
  obtain ⟨i0, hi, hz0, hz1, hz2⟩ := info_parts hte
  have hj2 : (0 : Int) ≤ (j : Int) ∧ (j : Int) ≤ (cap : Int) := by omega
  have hn : ¬ cap < j := by omega
  have hm : ao.map (fun x => x.add 0) = ao := by cases ao <;> simp [Addr.add]
  simp [Instr.sliceAt, Instr.slice, Instr.sliceBounds, Instr.sliceBound, asIntOf, Sem.run_bind, run_underlying hts, hj2, hn, sizeOf, typeInfo, hi, hm]
end Go.Proofs.YtncgjclehplfeaaDoor

/- DERIVED of the program: what FaultRuns' shorter list of package variables gives. Own work. -/
import Derived.Test.YtgaajnefegjoeaaDoorRunsB
import Derived.Test.YtgaajnefegjoeaaDoorBaseEnv
namespace Go.Proofs.YtgaajnefegjoeaaDoor
open Go.RowKit Go.ChangeShapes

abbrev sents2 : List (String × Nat × List UInt8) := [("assent/api.ErrFull", 0, [110, 111, 32, 114, 111, 111, 109]), ("assent/api.ErrBusy", 1, [117, 110, 100, 101, 114, 32, 119, 97, 121])]

theorem sents2_named : ∀ x ∈ sents2, Tryd.prog.globalNamed x.1 = some x.2.1 ∧ (Tryd.prog.globals[x.2.1]?).map (·.type) = some 23 := by
  intro x hx
  simp only [sents2, List.mem_cons, List.not_mem_nil, or_false] at hx
  rcases hx with rfl | rfl
  · exact ⟨by kernel_rfl, by kernel_rfl⟩
  · exact ⟨by kernel_rfl, by kernel_rfl⟩

/-- What FaultRuns' and FaultNil's lists give. -/
theorem env_of_laid {W : World} (h : laidMetH Tryd.prog [("errors.errorType", Rows.laid_errors_errorType), ("assent/api.ErrFull", Rows.laid_assent_api_ErrFull), ("assent/api.ErrBusy", Rows.laid_assent_api_ErrBusy)] W) : ∃ aF aB, Env W aF aB := by
  have h' : laidMet Tryd.prog (sents2.map fun x => (x.1, sdat x.2.2)) W ∧ handlesMet Tryd.prog [("errors.errorType", Rows.laid_errors_errorType)] W := h
  obtain ⟨⟨ps, hv, hnd, hrows⟩, hh⟩ := h'
  obtain ⟨ads, h1, h2, h3⟩ := laid_sents sents2 ps sents2_named hv hrows
  match ads, h1, h3 hnd with
  | [aF, aB], ⟨⟨c1, ⟨s1, t1, e1⟩, n1⟩, ⟨c2, _, n2⟩, _⟩, hn =>
    exact ⟨aF, aB, c1, c2, handle_of hh, n1, n2, by rw [t1, bytes_of e1], fun e => by subst e; simp at hn⟩

theorem Env10.env {w : World} {sa : Nat → Addr} (h : Env10 w sa) : Env w (sa 6) (sa 7) :=
  ⟨h.g 6 (by omega) (by omega), h.g 7 (by omega) (by omega), h.et, h.s 6 (by omega) (by omega), h.s 7 (by omega) (by omega), h.tF, fun e => by have := h.inj 6 7 (by omega) (by omega) (by omega) (by omega) e; omega⟩

end Go.Proofs.YtgaajnefegjoeaaDoor

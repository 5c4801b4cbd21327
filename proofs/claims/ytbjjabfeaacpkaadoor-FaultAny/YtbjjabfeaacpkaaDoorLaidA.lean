/- DERIVED of the program: what the rows' listed package variables give a walk: errors.errorType's one cell, and of each sentinel its address, its text and its own block, all addresses different. Own work, after the guide's 'laid_sentinels2'. -/
import Derived.Test.YtbjjabfeaacpkaaDoorRows
import Derived.Test.YtbjjabfeaacpkaaDoorRunsB
import Derived.LaidLaws
import Derived.LaidHandle
import Derived.Stop.LaidErr
namespace Go.Proofs.YtbjjabfeaacpkaaDoor
open Go.RowKit Go.ChangeShapes

/-- How a sentinel of errors.New's make reads. -/
abbrev sdat (text : List UInt8) : DataW Unit := .iface "*errors.errorString" (.ptr (.agg [.lit (.string text)]))

/-- Names, places and texts of sentinels; what the world holds of them. -/
def Sents (W : World) : List (String × Nat × List UInt8) → List Addr → Prop
  | [], [] => True
  | x :: L, a :: ads => (W.cell? ⟨x.2.1, 0, none⟩ = some (snt a) ∧ (∃ s : ByteArray, W.cell? a = some (.string s) ∧ s.data.toList = x.2.2) ∧ Sen W a) ∧ Sents W L ads
  | _, _ => False

theorem Tryd.cellsStr : Tryd.prog.cellsOf 108 = 1 := by kernel_rfl
theorem Tryd.cellsString : Tryd.prog.cellsOf 9 = 1 := by kernel_rfl
theorem starErr : "*" ++ "errors.errorString" = "*errors.errorString" := by decide
theorem Tryd.rowPStr (u : TypeId) (h : Tryd.prog.typeName? 3 u = some "*errors.errorString") : u = 87 :=
  typeName_ptr_named (nm := "errors.errorString") (by rw [starErr]; kernel_rfl) (by kernel_rfl) (by decide) u (by rw [starErr]; exact h)

set_option maxRecDepth 100000 in
theorem laid_sents {W : World} : ∀ (L : List (String × Nat × List UInt8)) (ps : List MemPlace),
    (∀ x ∈ L, Tryd.prog.globalNamed x.1 = some x.2.1 ∧ (Tryd.prog.globals[x.2.1]?).map (·.type) = some 23) →
    DataW.LaidVars Tryd.prog W (L.map fun x => (x.1, sdat x.2.2)) ps →
    (∀ b off, MemPlace.cell b off ∈ ps → (∃ c t, W.heap[b]? = some (.cells c t (0, 0))) ∧ ∀ u v, W.cell? ⟨b, off, none⟩ = some (.iface u v) → Value.okWide Tryd.prog W .any 0 u v) →
    ∃ ads, Sents W L ads ∧ (∀ a ∈ ads, MemPlace.cell a.block a.off ∈ ps) ∧ (ps.Nodup → ads.Nodup)
  | [], ps, _, _, _ => ⟨[], True.intro, fun a h => absurd h (List.not_mem_nil), fun _ => List.nodup_nil⟩
  | x :: L, ps, hL, hv, hrows => by
    obtain ⟨g0, t0, cs0, f0, p0, q0, hg0, ht0, hv0, hd0, hq, rfl⟩ := hv
    obtain ⟨hg, ht⟩ := hL x (List.mem_cons_self ..)
    obtain rfl := Option.some.inj (hg.symm.trans hg0)
    obtain rfl := Option.some.inj (ht.symm.trans ht0)
    obtain ⟨l0⟩ := cs0
    have ok0 : ∀ u v, l0 = [.iface u v] → Value.okWide Tryd.prog W .any 0 u v := fun u v e => by
      subst e
      exact (hrows x.2.1 0 (by simp [MemPlace.row])).2 u v (by simpa using World.var?_cell hg0 hv0 0)
    obtain ⟨a0, s0, rfl, hc0, hs0, hz0, rfl⟩ := errorString_of_trod Tryd.underlying23 Tryd.rowPStr Tryd.underlying87 Tryd.underlying108 rfl rfl Tryd.underlying9 Tryd.cellsStr Tryd.cellsString hd0 ok0
    obtain ⟨ads, h1, h2, h3⟩ := laid_sents L q0 (fun y hy => hL y (List.mem_cons_of_mem _ hy)) hq (fun b off hm => hrows b off (List.mem_append_right _ hm))
    refine ⟨a0 :: ads, ⟨⟨by simpa using World.var?_cell hg0 hv0 0, ⟨s0, hc0, hs0⟩, (hrows a0.block a0.off (by simp [MemPlace.row])).1⟩, h1⟩, ?_, ?_⟩
    · intro a ha
      rcases List.mem_cons.1 ha with rfl | ha
      · simp [MemPlace.row]
      · exact List.mem_append_right _ (h2 a ha)
    · intro hnd
      have hnd' := List.nodup_append.1 hnd
      refine List.nodup_cons.2 ⟨fun ha => ?_, h3 hnd'.2.1⟩
      exact hnd'.2.2 (.cell a0.block a0.off) (by simp [MemPlace.row]) _ (h2 a0 ha) rfl

theorem Tryd.et : Tryd.prog.globalNamed "errors.errorType" = some 10 := by kernel_rfl
theorem Tryd.rt : (Tryd.prog.cutTypes.find? (·.1 == "internal/reflectlite.rtype")).map (·.2) = some 75 := by kernel_rfl
theorem Tryd.oneRow : ((List.range 120).filter fun t => Tryd.prog.rowNamed t [101, 114, 114, 111, 114]) = [23] := by kernel_rfl
theorem Tryd.size : Tryd.prog.types.size = 120 := by kernel_rfl
theorem handle_of {W : World} (h : handlesMet Tryd.prog [("errors.errorType", Rows.laid_errors_errorType)] W) : ET W := by
  obtain ⟨name, u, ty, e1, e2, e3, e4, e5⟩ := h _ (List.mem_singleton.2 rfl)
  have en : name = [101, 114, 114, 111, 114] := (Option.some.inj e1).symm
  subst en
  obtain rfl := Option.some.inj (Tryd.rt.symm.trans e2)
  have hm : ty ∈ (List.range 120).filter fun t => Tryd.prog.rowNamed t [101, 114, 114, 111, 114] := List.mem_filter.2 ⟨List.mem_range.2 (by rw [← Tryd.size]; exact e3), e4⟩
  rw [Tryd.oneRow] at hm
  obtain rfl := List.mem_singleton.1 hm
  have hh : typeHandle Tryd.prog 23 = hnd 23 := by kernel_rfl
  rw [hh] at e5
  simpa [ET] using World.var?_cell Tryd.et e5 0

theorem bytes_of {s : ByteArray} {l : List UInt8} (h : s.data.toList = l) : s = ⟨l.toArray⟩ := by
  obtain ⟨d⟩ := s
  simp only at h
  subst h
  rfl

abbrev sents2 : List (String × Nat × List UInt8) := [("assent/api.ErrFull", 0, [110, 111, 32, 114, 111, 111, 109]), ("assent/api.ErrBusy", 1, [117, 110, 100, 101, 114, 32, 119, 97, 121])]
theorem sents2_named : ∀ x ∈ sents2, Tryd.prog.globalNamed x.1 = some x.2.1 ∧ (Tryd.prog.globals[x.2.1]?).map (·.type) = some 23 := by
  intro x hx
  simp only [sents2, List.mem_cons, List.not_mem_nil, or_false] at hx
  rcases hx with rfl | rfl
  · exact ⟨by kernel_rfl, by kernel_rfl⟩
  · exact ⟨by kernel_rfl, by kernel_rfl⟩

/-- What FaultRuns' and FaultNil's lists give. -/
theorem env_of_laid {W : World} (h : laidMetH Tryd.prog [("errors.errorType", Rows.laid_errors_errorType), ("assent/api.ErrFull", Rows.laid_assent_api_ErrFull), ("assent/api.ErrBusy", Rows.laid_assent_api_ErrBusy)] W) : ∃ aF aB, Env W aF aB := by
  have h' : laidMet Tryd.prog (sents2.map fun x => (x.1, sdat x.2.2)) W ∧ handlesMet Tryd.prog [("errors.errorType", Rows.laid_errors_errorType)] W := h
  obtain ⟨⟨ps, hv, hnd, hrows⟩, hh⟩ := h'
  obtain ⟨ads, h1, h2, h3⟩ := laid_sents sents2 ps sents2_named hv hrows
  match ads, h1, h3 hnd with
  | [aF, aB], ⟨⟨c1, ⟨s1, t1, e1⟩, n1⟩, ⟨c2, _, n2⟩, _⟩, hn =>
    exact ⟨aF, aB, c1, c2, handle_of hh, n1, n2, by rw [t1, bytes_of e1], fun e => by subst e; simp at hn⟩
end Go.Proofs.YtbjjabfeaacpkaaDoor

/- Own work: AssignableTo at an interface type that the error's type lacks a method of: false; from closed facts. -/
import Derived.Test.YtbjjabfeaacpkaaDoorErrC
namespace Go.Proofs.YtbjjabfeaacpkaaDoor
open Go.RowKit Go.Extern.Stop Go.Stop Go.Extern

section
variable {P : Program} {T V : TypeId} {want : Array (String × TypeId)}

theorem run_implements_lacks (w : World) {j i iu : TypeInfo} {vu : TypeId} {d : TypeDesc}
    (hn1 : ∀ s w, (Rtype.noPackMethods s V).run P w = .ok () w) (hn2 : ∀ s w, (Rtype.noPackMethods s T).run P w = .ok () w)
    (hj : P.info? T = some j) (hjd : j.desc = .interface want) (hi : P.info? V = some i)
    (hu : (Rtype.under V).run P w = .ok (vu, iu) w) (hd : iu.desc = d) (hnd : ∀ g, d ≠ .interface g) (hl : lacking want i.methods ≠ []) :
    (Rtype.implements T V).run P w = .ok false w := by
  obtain ⟨m, hm⟩ := missingMethod_some hl
  have hT : (Rtype.under T).run P w = .ok (T, j) w := by
    simp [Rtype.under, typeInfo, hj, hjd]
  unfold Rtype.implements
  simp only [Sem.run_bind, hn1, hn2, hT, hu, Result.andThen, hjd]
  subst hd
  generalize iu.desc = d at hnd
  cases d <;> first | exact absurd rfl (hnd _) | simp [typeInfo, hi, hm]

/-- AssignableTo of a type that is not the interface's and lacks a method of it. -/
theorem run_assignable_lacks (w : World) {hv ht : Value} {rt : TypeId} {j i iu : TypeInfo} {vu : TypeId} {d : TypeDesc}
    (hoV : (ReflectliteType.ofRtype (.agg #[hv])).run P w = .ok V w) (hoT : (ReflectliteType.ofRtype (.agg #[ht])).run P w = .ok T w) (hne : (T != V) = true)
    (hn1 : ∀ s w, (Rtype.noPackMethods s V).run P w = .ok () w) (hn2 : ∀ s w, (Rtype.noPackMethods s T).run P w = .ok () w) (hdir : (Rtype.directlyAssignable T V).run P w = .ok false w)
    (hj : P.info? T = some j) (hjd : j.desc = .interface want) (hi : P.info? V = some i)
    (hu : (Rtype.under V).run P w = .ok (vu, iu) w) (hd : iu.desc = d) (hnd : ∀ g, d ≠ .interface g) (hl : lacking want i.methods ≠ []) :
    (ReflectliteType.relation "AssignableTo" ReflectliteType.assignableTo #[.agg #[hv], .iface rt (.agg #[ht])]).run P w = .ok (.bool false) w := by
  have him := run_implements_lacks w hn1 hn2 hj hjd hi hu hd hnd hl
  show (do pure (Value.bool (← ReflectliteType.assignableTo (← ReflectliteType.ofRtype (.agg #[ht])) (← ReflectliteType.ofRtype (.agg #[hv])))) : Sem Value).run P w = _
  simp only [Sem.run_bind, hoV, hoT, Result.andThen]
  simp [ReflectliteType.assignableTo, hne, hn1, hn2, hdir, him]
end

section
variable {P : Program}
theorem run_under_of {V : TypeId} {d : TypeDesc} (h : P.underlying V = some d) (w : World) : ∃ vu iu, (Rtype.under V).run P w = .ok (vu, iu) w ∧ iu.desc = d := by
  unfold Program.underlying at h
  cases hi : P.info? V with
  | none => simp [hi] at h
  | some i =>
    rw [hi] at h
    obtain ⟨desc, b1, b2, b3, b4, b5, b6, b7, b8, b9⟩ := i
    cases desc <;> simp only [Option.map_eq_some_iff] at h
    case named q u =>
      obtain ⟨iu, h1, h2⟩ := h
      exact ⟨u, iu, by simp [Rtype.under, typeInfo, hi, h1], h2⟩
    all_goals exact ⟨V, (⟨_, b1, b2, b3, b4, b5, b6, b7, b8, b9⟩ : TypeInfo), by simp only [Rtype.under, typeInfo, Sem.run_bind]; simp [hi], Option.some.inj h⟩

theorem run_assignable_no {T V : TypeId} {want : Array (String × TypeId)} {d : TypeDesc} {hv ht : Value} {rt : TypeId}
    (hoV : ∀ w, (ReflectliteType.ofRtype (.agg #[hv])).run P w = .ok V w) (hoT : ∀ w, (ReflectliteType.ofRtype (.agg #[ht])).run P w = .ok T w) (hne : (T != V) = true)
    (hn1 : ∀ s w, (Rtype.noPackMethods s V).run P w = .ok () w) (hn2 : ∀ s w, (Rtype.noPackMethods s T).run P w = .ok () w) (hdir : ∀ w, (Rtype.directlyAssignable T V).run P w = .ok false w)
    (hT : (P.info? T).map (fun j => j.desc) = some (.interface want)) (hu : P.underlying V = some d) (hnd : ∀ g, d ≠ .interface g)
    (hl : (P.info? V).map (fun i => (lacking want i.methods).isEmpty) = some false) (w : World) :
    (ReflectliteType.relation "AssignableTo" ReflectliteType.assignableTo #[.agg #[hv], .iface rt (.agg #[ht])]).run P w = .ok (.bool false) w := by
  obtain ⟨j, hj, hjd⟩ := Option.map_eq_some_iff.1 hT
  obtain ⟨i, hi, hll⟩ := Option.map_eq_some_iff.1 hl
  obtain ⟨vu, iu, h1, h2⟩ := run_under_of hu w
  exact run_assignable_lacks w (hoV w) (hoT w) hne hn1 hn2 (hdir w) hj hjd hi h1 h2 hnd (fun e => by rw [e] at hll; cases hll)
end
end Go.Proofs.YtbjjabfeaacpkaaDoor

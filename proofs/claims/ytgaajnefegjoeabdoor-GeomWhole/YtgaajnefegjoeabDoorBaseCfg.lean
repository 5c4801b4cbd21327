/- DERIVED of the program: a configuration that comes in by value, opened: nine numbers. Own work. -/
import Derived.Test.YtgaajnefegjoeabDoorGeoB
import Derived.ProofKit
namespace Go.Proofs.YtgaajnefegjoeabDoor
open Go.ChangeShapes Go.WideShapes Go.ChangeAt Go.RowKit

/-- Each field is one cell, in its place, a number of kind i64. -/
def i64Fields (P : Program) (fs : Array Field) : Bool :=
  (List.range fs.size).all fun i => match fs[i]? with
    | some f => f.offset == i && P.cellsOf f.type == 1 && (match P.underlying f.type with | some (.int .i64) => true | _ => false)
    | none => false
theorem i64Fields_at {P : Program} {fs : Array Field} (h : i64Fields P fs = true) (i : Nat) (f : Field) (hf : fs[i]? = some f) : f.offset = i ∧ P.cellsOf f.type = 1 ∧ P.underlying f.type = some (.int .i64) := by
  have hi : i < fs.size := (Array.getElem?_eq_some_iff.1 hf).1
  have := (List.all_eq_true.1 h) i (List.mem_range.2 hi)
  simp only [hf, Bool.and_eq_true, beq_iff_eq] at this
  obtain ⟨⟨h1, h2⟩, h3⟩ := this
  refine ⟨h1, h2, ?_⟩
  split at h3
  · assumption
  · cases h3

theorem open_i64s {H : Type} {enc : TypeId × Value → H} {P : Program} {w : World} {base : Nat} {spare : Nat → Bool} {held : Bool} {r : Reach} {b0 : Nat} {t : TypeId} {fs : Array Field} {v : Value} {d : DataW H} {p : List MemPlace}
    (hs : P.underlying t = some (.struct fs)) (hk : i64Fields P fs = true) (hC : P.cellsOf t = fs.size) (hv : Value.okWide P w r b0 t v) (h : DataW.Trod enc P w base spare held t v d p) :
    ∃ ns : List Int, ns.length = fs.size ∧ v = .agg (ns.map (Value.int .i64)).toArray := by
  obtain ⟨cs, rfl, hsz⟩ := okWide_struct hs hv
  obtain ⟨fuel, hf⟩ := h
  obtain ⟨xs, n, _, hx, hl, hlen, hall⟩ := DataW.trod_struct hs hf
  have key : ∀ (i : Nat) (hi : i < cs.size), ∃ z, cs[i] = .int .i64 z := by
    intro i hi
    have hi' : i < fs.size := by omega
    obtain ⟨o, k, u⟩ := i64Fields_at hk i fs[i] (Array.getElem?_eq_getElem hi')
    have h1 := hall i fs[i] (Array.getElem?_eq_getElem hi')
    rw [List.getElem?_eq_getElem (by omega)] at h1
    obtain ⟨z, hz, _⟩ := DataW.trod_int u h1
    rw [o, k] at hz
    have : (Value.cells (.agg cs)).toList.drop i = cs[i] :: cs.toList.drop (i + 1) := by
      simp only [Value.cells]
      rw [List.drop_eq_getElem_cons (by simpa using hi)]
      simp
    rw [this] at hz
    simp at hz
    exact ⟨z, hz⟩
  refine ⟨cs.toList.map intOf, by simp; omega, ?_⟩
  congr 1
  apply Array.ext_getElem?
  intro i
  by_cases hi : i < cs.size
  · obtain ⟨z, hz⟩ := key i hi
    simp [hi, hz, intOf]
  · simp [hi]

theorem Tryd.cellsConfig : Tryd.prog.cellsOf 26 = 9 := by kernel_rfl
theorem open_cfg {H : Type} {enc : TypeId × Value → H} {w : World} {base : Nat} {spare : Nat → Bool} {held : Bool} {r : Reach} {b0 : Nat} {v : Value} {d : DataW H} {p : List MemPlace}
    (hv : Value.okWide Tryd.prog w r b0 26 v) (h : DataW.Trod enc Tryd.prog w base spare held 26 v d p) : ∃ c0 c1 c2 c3 c4 c5 c6 c7 c8 : Int, v = cfg c0 c1 c2 c3 c4 c5 c6 c7 c8 := by
  obtain ⟨ns, hl, rfl⟩ := open_i64s Tryd.underlying26 (by kernel_rfl) Tryd.cellsConfig hv h
  match ns, hl with
  | [c0, c1, c2, c3, c4, c5, c6, c7, c8], _ => exact ⟨c0, c1, c2, c3, c4, c5, c6, c7, c8, rfl⟩
end Go.Proofs.YtgaajnefegjoeabDoor

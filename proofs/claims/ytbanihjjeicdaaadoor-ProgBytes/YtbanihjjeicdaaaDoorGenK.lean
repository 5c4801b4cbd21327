/- DERIVED of the program: slices of numbers of whichever kind, and of structs of numbers of whichever kinds, as arguments. Own work. -/
import Derived.Test.YtbanihjjeicdaaaDoorGenA
import Derived.Deep.Slices
namespace Go.Proofs.YtbanihjjeicdaaaDoor
open Go.RowKit Go.Extern.Stop Go.Stop Go.Extern Go.ChangeShapes Go.WideShapes Go.ChangeAt Go.ChangeMaps

/-- Each field is one cell, in its place, a number of that kind. -/
def numFlds (P : Program) (fs : Array Field) (ks : List IntKind) : Bool :=
  (List.range fs.size).all fun i => match fs[i]? with
    | some f => f.offset == i && P.cellsOf f.type == 1 && (match P.underlying f.type with | some (.int k) => decide (ks[i]? = some k) | _ => false)
    | none => false
theorem numFlds_at {P : Program} {fs : Array Field} {ks : List IntKind} (h : numFlds P fs ks = true) (i : Nat) (f : Field) (hf : fs[i]? = some f) : f.offset = i ∧ P.cellsOf f.type = 1 ∧ ∃ k, ks[i]? = some k ∧ P.underlying f.type = some (.int k) := by
  have hi : i < fs.size := (Array.getElem?_eq_some_iff.1 hf).1
  have := (List.all_eq_true.1 h) i (List.mem_range.2 hi)
  simp only [hf, Bool.and_eq_true, beq_iff_eq] at this
  obtain ⟨⟨h1, h2⟩, h3⟩ := this
  refine ⟨h1, h2, ?_⟩
  split at h3
  · rename_i k hk
    exact ⟨k, of_decide_eq_true h3, hk⟩
  · cases h3

/-- A slice of n structs of numbers of those kinds. -/
def AsksK (w : World) (ao : Option Addr) (n : Nat) (ks : List IntKind) : Prop :=
  ∀ (k : Nat), k < n → ∃ b o, ao = some ⟨b, o, none⟩ ∧ ∀ i kd, ks[i]? = some kd → ∃ z : Int, w.cell? ⟨b, o + k * ks.length + i, none⟩ = some (.int kd z)

theorem open_structsK {H : Type} {enc : TypeId × Value → H} {P : Program} {r : Reach} {b0 base : Nat} {spare : Nat → Bool} {held : Bool} {W : World} {v : Value} {d : DataW H} {ps : List MemPlace} {t e : TypeId} {fs : Array Field} {ks : List IntKind}
    (ht : P.underlying t = some (.slice e)) (he : P.underlying e = some (.struct fs)) (hk : numFlds P fs ks = true) (hC : P.cellsOf e = fs.size) (h0 : 0 < fs.size) (hks : ks.length = fs.size)
    (hval : Value.okWide P W r b0 t v) (h : DataW.Trod enc P W base spare held t v d ps) : ∃ ao n cap, v = .slice ao n cap ∧ AsksK W ao n ks := by
  obtain ⟨a0, len, cap, rfl⟩ := okWide_slice ht hval
  obtain ⟨fuel, hf⟩ := h
  refine ⟨a0, len, cap, rfl, ?_⟩
  rcases Go.Deep.open_slice ht hf with ⟨hcs, _⟩ | ⟨a, len', cap', m, n, D, Pl, hcs, hb, hl, hm, hmm, hx, hel⟩
  · simp [Value.cells] at hcs
    obtain ⟨rfl, rfl, rfl⟩ := hcs
    intro k hk
    exact absurd hk (Nat.not_lt_zero _)
  · simp [Value.cells] at hcs
    obtain ⟨rfl, rfl, rfl⟩ := hcs
    intro k hkl
    have hlm : len ≤ m := by rw [hmm]; split <;> omega
    obtain ⟨cs', h1, h2⟩ := hel k (by omega)
    rw [hC] at h1
    obtain ⟨_, hlen, hcell⟩ := World.cells?_some h1
    obtain ⟨xs, q, _, _, _, hxl, hfd⟩ := DataW.trod_struct he h2
    obtain ⟨b, o, spot⟩ := a
    have hspot : spot = none := by
      obtain ⟨cs0, g1, _⟩ := hel 0 (by omega)
      rw [hC] at g1
      obtain ⟨_, gl, gc⟩ := World.cells?_some g1
      have h3 := World.cell?_spot ((gc 0 (by omega)).trans (List.getElem?_eq_getElem (by omega)))
      simpa [Addr.add] using h3
    subst hspot
    refine ⟨b, o, rfl, fun i kd hi' => ?_⟩
    have hi : i < fs.size := by have := (List.getElem?_eq_some_iff.1 hi').1; omega
    obtain ⟨o1, o2, kk, e1, u⟩ := numFlds_at hk i fs[i] (Array.getElem?_eq_getElem hi)
    rw [hi'] at e1
    cases e1
    have g := hfd i fs[i] (Array.getElem?_eq_getElem hi)
    rw [List.getElem?_eq_getElem (by omega)] at g
    obtain ⟨z, hz, _⟩ := DataW.trod_int u g
    rw [o1, o2, List.drop_eq_getElem_cons (by omega)] at hz
    have hz' : cs'[i]'(by omega) = .int kd z := by
      simp only [List.take_succ_cons, List.take_zero, List.cons.injEq] at hz
      exact hz.1
    have h3 := hcell i (by omega)
    rw [addr_plain, addr_plain] at h3
    refine ⟨z, ?_⟩
    rw [hks]
    refine h3.trans ?_
    rw [List.getElem?_eq_getElem (by omega), hz']

/-- A slice of n numbers of that kind. -/
def NumsK (w : World) (ao : Option Addr) (n : Nat) (kd : IntKind) : Prop := ∀ (k : Nat), k < n → ∃ b o z, ao = some ⟨b, o, none⟩ ∧ w.cell? ⟨b, o + k, none⟩ = some (.int kd z)
theorem open_numsK {H : Type} {enc : TypeId × Value → H} {P : Program} {r : Reach} {b0 base : Nat} {spare : Nat → Bool} {held : Bool} {W : World} {v : Value} {d : DataW H} {ps : List MemPlace} {t e : TypeId} {kd : IntKind}
    (ht : P.underlying t = some (.slice e)) (he : P.underlying e = some (.int kd)) (hC : P.cellsOf e = 1)
    (hval : Value.okWide P W r b0 t v) (h : DataW.Trod enc P W base spare held t v d ps) : ∃ ao n cap, v = .slice ao n cap ∧ NumsK W ao n kd := by
  obtain ⟨a0, len, cap, rfl⟩ := okWide_slice ht hval
  obtain ⟨fuel, hf⟩ := h
  refine ⟨a0, len, cap, rfl, ?_⟩
  rcases open_ints ht he hC hf with ⟨hcs, hx⟩ | ⟨a, len', cap', zs, hcs, _, hl, hm, hz, hx, hcell, hwz⟩
  · simp [Value.cells] at hcs
    obtain ⟨rfl, rfl, rfl⟩ := hcs
    intro k hk
    exact absurd hk (Nat.not_lt_zero _)
  · simp [Value.cells] at hcs
    obtain ⟨rfl, rfl, rfl⟩ := hcs
    have hlz : len ≤ zs.length := by split at hz <;> omega
    intro k hk
    obtain ⟨b, off, spot⟩ := a
    have hspot : spot = none := by simpa [Addr.add] using World.cell?_spot (hcell 0 (by omega))
    subst hspot
    have := hcell k (by omega)
    rw [addr_plain] at this
    exact ⟨b, off, _, rfl, this⟩

theorem Tryd.cellsU32 : Tryd.prog.cellsOf 27 = 1 := by kernel_rfl
end Go.Proofs.YtbanihjjeicdaaaDoor

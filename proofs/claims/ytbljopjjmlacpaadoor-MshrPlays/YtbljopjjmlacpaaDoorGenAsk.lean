/- DERIVED of the program: slices of structs of numbers as arguments. Own work. -/
import Derived.Test.YtbljopjjmlacpaaDoorGenA
import Derived.Deep.Slices
namespace Go.Proofs.YtbljopjjmlacpaaDoor
open Go.RowKit Go.Extern.Stop Go.Stop Go.Extern Go.ChangeShapes Go.WideShapes Go.ChangeAt Go.ChangeMaps

/-- Each field is one cell, in its place, a number of kind i64. -/
def i64Flds (P : Program) (fs : Array Field) : Bool :=
  (List.range fs.size).all fun i => match fs[i]? with
    | some f => f.offset == i && P.cellsOf f.type == 1 && (match P.underlying f.type with | some (.int .i64) => true | _ => false)
    | none => false
theorem i64Flds_at {P : Program} {fs : Array Field} (h : i64Flds P fs = true) (i : Nat) (f : Field) (hf : fs[i]? = some f) : f.offset = i ∧ P.cellsOf f.type = 1 ∧ P.underlying f.type = some (.int .i64) := by
  have hi : i < fs.size := (Array.getElem?_eq_some_iff.1 hf).1
  have := (List.all_eq_true.1 h) i (List.mem_range.2 hi)
  simp only [hf, Bool.and_eq_true, beq_iff_eq] at this
  obtain ⟨⟨h1, h2⟩, h3⟩ := this
  refine ⟨h1, h2, ?_⟩
  split at h3
  · assumption
  · cases h3

/-- A slice of n such structs, c cells each. -/
def Asks (w : World) (ao : Option Addr) (n c : Nat) : Prop :=
  ∀ (k : Nat), k < n → ∃ b o, ao = some ⟨b, o, none⟩ ∧ ∀ i, i < c → ∃ z : Int, w.cell? ⟨b, o + k * c + i, none⟩ = some (.int .i64 z)

theorem open_structs {H : Type} {enc : TypeId × Value → H} {P : Program} {r : Reach} {b0 base : Nat} {spare : Nat → Bool} {held : Bool} {W : World} {v : Value} {d : DataW H} {ps : List MemPlace} {t e : TypeId} {fs : Array Field}
    (ht : P.underlying t = some (.slice e)) (he : P.underlying e = some (.struct fs)) (hk : i64Flds P fs = true) (hC : P.cellsOf e = fs.size) (h0 : 0 < fs.size)
    (hval : Value.okWide P W r b0 t v) (h : DataW.Trod enc P W base spare held t v d ps) : ∃ ao n cap, v = .slice ao n cap ∧ Asks W ao n fs.size := by
  obtain ⟨a0, len, cap, rfl⟩ := okWide_slice ht hval
  obtain ⟨fuel, hf⟩ := h
  refine ⟨a0, len, cap, rfl, ?_⟩
  rcases Go.Deep.open_slice ht hf with ⟨hcs, _⟩ | ⟨a, len', cap', m, n, D, Pl, hcs, hb, hl, hm, hmm, hx, hel⟩
  · simp [Value.cells] at hcs
    obtain ⟨rfl, rfl, rfl⟩ := hcs
    intro k hk
    exact absurd hk (Nat.not_lt_zero _)
  · simp [Value.cells] at hcs
    obtain ⟨rfl, rfl, rfl⟩ := hcs
    intro k hkl
    have hlm : len ≤ m := by rw [hmm]; split <;> omega
    obtain ⟨cs', h1, h2⟩ := hel k (by omega)
    rw [hC] at h1
    obtain ⟨_, hlen, hcell⟩ := World.cells?_some h1
    obtain ⟨xs, q, _, _, _, hxl, hfd⟩ := DataW.trod_struct he h2
    obtain ⟨b, o, spot⟩ := a
    have hspot : spot = none := by
      obtain ⟨cs0, g1, _⟩ := hel 0 (by omega)
      rw [hC] at g1
      obtain ⟨_, gl, gc⟩ := World.cells?_some g1
      have h3 := World.cell?_spot ((gc 0 (by omega)).trans (List.getElem?_eq_getElem (by omega)))
      simpa [Addr.add] using h3
    subst hspot
    refine ⟨b, o, rfl, fun i hi => ?_⟩
    obtain ⟨o1, o2, u⟩ := i64Flds_at hk i fs[i] (Array.getElem?_eq_getElem hi)
    have g := hfd i fs[i] (Array.getElem?_eq_getElem hi)
    rw [List.getElem?_eq_getElem (by omega)] at g
    obtain ⟨z, hz, _⟩ := DataW.trod_int u g
    rw [o1, o2, List.drop_eq_getElem_cons (by omega)] at hz
    have hz' : cs'[i]'(by omega) = .int .i64 z := by
      simp only [List.take_succ_cons, List.take_zero, List.cons.injEq] at hz
      exact hz.1
    have h3 := hcell i (by omega)
    rw [addr_plain, addr_plain] at h3
    refine ⟨z, h3.trans ?_⟩
    rw [List.getElem?_eq_getElem (by omega), hz']

theorem Tryd.cellsAsk7 : Tryd.prog.cellsOf 40 = 3 := by kernel_rfl

set_option maxRecDepth 100000 in
theorem open_asks7 {H : Type} {enc : TypeId × Value → H} {r : Reach} {b0 base : Nat} {spare : Nat → Bool} {held : Bool} {W : World} {v : Value} {d : DataW H} {ps : List MemPlace}
    (hval : Value.okWide Tryd.prog W r b0 35 v) (h : DataW.Trod enc Tryd.prog W base spare held 35 v d ps) : ∃ ao n cap, v = .slice ao n cap ∧ Asks W ao n 3 :=
  open_structs Tryd.underlying35 Tryd.underlying40 (by kernel_rfl) Tryd.cellsAsk7 (by decide) hval h

end Go.Proofs.YtbljopjjmlacpaaDoor

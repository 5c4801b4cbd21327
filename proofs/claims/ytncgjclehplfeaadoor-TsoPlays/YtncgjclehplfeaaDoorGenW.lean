/- DERIVED of the program: rows of whichever elements as arguments, each element by its own cells; bools, events. For every seat. Own work. -/
import Derived.Test.YtncgjclehplfeaaDoorGenA
import Derived.Deep.Slices
namespace Go.Proofs.YtncgjclehplfeaaDoor
open Go.RowKit Go.Extern.Stop Go.Stop Go.Extern Go.ChangeShapes Go.WideShapes Go.ChangeAt Go.ChangeMaps

/-- A slice of n elements of m cells each, of which Q speaks. -/
def RowsQ (w : World) (ao : Option Addr) (n m : Nat) (Q : List Value → Prop) : Prop :=
  ∀ (k : Nat), k < n → ∃ b o cs, ao = some ⟨b, o, none⟩ ∧ Q cs ∧ ∀ (i : Nat) v, cs[i]? = some v → w.cell? ⟨b, o + k * m + i, none⟩ = some v
theorem open_rowsQ {H : Type} {enc : TypeId × Value → H} {P : Program} {r : Reach} {b0 base : Nat} {spare : Nat → Bool} {held : Bool} {W : World} {v : Value} {d : DataW H} {ps : List MemPlace} {t e : TypeId} {m : Nat} {Q : List Value → Prop}
    (ht : P.underlying t = some (.slice e)) (hC : P.cellsOf e = m) (hm0 : 0 < m) (hQ : ∀ (fuel : Nat) cs x, DataW.trod enc P W base spare held fuel e cs = some x → Q cs)
    (hval : Value.okWide P W r b0 t v) (h : DataW.Trod enc P W base spare held t v d ps) : ∃ ao n cap, v = .slice ao n cap ∧ RowsQ W ao n m Q := by
  obtain ⟨a0, len, cap, rfl⟩ := okWide_slice ht hval
  obtain ⟨fuel, hf⟩ := h
  refine ⟨a0, len, cap, rfl, ?_⟩
  rcases Go.Deep.open_slice ht hf with ⟨hcs, _⟩ | ⟨a, len', cap', mm, n, D, Pl, hcs, hb, hl, hm, hmm, hx, hel⟩
  · simp [Value.cells] at hcs
    obtain ⟨rfl, rfl, rfl⟩ := hcs
    intro k hk
    exact absurd hk (Nat.not_lt_zero _)
  · simp [Value.cells] at hcs
    obtain ⟨rfl, rfl, rfl⟩ := hcs
    intro k hkl
    have hlm : len ≤ mm := by rw [hmm]; split <;> omega
    obtain ⟨cs', h1, h2⟩ := hel k (by omega)
    rw [hC] at h1
    obtain ⟨_, hlen, hcell⟩ := World.cells?_some h1
    obtain ⟨b, o, spot⟩ := a
    have hspot : spot = none := by
      obtain ⟨cs0, g1, _⟩ := hel 0 (by omega)
      rw [hC] at g1
      obtain ⟨_, gl, gc⟩ := World.cells?_some g1
      have h3 := World.cell?_spot ((gc 0 (by omega)).trans (List.getElem?_eq_getElem (by omega)))
      simpa [Addr.add] using h3
    subst hspot
    refine ⟨b, o, cs', rfl, hQ _ _ _ h2, fun i v hi => ?_⟩
    have hlt := (List.getElem?_eq_some_iff.1 hi).1
    have h3 := hcell i (by omega)
    rw [addr_plain, addr_plain] at h3
    exact h3.trans hi

/-- A row of bools. -/
def BoolsW (w : World) (ao : Option Addr) (n : Nat) : Prop := RowsQ w ao n 1 (fun cs => ∃ z, cs = [.bool z])
theorem BoolsW.at {w : World} {ao : Option Addr} {n : Nat} (h : BoolsW w ao n) (k : Nat) (hk : k < n) : ∃ b o z, ao = some ⟨b, o, none⟩ ∧ w.cell? ⟨b, o + k, none⟩ = some (.bool z) := by
  obtain ⟨b, o, cs, e, ⟨z, rfl⟩, hc⟩ := h k hk
  exact ⟨b, o, z, e, by simpa using hc 0 _ rfl⟩
set_option maxRecDepth 100000 in
theorem open_bools {H : Type} {enc : TypeId × Value → H} {r : Reach} {b0 base : Nat} {spare : Nat → Bool} {held : Bool} {W : World} {v : Value} {d : DataW H} {ps : List MemPlace}
    (hval : Value.okWide Tryd.prog W r b0 62 v) (h : DataW.Trod enc Tryd.prog W base spare held 62 v d ps) : ∃ ao n cap, v = .slice ao n cap ∧ BoolsW W ao n :=
  open_rowsQ Tryd.underlying62 (by kernel_rfl) (by decide) (fun fuel cs x hx => by obtain ⟨z, hz, _⟩ := DataW.trod_bool Tryd.underlying4 hx; exact ⟨z, hz⟩) hval h
/-- A row of uint32s. -/
def U32sW (w : World) (ao : Option Addr) (n : Nat) : Prop := RowsQ w ao n 1 (fun cs => ∃ z : Int, cs = [.int .u32 z])
theorem U32sW.at {w : World} {ao : Option Addr} {n : Nat} (h : U32sW w ao n) (k : Nat) (hk : k < n) : ∃ b o z, ao = some ⟨b, o, none⟩ ∧ w.cell? ⟨b, o + k, none⟩ = some (.int .u32 z) := by
  obtain ⟨b, o, cs, e, ⟨z, rfl⟩, hc⟩ := h k hk
  exact ⟨b, o, z, e, by simpa using hc 0 _ rfl⟩
set_option maxRecDepth 100000 in
theorem open_u32sW {H : Type} {enc : TypeId × Value → H} {r : Reach} {b0 base : Nat} {spare : Nat → Bool} {held : Bool} {W : World} {v : Value} {d : DataW H} {ps : List MemPlace}
    (hval : Value.okWide Tryd.prog W r b0 27 v) (h : DataW.Trod enc Tryd.prog W base spare held 27 v d ps) : ∃ ao n cap, v = .slice ao n cap ∧ U32sW W ao n :=
  open_rowsQ Tryd.underlying27 (by kernel_rfl) (by decide) (fun fuel cs x hx => by obtain ⟨z, hz, _⟩ := DataW.trod_int Tryd.underlying22 hx; exact ⟨z, hz⟩) hval h

/-- A row of ints. -/
def IntsW (w : World) (ao : Option Addr) (n : Nat) : Prop := RowsQ w ao n 1 (fun cs => ∃ z : Int, cs = [.int .i64 z])
theorem IntsW.at {w : World} {ao : Option Addr} {n : Nat} (h : IntsW w ao n) (k : Nat) (hk : k < n) : ∃ b o z, ao = some ⟨b, o, none⟩ ∧ w.cell? ⟨b, o + k, none⟩ = some (.int .i64 z) := by
  obtain ⟨b, o, cs, e, ⟨z, rfl⟩, hc⟩ := h k hk
  exact ⟨b, o, z, e, by simpa using hc 0 _ rfl⟩
set_option maxRecDepth 100000 in
theorem open_intsW {H : Type} {enc : TypeId × Value → H} {r : Reach} {b0 base : Nat} {spare : Nat → Bool} {held : Bool} {W : World} {v : Value} {d : DataW H} {ps : List MemPlace}
    (hval : Value.okWide Tryd.prog W r b0 66 v) (h : DataW.Trod enc Tryd.prog W base spare held 66 v d ps) : ∃ ao n cap, v = .slice ao n cap ∧ IntsW W ao n :=
  open_rowsQ Tryd.underlying66 (by kernel_rfl) (by decide) (fun fuel cs x hx => by obtain ⟨z, hz, _⟩ := DataW.trod_int Tryd.underlying3 hx; exact ⟨z, hz⟩) hval h

theorem Tryd.cellsI1 : Tryd.prog.cellsOf 3 = 1 := by kernel_rfl
theorem Tryd.cellsB1 : Tryd.prog.cellsOf 4 = 1 := by kernel_rfl
theorem Tryd.cellsU1 : Tryd.prog.cellsOf 22 = 1 := by kernel_rfl
theorem take_one' {α : Type} {l : List α} {i : Nat} {x : α} (h : (l.drop i).take 1 = [x]) : l[i]? = some x := by
  have h1 : ((l.drop i).take 1)[0]? = some x := by rw [h]; rfl
  rw [List.getElem?_take, if_pos (by decide), List.getElem?_drop] at h1
  exact h1
theorem list6 {α : Type} {l : List α} {x0 x1 x2 x3 x4 x5 : α} (hl : l.length = 6) (h0 : l[0]? = some x0) (h1 : l[1]? = some x1) (h2 : l[2]? = some x2) (h3 : l[3]? = some x3) (h4 : l[4]? = some x4) (h5 : l[5]? = some x5) : l = [x0, x1, x2, x3, x4, x5] := by
  match l, hl with
  | [a, b, c, d, e, f], _ => simp at h0 h1 h2 h3 h4 h5; subst h0 h1 h2 h3 h4 h5; rfl
/-- An event's cells. -/
def EvQ (cs : List Value) : Prop := ∃ (k c a v n : Int) (d : Bool), cs = [.int .i64 k, .int .i64 c, .int .i64 a, .int .u32 v, .int .u32 n, .bool d]
set_option maxRecDepth 100000 in
theorem ev_trod {H : Type} {enc : TypeId × Value → H} {base fuel : Nat} {spare : Nat → Bool} {held : Bool} {W : World} {cs : List Value} {x : DataW H × List MemPlace}
    (hf : DataW.trod enc Tryd.prog W base spare held fuel 24 cs = some x) : EvQ cs := by
  obtain ⟨xs, n, _, _, hlen, hxl, hfd⟩ := DataW.trod_struct Tryd.underlying24 hf
  have hx : ∀ i, i < 6 → ∃ d, xs[i]? = some d := fun i hi => ⟨_, List.getElem?_eq_getElem (by rw [hxl]; exact hi)⟩
  obtain ⟨d0, h0⟩ := hx 0 (by decide)
  obtain ⟨d1, h1⟩ := hx 1 (by decide)
  obtain ⟨d2, h2⟩ := hx 2 (by decide)
  obtain ⟨d3, h3⟩ := hx 3 (by decide)
  obtain ⟨d4, h4⟩ := hx 4 (by decide)
  obtain ⟨d5, h5⟩ := hx 5 (by decide)
  have t0 : DataW.trod enc Tryd.prog W base spare held n 3 ((cs.drop 0).take (Tryd.prog.cellsOf 3)) = some d0 := (hfd 0 _ rfl).trans h0
  have t1 : DataW.trod enc Tryd.prog W base spare held n 3 ((cs.drop 1).take (Tryd.prog.cellsOf 3)) = some d1 := (hfd 1 _ rfl).trans h1
  have t2 : DataW.trod enc Tryd.prog W base spare held n 3 ((cs.drop 2).take (Tryd.prog.cellsOf 3)) = some d2 := (hfd 2 _ rfl).trans h2
  have t3 : DataW.trod enc Tryd.prog W base spare held n 22 ((cs.drop 3).take (Tryd.prog.cellsOf 22)) = some d3 := (hfd 3 _ rfl).trans h3
  have t4 : DataW.trod enc Tryd.prog W base spare held n 22 ((cs.drop 4).take (Tryd.prog.cellsOf 22)) = some d4 := (hfd 4 _ rfl).trans h4
  have t5 : DataW.trod enc Tryd.prog W base spare held n 4 ((cs.drop 5).take (Tryd.prog.cellsOf 4)) = some d5 := (hfd 5 _ rfl).trans h5
  rw [Tryd.cellsI1] at t0 t1 t2
  rw [Tryd.cellsU1] at t3 t4
  rw [Tryd.cellsB1] at t5
  obtain ⟨z0, y0, _⟩ := DataW.trod_int Tryd.underlying3 t0
  obtain ⟨z1, y1, _⟩ := DataW.trod_int Tryd.underlying3 t1
  obtain ⟨z2, y2, _⟩ := DataW.trod_int Tryd.underlying3 t2
  obtain ⟨z3, y3, _⟩ := DataW.trod_int Tryd.underlying22 t3
  obtain ⟨z4, y4, _⟩ := DataW.trod_int Tryd.underlying22 t4
  obtain ⟨z5, y5, _⟩ := DataW.trod_bool Tryd.underlying4 t5
  have hl : cs.length = 6 := by rw [hlen]; kernel_rfl
  exact ⟨z0, z1, z2, z3, z4, z5, list6 hl (take_one' y0) (take_one' y1) (take_one' y2) (take_one' y3) (take_one' y4) (take_one' y5)⟩

/-- A row of events. -/
def EvsW (w : World) (ao : Option Addr) (n : Nat) : Prop := RowsQ w ao n 6 EvQ
theorem EvsW.at {w : World} {ao : Option Addr} {n : Nat} (h : EvsW w ao n) (j : Nat) (hj : j < n) : ∃ b o k c a v z d, ao = some ⟨b, o, none⟩ ∧ w.cell? ⟨b, o + j * 6, none⟩ = some (.int .i64 k) ∧ w.cell? ⟨b, o + j * 6 + 1, none⟩ = some (.int .i64 c) ∧ w.cell? ⟨b, o + j * 6 + 2, none⟩ = some (.int .i64 a) ∧ w.cell? ⟨b, o + j * 6 + 3, none⟩ = some (.int .u32 v) ∧ w.cell? ⟨b, o + j * 6 + 4, none⟩ = some (.int .u32 z) ∧ w.cell? ⟨b, o + j * 6 + 5, none⟩ = some (.bool d) := by
  obtain ⟨b, o, cs, e, ⟨k, c, a, v, z, d, rfl⟩, hc⟩ := h j hj
  exact ⟨b, o, k, c, a, v, z, d, e, by simpa using hc 0 _ rfl, hc 1 _ rfl, hc 2 _ rfl, hc 3 _ rfl, hc 4 _ rfl, hc 5 _ rfl⟩
set_option maxRecDepth 100000 in
theorem open_evs {H : Type} {enc : TypeId × Value → H} {r : Reach} {b0 base : Nat} {spare : Nat → Bool} {held : Bool} {W : World} {v : Value} {d : DataW H} {ps : List MemPlace}
    (hval : Value.okWide Tryd.prog W r b0 26 v) (h : DataW.Trod enc Tryd.prog W base spare held 26 v d ps) : ∃ ao n cap, v = .slice ao n cap ∧ EvsW W ao n :=
  open_rowsQ Tryd.underlying26 (by kernel_rfl) (by decide) (fun _ _ _ hx => ev_trod hx) hval h
end Go.Proofs.YtncgjclehplfeaaDoor

/- DERIVED of the program: a row of calls on a model as an argument: three numbers, an event, a bool each. Own work. -/
import Derived.Test.YtncgjclehplfeaaDoorGenW
namespace Go.Proofs.YtncgjclehplfeaaDoor
open Go.RowKit Go.Extern.Stop Go.Stop Go.Extern Go.ChangeShapes Go.WideShapes Go.ChangeAt Go.ChangeMaps

theorem take_get {α : Type} {l xs : List α} {i k : Nat} (h : (l.drop i).take k = xs) (j : Nat) (hj : j < k) : l[i + j]? = xs[j]? := by
  rw [← h, List.getElem?_take, if_pos hj, List.getElem?_drop]
theorem list10 {α : Type} {l : List α} {x0 x1 x2 x3 x4 x5 x6 x7 x8 x9 : α} (hl : l.length = 10) (h0 : l[0]? = some x0) (h1 : l[1]? = some x1) (h2 : l[2]? = some x2) (h3 : l[3]? = some x3) (h4 : l[4]? = some x4) (h5 : l[5]? = some x5) (h6 : l[6]? = some x6) (h7 : l[7]? = some x7) (h8 : l[8]? = some x8) (h9 : l[9]? = some x9) : l = [x0, x1, x2, x3, x4, x5, x6, x7, x8, x9] := by
  match l, hl with
  | [a, b, c, d, e, f, g, h, i, j], _ =>
    simp at h0 h1 h2 h3 h4 h5 h6 h7 h8 h9
    subst h0 h1 h2 h3 h4 h5 h6 h7 h8 h9
    rfl
theorem Tryd.cellsE6 : Tryd.prog.cellsOf 24 = 6 := by kernel_rfl
/-- A call's cells. -/
def AskQ (cs : List Value) : Prop := ∃ (k c a ek ec ea ev en : Int) (ed own : Bool), cs = [.int .i64 k, .int .i64 c, .int .i64 a, .int .i64 ek, .int .i64 ec, .int .i64 ea, .int .u32 ev, .int .u32 en, .bool ed, .bool own]
set_option maxRecDepth 100000 in
theorem ask_trod {H : Type} {enc : TypeId × Value → H} {base fuel : Nat} {spare : Nat → Bool} {held : Bool} {W : World} {cs : List Value} {x : DataW H × List MemPlace}
    (hf : DataW.trod enc Tryd.prog W base spare held fuel 46 cs = some x) : AskQ cs := by
  obtain ⟨xs, n, _, _, hlen, hxl, hfd⟩ := DataW.trod_struct Tryd.underlying46 hf
  have hx : ∀ i, i < 5 → ∃ d, xs[i]? = some d := fun i hi => ⟨_, List.getElem?_eq_getElem (by rw [hxl]; exact hi)⟩
  obtain ⟨d0, h0⟩ := hx 0 (by decide)
  obtain ⟨d1, h1⟩ := hx 1 (by decide)
  obtain ⟨d2, h2⟩ := hx 2 (by decide)
  obtain ⟨d3, h3⟩ := hx 3 (by decide)
  obtain ⟨d4, h4⟩ := hx 4 (by decide)
  have t0 : DataW.trod enc Tryd.prog W base spare held n 3 ((cs.drop 0).take (Tryd.prog.cellsOf 3)) = some d0 := (hfd 0 _ rfl).trans h0
  have t1 : DataW.trod enc Tryd.prog W base spare held n 3 ((cs.drop 1).take (Tryd.prog.cellsOf 3)) = some d1 := (hfd 1 _ rfl).trans h1
  have t2 : DataW.trod enc Tryd.prog W base spare held n 3 ((cs.drop 2).take (Tryd.prog.cellsOf 3)) = some d2 := (hfd 2 _ rfl).trans h2
  have t3 : DataW.trod enc Tryd.prog W base spare held n 24 ((cs.drop 3).take (Tryd.prog.cellsOf 24)) = some d3 := (hfd 3 _ rfl).trans h3
  have t4 : DataW.trod enc Tryd.prog W base spare held n 4 ((cs.drop 9).take (Tryd.prog.cellsOf 4)) = some d4 := (hfd 4 _ rfl).trans h4
  rw [Tryd.cellsI1] at t0 t1 t2
  rw [Tryd.cellsE6] at t3
  rw [Tryd.cellsB1] at t4
  obtain ⟨z0, y0, _⟩ := DataW.trod_int Tryd.underlying3 t0
  obtain ⟨z1, y1, _⟩ := DataW.trod_int Tryd.underlying3 t1
  obtain ⟨z2, y2, _⟩ := DataW.trod_int Tryd.underlying3 t2
  obtain ⟨ek, ec, ea, ev, en, ed, y3⟩ := ev_trod t3
  obtain ⟨z4, y4, _⟩ := DataW.trod_bool Tryd.underlying4 t4
  have hl : cs.length = 10 := by rw [hlen]; kernel_rfl
  exact ⟨z0, z1, z2, ek, ec, ea, ev, en, ed, z4, list10 hl (take_one' y0) (take_one' y1) (take_one' y2) (take_get y3 0 (by decide)) (take_get y3 1 (by decide)) (take_get y3 2 (by decide)) (take_get y3 3 (by decide)) (take_get y3 4 (by decide)) (take_get y3 5 (by decide)) (take_one' y4)⟩
/-- A row of calls. -/
def AsksW (w : World) (ao : Option Addr) (n : Nat) : Prop := RowsQ w ao n 10 AskQ
theorem AsksW.at {w : World} {ao : Option Addr} {n : Nat} (h : AsksW w ao n) (j : Nat) (hj : j < n) : ∃ b o k c a ek ec ea ev en ed own, ao = some ⟨b, o, none⟩ ∧ w.cell? ⟨b, o + j * 10, none⟩ = some (.int .i64 k) ∧ w.cell? ⟨b, o + j * 10 + 1, none⟩ = some (.int .i64 c) ∧ w.cell? ⟨b, o + j * 10 + 2, none⟩ = some (.int .i64 a) ∧
    w.cell? ⟨b, o + j * 10 + 3, none⟩ = some (.int .i64 ek) ∧ w.cell? ⟨b, o + j * 10 + 4, none⟩ = some (.int .i64 ec) ∧ w.cell? ⟨b, o + j * 10 + 5, none⟩ = some (.int .i64 ea) ∧ w.cell? ⟨b, o + j * 10 + 6, none⟩ = some (.int .u32 ev) ∧ w.cell? ⟨b, o + j * 10 + 7, none⟩ = some (.int .u32 en) ∧ w.cell? ⟨b, o + j * 10 + 8, none⟩ = some (.bool ed) ∧ w.cell? ⟨b, o + j * 10 + 9, none⟩ = some (.bool own) := by
  obtain ⟨b, o, cs, e, ⟨k, c, a, ek, ec, ea, ev, en, ed, own, rfl⟩, hc⟩ := h j hj
  exact ⟨b, o, k, c, a, ek, ec, ea, ev, en, ed, own, e, by simpa using hc 0 _ rfl, hc 1 _ rfl, hc 2 _ rfl, hc 3 _ rfl, hc 4 _ rfl, hc 5 _ rfl, hc 6 _ rfl, hc 7 _ rfl, hc 8 _ rfl, hc 9 _ rfl⟩
set_option maxRecDepth 100000 in
theorem open_asks10 {H : Type} {enc : TypeId × Value → H} {r : Reach} {b0 base : Nat} {spare : Nat → Bool} {held : Bool} {W : World} {v : Value} {d : DataW H} {ps : List MemPlace}
    (hval : Value.okWide Tryd.prog W r b0 38 v) (h : DataW.Trod enc Tryd.prog W base spare held 38 v d ps) : ∃ ao n cap, v = .slice ao n cap ∧ AsksW W ao n :=
  open_rowsQ Tryd.underlying38 (by kernel_rfl) (by decide) (fun _ _ _ hx => ask_trod hx) hval h
end Go.Proofs.YtncgjclehplfeaaDoor

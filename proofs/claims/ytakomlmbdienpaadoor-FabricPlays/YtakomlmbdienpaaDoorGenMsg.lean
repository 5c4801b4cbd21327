/- DERIVED of the program: a message that is an argument by value: its thirteen cells, each within its kind. Own work. -/
import Derived.Test.YtakomlmbdienpaaDoorSgE
import Derived.OpenShut
import Derived.WideShapes
namespace Go.Proofs.YtakomlmbdienpaaDoor
open Go.RowKit Go.Extern.Stop Go.Stop Go.Extern Go.WideShapes

theorem Tryd.cellsI1 : Tryd.prog.cellsOf 3 = 1 := by kernel_rfl
theorem Tryd.cellsB1 : Tryd.prog.cellsOf 4 = 1 := by kernel_rfl
theorem Tryd.cellsU1 : Tryd.prog.cellsOf 28 = 1 := by kernel_rfl
theorem Tryd.cellsL4 : Tryd.prog.cellsOf 30 = 4 := by kernel_rfl
theorem take_one' {α : Type} {l : List α} {i : Nat} {x : α} (h : (l.drop i).take 1 = [x]) : l[i]? = some x := by
  have h1 : ((l.drop i).take 1)[0]? = some x := by rw [h]; rfl
  rw [List.getElem?_take, if_pos (by decide), List.getElem?_drop] at h1
  exact h1
theorem take_in {α : Type} {l : List α} {i j n m : Nat} {x : α} (h : ((((l.drop i).take n).drop j).take m) = [x]) : l[i + j]? = some x := by
  have h1 : ((((l.drop i).take n).drop j).take m)[0]? = some x := by rw [h]; rfl
  rw [List.getElem?_take] at h1
  split at h1
  · rw [List.getElem?_drop, List.getElem?_take] at h1
    split at h1
    · rw [List.getElem?_drop] at h1
      exact h1
    · cases h1
  · cases h1

theorem list13 {α : Type} {l : List α} {x0 x1 x2 x3 x4 x5 x6 x7 x8 x9 x10 x11 x12 : α} (hl : l.length = 13) (h0 : l[0]? = some x0) (h1 : l[1]? = some x1) (h2 : l[2]? = some x2) (h3 : l[3]? = some x3) (h4 : l[4]? = some x4) (h5 : l[5]? = some x5) (h6 : l[6]? = some x6) (h7 : l[7]? = some x7) (h8 : l[8]? = some x8) (h9 : l[9]? = some x9) (h10 : l[10]? = some x10) (h11 : l[11]? = some x11) (h12 : l[12]? = some x12) : l = [x0, x1, x2, x3, x4, x5, x6, x7, x8, x9, x10, x11, x12] := by
  match l, hl with
  | [a0, a1, a2, a3, a4, a5, a6, a7, a8, a9, a10, a11, a12], _ => simp at h0 h1 h2 h3 h4 h5 h6 h7 h8 h9 h10 h11 h12; subst h0 h1 h2 h3 h4 h5 h6 h7 h8 h9 h10 h11 h12; rfl

set_option maxRecDepth 100000 in
theorem msg_trod {H : Type} {enc : TypeId × Value → H} {base fuel : Nat} {spare : Nat → Bool} {held : Bool} {W : World} {cs : List Value} {x : DataW H × List MemPlace}
    (hf : DataW.trod enc Tryd.prog W base spare held fuel 32 cs = some x) : ∃ m : M13, cs = (mv m).toList ∧ M32 m ∧ M64 m := by
  obtain ⟨xs, n, _, _, hlen, hxl, hfd⟩ := DataW.trod_struct Tryd.underlying32 hf
  have hx : ∀ i, i < 10 → ∃ d, xs[i]? = some d := fun i hi => ⟨_, List.getElem?_eq_getElem (by rw [hxl]; exact hi)⟩
  obtain ⟨d0, h0⟩ := hx 0 (by decide)
  obtain ⟨d1, h1⟩ := hx 1 (by decide)
  obtain ⟨d2, h2⟩ := hx 2 (by decide)
  obtain ⟨d3, h3⟩ := hx 3 (by decide)
  obtain ⟨d4, h4⟩ := hx 4 (by decide)
  obtain ⟨d5, h5⟩ := hx 5 (by decide)
  obtain ⟨d6, h6⟩ := hx 6 (by decide)
  obtain ⟨d7, h7⟩ := hx 7 (by decide)
  obtain ⟨d8, h8⟩ := hx 8 (by decide)
  obtain ⟨d9, h9⟩ := hx 9 (by decide)
  have t0 : DataW.trod enc Tryd.prog W base spare held n 3 ((cs.drop 0).take (Tryd.prog.cellsOf 3)) = some d0 := (hfd 0 _ rfl).trans h0
  have t1 : DataW.trod enc Tryd.prog W base spare held n 3 ((cs.drop 1).take (Tryd.prog.cellsOf 3)) = some d1 := (hfd 1 _ rfl).trans h1
  have t2 : DataW.trod enc Tryd.prog W base spare held n 3 ((cs.drop 2).take (Tryd.prog.cellsOf 3)) = some d2 := (hfd 2 _ rfl).trans h2
  have t3 : DataW.trod enc Tryd.prog W base spare held n 3 ((cs.drop 3).take (Tryd.prog.cellsOf 3)) = some d3 := (hfd 3 _ rfl).trans h3
  have t4 : DataW.trod enc Tryd.prog W base spare held n 3 ((cs.drop 4).take (Tryd.prog.cellsOf 3)) = some d4 := (hfd 4 _ rfl).trans h4
  have t5 : DataW.trod enc Tryd.prog W base spare held n 3 ((cs.drop 5).take (Tryd.prog.cellsOf 3)) = some d5 := (hfd 5 _ rfl).trans h5
  have t6 : DataW.trod enc Tryd.prog W base spare held n 3 ((cs.drop 6).take (Tryd.prog.cellsOf 3)) = some d6 := (hfd 6 _ rfl).trans h6
  have t7 : DataW.trod enc Tryd.prog W base spare held n 28 ((cs.drop 7).take (Tryd.prog.cellsOf 28)) = some d7 := (hfd 7 _ rfl).trans h7
  have t8 : DataW.trod enc Tryd.prog W base spare held n 30 ((cs.drop 8).take (Tryd.prog.cellsOf 30)) = some d8 := (hfd 8 _ rfl).trans h8
  have t9 : DataW.trod enc Tryd.prog W base spare held n 4 ((cs.drop 12).take (Tryd.prog.cellsOf 4)) = some d9 := (hfd 9 _ rfl).trans h9
  rw [Tryd.cellsI1] at t0 t1 t2 t3 t4 t5 t6
  rw [Tryd.cellsU1] at t7
  rw [Tryd.cellsL4] at t8
  rw [Tryd.cellsB1] at t9
  obtain ⟨z0, y0, w0⟩ := DataW.trod_int Tryd.underlying3 t0
  obtain ⟨z1, y1, w1⟩ := DataW.trod_int Tryd.underlying3 t1
  obtain ⟨z2, y2, w2⟩ := DataW.trod_int Tryd.underlying3 t2
  obtain ⟨z3, y3, w3⟩ := DataW.trod_int Tryd.underlying3 t3
  obtain ⟨z4, y4, w4⟩ := DataW.trod_int Tryd.underlying3 t4
  obtain ⟨z5, y5, w5⟩ := DataW.trod_int Tryd.underlying3 t5
  obtain ⟨z6, y6, w6⟩ := DataW.trod_int Tryd.underlying3 t6
  obtain ⟨z7, y7, _, w7⟩ := DataW.trod_int Tryd.underlying28 t7
  obtain ⟨z12, y12, _⟩ := DataW.trod_bool Tryd.underlying4 t9
  obtain ⟨ys, k, _, _, _, hyl, hya⟩ := DataW.trod_array Tryd.underlying30 t8
  have hy : ∀ i, i < 4 → ∃ d, ys[i]? = some d := fun i hi => ⟨_, List.getElem?_eq_getElem (by rw [hyl]; exact hi)⟩
  obtain ⟨e0, g0⟩ := hy 0 (by decide)
  have u0 := (hya 0 (by decide)).trans g0
  rw [Tryd.cellsU1] at u0
  obtain ⟨z8, y8, _, w8⟩ := DataW.trod_int Tryd.underlying28 u0
  obtain ⟨e1, g1⟩ := hy 1 (by decide)
  have u1 := (hya 1 (by decide)).trans g1
  rw [Tryd.cellsU1] at u1
  obtain ⟨z9, y9, _, w9⟩ := DataW.trod_int Tryd.underlying28 u1
  obtain ⟨e2, g2⟩ := hy 2 (by decide)
  have u2 := (hya 2 (by decide)).trans g2
  rw [Tryd.cellsU1] at u2
  obtain ⟨z10, y10, _, w10⟩ := DataW.trod_int Tryd.underlying28 u2
  obtain ⟨e3, g3⟩ := hy 3 (by decide)
  have u3 := (hya 3 (by decide)).trans g3
  rw [Tryd.cellsU1] at u3
  obtain ⟨z11, y11, _, w11⟩ := DataW.trod_int Tryd.underlying28 u3
  have hl : cs.length = 13 := by rw [hlen]; kernel_rfl
  refine ⟨(z0, z1, z2, z3, z4, z5, z6, z7, z8, z9, z10, z11, z12), list13 hl (take_one' y0) (take_one' y1) (take_one' y2) (take_one' y3) (take_one' y4) (take_one' y5) (take_one' y6) (take_one' y7) (take_in y8) (take_in y9) (take_in y10) (take_in y11) (take_one' y12), ?_, ?_⟩
  · exact ⟨bounds_u32 w7, bounds_u32 w8, bounds_u32 w9, bounds_u32 w10, bounds_u32 w11⟩
  · exact ⟨bounds_i64 w0.2, bounds_i64 w1.2, bounds_i64 w2.2, bounds_i64 w3.2, bounds_i64 w4.2, bounds_i64 w5.2, bounds_i64 w6.2⟩

set_option maxRecDepth 100000 in
theorem open_msg {H : Type} {enc : TypeId × Value → H} {w : World} {base : Nat} {spare : Nat → Bool} {held : Bool} {r : Reach} {b0 : Nat} {v : Value} {d : DataW H} {p : List MemPlace}
    (hv : Value.okWide Tryd.prog w r b0 32 v) (h : DataW.Trod enc Tryd.prog w base spare held 32 v d p) : ∃ m : M13, v = .agg (mv m) ∧ M32 m ∧ M64 m := by
  obtain ⟨cs, rfl, hsz⟩ := okWide_struct Tryd.underlying32 hv
  obtain ⟨fuel, hf⟩ := h
  obtain ⟨m, e, h1, h2⟩ := msg_trod hf
  refine ⟨m, ?_, h1, h2⟩
  congr 1
  exact Array.toList_inj.1 e
end Go.Proofs.YtakomlmbdienpaaDoor

/- DERIVED of the program: what FaultRuns calls, at the values at which it calls it. Own work. -/
import Derived.Test.YtgaajnefegjoeaaDoorTextA
namespace Go.Proofs.YtgaajnefegjoeaaDoor
open Go.RowKit Go.Extern.Stop Go.Stop Go.Extern

/-- What the package variables hold. -/
structure Env (w : World) (aF aB : Addr) : Prop where
  gF : w.cell? ⟨0, 0, none⟩ = some (snt aF)
  gB : w.cell? ⟨1, 0, none⟩ = some (snt aB)
  et : ET w
  sF : Sen w aF
  sB : Sen w aB
  tF : w.cell? aF = some (.string ⟨#[110, 111, 32, 114, 111, 111, 109]⟩)
  ne : aF ≠ aB
theorem Env.below {w w' : World} {aF aB : Addr} (h : Env w aF aB) (hb : Below w.heap.size w w') : Env w' aF aB :=
  ⟨(hb.cell (p := ⟨0, 0, none⟩) (lt_cell h.gF)).trans h.gF, (hb.cell (p := ⟨1, 0, none⟩) (lt_cell h.gB)).trans h.gB, h.et.below hb h.et.lt, h.sF.below hb h.sF.lt, h.sB.below hb h.sB.lt, (hb.cell (p := aF) (lt_cell h.tF)).trans h.tF, h.ne⟩

abbrev bAB : ByteArray := ⟨#[97, 46, 66]⟩
abbrev bCD : ByteArray := ⟨#[99, 46, 68]⟩

/-- The state of FaultRuns' last statement: the old world below, the variable f. -/
structure St (w W : World) (fb : Nat) : Prop where
  below : Below w.heap.size w W
  f0 : W.cell? ⟨fb, 0, none⟩ = some (.string bAB)
  f1 : W.cell? ⟨fb, 1, none⟩ = some (.int .i64 3)
theorem St.step {w W W' : World} {fb : Nat} (hb : Below W.heap.size W W') (h : St w W fb) : St w W' fb :=
  ⟨h.below.trans (hb.mono h.below.size), (hb.cell (p := ⟨fb, 0, none⟩) (lt_cell h.f0)).trans h.f0, (hb.cell (p := ⟨fb, 1, none⟩) (lt_cell h.f1)).trans h.f1⟩
theorem St.drew {w W : World} {fb : Nat} (h : St w W fb) : St w W.drew fb := h.step (Below.refl _ _).drew
theorem St.alloc {w W : World} {fb : Nat} (o : Obj) (h : St w W fb) : St w (W.alloc o) fb := h.step ((Below.refl _ _).alloc (Nat.le_refl _) _)

theorem reads_of_owns {w : World} {base n : Nat} {v : Value} {vs : List Value} (xs : List ByteArray) (h : w.ownsRow base 9 1 v n vs) (hv : vs = xs.map .string) (hn : xs.length = n) : Reads w v xs := by
  subst hv; subst hn
  obtain ⟨h1, h2⟩ := h
  rcases h2 with ⟨rfl, h0⟩ | ⟨g, cap, cur, rfl, hg, hh, hle, hm, hsz, ht⟩
  · exact .inl ⟨_, _, rfl, List.length_eq_zero_iff.1 h0⟩
  · refine .inr ⟨g, 0, cap, rfl, fun k hk => ?_⟩
    have hx : cur.toList[k]? = some (.string xs[k]) := by
      have : (cur.toList.take (xs.length * 1))[k]? = some (.string xs[k]) := by rw [ht]; simp [hk]
      rw [List.getElem?_take] at this
      simpa [hk] using this
    simp only [World.cell?, hh, Nat.zero_add]
    simpa using hx
theorem Reads.below {B : Nat} {w w' : World} {v : Value} {xs : List ByteArray} (h : Reads w v xs) (hb : Below B w w') (hB : w.heap.size ≤ B) : Reads w' v xs := by
  rcases h with h | ⟨b, o, c, rfl, h⟩
  · exact .inl h
  · exact .inr ⟨b, o, c, rfl, fun k hk => (hb.cell (p := ⟨b, o + k, none⟩) (Nat.lt_of_lt_of_le (lt_cell (h k hk)) hB)).trans (h k hk)⟩
theorem Reads.alloc {w : World} {v : Value} {xs : List ByteArray} (h : Reads w v xs) (o : Obj) : Reads (w.alloc o) v xs := h.below ((Below.refl _ _).alloc (Nat.le_refl _) o) (Nat.le_refl _)

theorem reads_new (W : World) (H : Nat) (hH : H = W.heap.size) (x y : ByteArray) (t : TypeId) : Reads (W.alloc (.cells #[.string x, .string y] t)) (.slice (some ⟨H, 0, none⟩) 2 2) [x, y] := by
  subst hH
  refine .inr ⟨_, 0, 2, rfl, fun k hk => ?_⟩
  match k, hk with
  | 0, _ => simp
  | 1, _ => simp

section
variable (w : World) (aF aB : Addr) (fb : Nat)
theorem runs_error (W : World) (hE : Env w aF aB) (h : St w W fb) :
    Calls Tryd.prog 54 #[.agg #[.string bAB, .int .i64 3, snt aF]] W fun r w' => r = .returned (.string ⟨#[97, 46, 66, 58, 32, 110, 111, 32, 114, 111, 111, 109]⟩) ∧ Below W.heap.size W w' :=
  ferror_snt bAB 3 aF ⟨#[110, 111, 32, 114, 111, 111, 109]⟩ W (hE.below h.below).tF (by decide)
theorem runs_root (W : World) : Calls Tryd.prog 11 #[flt bCD 0 (flt bAB 3 (snt aF))] W fun r w' => r = .returned (snt aF) ∧ Below W.heap.size W w' :=
  root_chn [(bCD, 0), (bAB, 3)] aF W (by decide)
theorem runs_depth (W : World) : Calls Tryd.prog 14 #[flt bCD 0 (flt bAB 3 (snt aF))] W fun r w' => r = .returned (.int .i64 3) ∧ Below W.heap.size W w' :=
  depth_chn [(bCD, 0), (bAB, 3)] aF W (by decide)
theorem runs_ops (W : World) : Calls Tryd.prog 13 #[flt bCD 0 (flt bAB 3 (snt aF))] W fun r w' => ∃ v, r = .returned v ∧ Reads w' v [bCD, bAB] ∧ Below W.heap.size W w' :=
  (ops_chn [(bCD, 0), (bAB, 3)] aF W (by decide)).mono fun r w' ⟨v, h1, h2, h3⟩ => ⟨v, h1, reads_of_owns [bCD, bAB] h2 rfl rfl, h3⟩
theorem runs_any (W : World) (sb : Nat) (hE : Env w aF aB) (h : St w W fb) (h0 : W.cell? ⟨sb, 0, none⟩ = some (snt aB)) (h1 : W.cell? ⟨sb, 1, none⟩ = some (snt aF)) :
    Calls Tryd.prog 15 #[flt bCD 0 (flt bAB 3 (snt aF)), .slice (some ⟨sb, 0, none⟩) 2 2] W fun r w' => r = .returned (.int .i64 1) ∧ Below W.heap.size W w' := by
  have hE' := hE.below h.below
  refine (any_chn [(bCD, 0), (bAB, 3)] aF [aB, aF] sb 0 2 W (by simp) ?_ hE'.sF ?_).mono fun r w' ⟨h1, h2⟩ => ⟨h1.trans ?_, h2⟩
  · intro k hk
    match k, hk with
    | 0, _ => exact h0
    | 1, _ => exact h1
  · intro k hk
    match k, hk with
    | 0, _ => exact hE'.sB
    | 1, _ => exact hE'.sF
  · simp [fidx, hE.ne]
end
end Go.Proofs.YtgaajnefegjoeaaDoor

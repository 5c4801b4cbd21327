/- DERIVED of the program: a slice of calls (numbers, an entry, a row of pins) as an argument. Own work. -/
import Derived.Test.YtcackmmfnojpfaaDoorArA
import Derived.Deep.Slices
namespace Go.Proofs.YtcackmmfnojpfaaDoor
open Go.RowKit Go.Extern.Stop Go.Stop Go.Extern Go.ChangeShapes Go.WideShapes Go.ChangeAt Go.ChangeMaps

/-- A call in memory: its kind, its line, its entry, its pins. -/
structure AskC (w : World) (b o : Nat) (kd ln : Int) (e : En) (pa : Option Addr) (pc : Nat) (ps : List Int) : Prop where
  kd : w.cell? ⟨b, o, none⟩ = some (.int .i64 kd)
  ln : w.cell? ⟨b, o + 1, none⟩ = some (.int .i64 ln)
  en : ECells w b (o + 2) e
  pn : w.cell? ⟨b, o + 12, none⟩ = some (.slice pa ps.length pc)
  ps : Ints w pa pc ps

def Asks6 (w : World) (ao : Option Addr) (n : Nat) : Prop :=
  ∀ (k : Nat), k < n → ∃ b o, ao = some ⟨b, o, none⟩ ∧ ∃ kd ln e pa pc ps, AskC w b (o + k * 13) kd ln e pa pc ps

theorem AskC.step {w w' : World} {b o : Nat} {kd ln : Int} {e : En} {pa : Option Addr} {pc : Nat} {ps : List Int} (h : AskC w b o kd ln e pa pc ps) (hb : Below w.heap.size w w') : AskC w' b o kd ln e pa pc ps := by
  have hl := lt_cell h.kd
  exact ⟨(hb.cell (p := ⟨b, o, none⟩) hl).trans h.kd, (hb.cell (p := ⟨b, o + 1, none⟩) hl).trans h.ln, h.en.step hb, (hb.cell (p := ⟨b, o + 12, none⟩) hl).trans h.pn, h.ps.step hb⟩

theorem ints_trod {H : Type} {enc : TypeId × Value → H} {base fuel : Nat} {spare : Nat → Bool} {held : Bool} {W : World} {cs : List Value} {x : DataW H × List MemPlace}
    (hf : DataW.trod enc Tryd.prog W base spare held fuel 42 cs = some x) : ∃ ao cap zs, cs = [.slice ao (zs : List Int).length cap] ∧ Ints W ao cap zs := by
  rcases open_ints Tryd.underlying42 Tryd.underlying3 (by kernel_rfl) hf with ⟨hcs, hx⟩ | ⟨a, len, cap, zs, hcs, _, hl, hm, hz, hx, hcell, hwz⟩
  · exact ⟨none, 0, [], hcs, Ints.nil W⟩
  · have hlz : len ≤ zs.length := by split at hz <;> omega
    have hlen : (zs.take len).length = len := by rw [List.length_take]; omega
    refine ⟨some a, cap, zs.take len, by rw [hlen]; exact hcs, ⟨by omega, fun k hk => ?_, fun z hz => bounds_i64 (hwz z (List.mem_of_mem_take hz)), (by simp)⟩⟩
    obtain ⟨b, off, spot⟩ := a
    have hk' : k < zs.length := by omega
    have hspot : spot = none := by simpa [Addr.add] using World.cell?_spot (hcell 0 (by omega))
    subst hspot
    refine ⟨b, off, rfl, ?_⟩
    have := hcell k hk'
    rw [addr_plain] at this
    rw [this]
    simp [List.getElem?_eq_getElem hk']

theorem take_one {α : Type} {l : List α} {i : Nat} {x : α} (h : (l.drop i).take 1 = [x]) : l[i]? = some x := by
  have h1 : ((l.drop i).take 1)[0]? = some x := by rw [h]; rfl
  rw [List.getElem?_take, if_pos (by decide), List.getElem?_drop] at h1
  exact h1
theorem take_in {α : Type} {l : List α} {i n j : Nat} {x : α} (h : ((l.drop i).take n)[j]? = some x) : l[i + j]? = some x := by
  rw [List.getElem?_take] at h
  split at h
  · rw [List.getElem?_drop] at h; exact h
  · cases h

theorem Tryd.cellsAsk6 : Tryd.prog.cellsOf 44 = 13 := by kernel_rfl
theorem Tryd.cellsEntry : Tryd.prog.cellsOf 32 = 10 := by kernel_rfl
theorem Tryd.cellsI : Tryd.prog.cellsOf 3 = 1 := by kernel_rfl
theorem Tryd.cellsB : Tryd.prog.cellsOf 4 = 1 := by kernel_rfl
theorem Tryd.cellsU32 : Tryd.prog.cellsOf 28 = 1 := by kernel_rfl
theorem Tryd.cellsInts : Tryd.prog.cellsOf 42 = 1 := by kernel_rfl
theorem Tryd.cellsLine : Tryd.prog.cellsOf 30 = 4 := by kernel_rfl

set_option maxRecDepth 100000 in
theorem entry_trod {H : Type} {enc : TypeId × Value → H} {base fuel : Nat} {spare : Nat → Bool} {held : Bool} {W : World} {cs : List Value} {x : DataW H × List MemPlace}
    (hf : DataW.trod enc Tryd.prog W base spare held fuel 32 cs = some x) : ∃ e : En, cs = e.ec := by
  obtain ⟨xs, n, _, _, hlen, hxl, hfd⟩ := DataW.trod_struct Tryd.underlying32 hf
  have hx : ∀ i, i < 7 → ∃ d, xs[i]? = some d := fun i hi => ⟨_, List.getElem?_eq_getElem (by rw [hxl]; exact hi)⟩
  obtain ⟨d0, h0⟩ := hx 0 (by decide)
  obtain ⟨d1, h1⟩ := hx 1 (by decide)
  obtain ⟨d2, h2⟩ := hx 2 (by decide)
  obtain ⟨d3, h3⟩ := hx 3 (by decide)
  obtain ⟨d4, h4⟩ := hx 4 (by decide)
  obtain ⟨d5, h5⟩ := hx 5 (by decide)
  obtain ⟨d6, h6⟩ := hx 6 (by decide)
  have t0 : DataW.trod enc Tryd.prog W base spare held n 3 ((cs.drop 0).take (Tryd.prog.cellsOf 3)) = some d0 := (hfd 0 _ rfl).trans h0
  rw [Tryd.cellsI] at t0
  have t1 : DataW.trod enc Tryd.prog W base spare held n 3 ((cs.drop 1).take (Tryd.prog.cellsOf 3)) = some d1 := (hfd 1 _ rfl).trans h1
  rw [Tryd.cellsI] at t1
  have t2 : DataW.trod enc Tryd.prog W base spare held n 3 ((cs.drop 2).take (Tryd.prog.cellsOf 3)) = some d2 := (hfd 2 _ rfl).trans h2
  rw [Tryd.cellsI] at t2
  have t3 : DataW.trod enc Tryd.prog W base spare held n 3 ((cs.drop 3).take (Tryd.prog.cellsOf 3)) = some d3 := (hfd 3 _ rfl).trans h3
  rw [Tryd.cellsI] at t3
  have t4 : DataW.trod enc Tryd.prog W base spare held n 30 ((cs.drop 4).take (Tryd.prog.cellsOf 30)) = some d4 := (hfd 4 _ rfl).trans h4
  rw [Tryd.cellsLine] at t4
  have t5 : DataW.trod enc Tryd.prog W base spare held n 4 ((cs.drop 8).take (Tryd.prog.cellsOf 4)) = some d5 := (hfd 5 _ rfl).trans h5
  rw [Tryd.cellsB] at t5
  have t6 : DataW.trod enc Tryd.prog W base spare held n 4 ((cs.drop 9).take (Tryd.prog.cellsOf 4)) = some d6 := (hfd 6 _ rfl).trans h6
  rw [Tryd.cellsB] at t6
  obtain ⟨z0, q0, _⟩ := DataW.trod_int Tryd.underlying3 t0
  obtain ⟨z1, q1, _⟩ := DataW.trod_int Tryd.underlying3 t1
  obtain ⟨z2, q2, _⟩ := DataW.trod_int Tryd.underlying3 t2
  obtain ⟨z3, q3, _⟩ := DataW.trod_int Tryd.underlying3 t3
  obtain ⟨b5, q5, _⟩ := DataW.trod_bool Tryd.underlying4 t5
  obtain ⟨b6, q6, _⟩ := DataW.trod_bool Tryd.underlying4 t6
  obtain ⟨ys, m, _, _, _, hyl, hyd⟩ := DataW.trod_array Tryd.underlying30 t4
  simp only [Tryd.cellsU32] at hyd
  have hy : ∀ i, i < 4 → ∃ z : Int, (cs.drop 4)[i]? = some (.int .u32 z) := by
    intro i hi
    have h := hyd i hi
    rw [List.getElem?_eq_getElem (by omega)] at h
    obtain ⟨z, hz, _⟩ := DataW.trod_int Tryd.underlying28 h
    rw [Nat.mul_one] at hz
    have := take_one hz
    rw [List.getElem?_take, if_pos hi] at this
    exact ⟨z, this⟩
  obtain ⟨y0, r0⟩ := hy 0 (by decide)
  obtain ⟨y1, r1⟩ := hy 1 (by decide)
  obtain ⟨y2, r2⟩ := hy 2 (by decide)
  obtain ⟨y3, r3⟩ := hy 3 (by decide)
  rw [List.getElem?_drop] at r0 r1 r2 r3
  refine ⟨⟨z0, z1, z2, z3, y0, y1, y2, y3, b5, b6⟩, ?_⟩
  rw [Tryd.cellsEntry] at hlen
  have p0 := take_one q0
  have p1 := take_one q1
  have p2 := take_one q2
  have p3 := take_one q3
  have p5 := take_one q5
  have p6 := take_one q6
  apply List.ext_getElem?
  intro i
  rcases Nat.lt_or_ge i 10 with hi | hi
  · have h10 : i = 0 ∨ i = 1 ∨ i = 2 ∨ i = 3 ∨ i = 4 ∨ i = 5 ∨ i = 6 ∨ i = 7 ∨ i = 8 ∨ i = 9 := by omega
    rcases h10 with rfl | rfl | rfl | rfl | rfl | rfl | rfl | rfl | rfl | rfl
    · exact p0
    · exact p1
    · exact p2
    · exact p3
    · exact r0
    · exact r1
    · exact r2
    · exact r3
    · exact p5
    · exact p6
  · rw [List.getElem?_eq_none (by omega), List.getElem?_eq_none (by show 10 ≤ i; exact hi)]

set_option maxRecDepth 100000 in
theorem ask_trod {H : Type} {enc : TypeId × Value → H} {base fuel : Nat} {spare : Nat → Bool} {held : Bool} {W : World} {cs : List Value} {x : DataW H × List MemPlace}
    (hf : DataW.trod enc Tryd.prog W base spare held fuel 44 cs = some x) : ∃ (kd ln : Int) (e : En) (pa : Option Addr) (pc : Nat) (ps : List Int),
      cs[0]? = some (.int .i64 kd) ∧ cs[1]? = some (.int .i64 ln) ∧ (∀ c v, (e.ec)[c]? = some v → cs[2 + c]? = some v) ∧ cs[12]? = some (.slice pa ps.length pc) ∧ Ints W pa pc ps ∧ cs.length = 13 := by
  obtain ⟨xs, n, _, _, hlen, hxl, hfd⟩ := DataW.trod_struct Tryd.underlying44 hf
  have hx : ∀ i, i < 4 → ∃ d, xs[i]? = some d := fun i hi => ⟨_, List.getElem?_eq_getElem (by rw [hxl]; exact hi)⟩
  obtain ⟨d0, h0⟩ := hx 0 (by decide)
  obtain ⟨d1, h1⟩ := hx 1 (by decide)
  obtain ⟨d2, h2⟩ := hx 2 (by decide)
  obtain ⟨d3, h3⟩ := hx 3 (by decide)
  have t0 : DataW.trod enc Tryd.prog W base spare held n 3 ((cs.drop 0).take (Tryd.prog.cellsOf 3)) = some d0 := (hfd 0 _ rfl).trans h0
  rw [Tryd.cellsI] at t0
  have t1 : DataW.trod enc Tryd.prog W base spare held n 3 ((cs.drop 1).take (Tryd.prog.cellsOf 3)) = some d1 := (hfd 1 _ rfl).trans h1
  rw [Tryd.cellsI] at t1
  have t2 : DataW.trod enc Tryd.prog W base spare held n 32 ((cs.drop 2).take (Tryd.prog.cellsOf 32)) = some d2 := (hfd 2 _ rfl).trans h2
  rw [Tryd.cellsEntry] at t2
  have t3 : DataW.trod enc Tryd.prog W base spare held n 42 ((cs.drop 12).take (Tryd.prog.cellsOf 42)) = some d3 := (hfd 3 _ rfl).trans h3
  rw [Tryd.cellsInts] at t3
  obtain ⟨z0, q0, _⟩ := DataW.trod_int Tryd.underlying3 t0
  obtain ⟨z1, q1, _⟩ := DataW.trod_int Tryd.underlying3 t1
  obtain ⟨e, q2⟩ := entry_trod t2
  obtain ⟨pa, pc, ps, q3, hI⟩ := ints_trod t3
  rw [Tryd.cellsAsk6] at hlen
  exact ⟨z0, z1, e, pa, pc, ps, take_one q0, take_one q1, fun c v hv => take_in (by rw [q2]; exact hv), take_one q3, hI, hlen⟩

set_option maxRecDepth 100000 in
theorem open_asks6 {H : Type} {enc : TypeId × Value → H} {r : Reach} {b0 base : Nat} {spare : Nat → Bool} {held : Bool} {W : World} {v : Value} {d : DataW H} {ps : List MemPlace}
    (hval : Value.okWide Tryd.prog W r b0 38 v) (h : DataW.Trod enc Tryd.prog W base spare held 38 v d ps) : ∃ ao n cap, v = .slice ao n cap ∧ Asks6 W ao n := by
  obtain ⟨a0, len, cap, rfl⟩ := okWide_slice Tryd.underlying38 hval
  obtain ⟨fuel, hf⟩ := h
  refine ⟨a0, len, cap, rfl, ?_⟩
  rcases Go.Deep.open_slice Tryd.underlying38 hf with ⟨hcs, _⟩ | ⟨a, len', cap', m, n, D, Pl, hcs, hb, hl, hm, hmm, hx, hel⟩
  · simp [Value.cells] at hcs
    obtain ⟨rfl, rfl, rfl⟩ := hcs
    intro k hk
    exact absurd hk (Nat.not_lt_zero _)
  · simp [Value.cells] at hcs
    obtain ⟨rfl, rfl, rfl⟩ := hcs
    intro k hkl
    have hlm : len ≤ m := by rw [hmm]; split <;> omega
    obtain ⟨cs', h1, h2⟩ := hel k (by omega)
    rw [Tryd.cellsAsk6] at h1
    obtain ⟨_, hlen, hcell⟩ := World.cells?_some h1
    obtain ⟨kd, ln, e, pa, pc, ps, g0, g1, g2, g3, g4, g5⟩ := ask_trod h2
    obtain ⟨b, o, spot⟩ := a
    have hspot : spot = none := by
      obtain ⟨cs0, u1, _⟩ := hel 0 (by omega)
      rw [Tryd.cellsAsk6] at u1
      obtain ⟨_, gl, gc⟩ := World.cells?_some u1
      have h3 := World.cell?_spot ((gc 0 (by omega)).trans (List.getElem?_eq_getElem (by omega)))
      simpa [Addr.add] using h3
    subst hspot
    have hc : ∀ i v, i < 13 → cs'[i]? = some v → W.cell? ⟨b, o + k * 13 + i, none⟩ = some v := by
      intro i v hi hv
      have h3 := hcell i (by omega)
      rw [addr_plain, addr_plain] at h3
      exact h3.trans hv
    have f : ∀ c v, c < 10 → (e.ec)[c]? = some v → W.cell? ⟨b, o + k * 13 + 2 + c, none⟩ = some v := by
      intro c v hc10 hv
      have := hc (2 + c) v (by omega) (g2 c v hv)
      rwa [show o + k * 13 + (2 + c) = o + k * 13 + 2 + c by omega] at this
    exact ⟨b, o, rfl, kd, ln, e, pa, pc, ps, hc 0 _ (by decide) g0, hc 1 _ (by decide) g1,
      ⟨f 0 _ (by decide) rfl, f 1 _ (by decide) rfl, f 2 _ (by decide) rfl, f 3 _ (by decide) rfl, f 4 _ (by decide) rfl, f 5 _ (by decide) rfl, f 6 _ (by decide) rfl, f 7 _ (by decide) rfl, f 8 _ (by decide) rfl, f 9 _ (by decide) rfl⟩, hc 12 _ (by decide) g3, g4⟩

end Go.Proofs.YtcackmmfnojpfaaDoor

/- DERIVED of the program: rows of messages, and rows of calls that hold such rows, as arguments. Own work. -/
import Derived.Test.YtakomlmbdienpaaDoorFbIL
import Derived.Test.YtakomlmbdienpaaDoorGenMsg
import Derived.Deep.Slices
namespace Go.Proofs.YtakomlmbdienpaaDoor
open Go.RowKit Go.Extern.Stop Go.Stop Go.Extern Go.ChangeShapes Go.WideShapes Go.ChangeAt Go.ChangeMaps

theorem list_of' {α : Type} {Q : Nat → α → Prop} : ∀ (n : Nat), (∀ k, k < n → ∃ x, Q k x) → ∃ L : List α, L.length = n ∧ ∀ (k : Nat) (h : k < L.length), Q k L[k]
  | 0, _ => ⟨[], rfl, fun _ h => absurd h (Nat.not_lt_zero _)⟩
  | n + 1, h => by
    obtain ⟨L, h1, h2⟩ := list_of' n (fun k hk => h k (by omega))
    obtain ⟨x, hx⟩ := h n (by omega)
    refine ⟨L ++ [x], by simp [h1], fun k hk => ?_⟩
    rw [List.length_append, List.length_singleton] at hk
    rcases Nat.lt_or_ge k L.length with hl | hl
    · rw [List.getElem_append_left hl]; exact h2 k hl
    · have : k = n := by omega
      subst this
      rw [List.getElem_append_right (by omega)]
      simpa using hx
theorem Tryd.cellsMsg : Tryd.prog.cellsOf 32 = 13 := by kernel_rfl

set_option maxRecDepth 100000 in
theorem msgs_trod {H : Type} {enc : TypeId × Value → H} {base fuel : Nat} {spare : Nat → Bool} {held : Bool} {W : World} {cs : List Value} {x : DataW H × List MemPlace}
    (hf : DataW.trod enc Tryd.prog W base spare held fuel 44 cs = some x) : ∃ ao n cap L, cs = [.slice ao n cap] ∧ L.length = n ∧ Rows' 13 W ao cap (L.map mc) ∧ InB L := by
  obtain ⟨xd, xp⟩ := x
  rcases Go.Deep.open_slice Tryd.underlying44 hf with ⟨hcs, _⟩ | ⟨a, len, cap, m, n, D, Pl, hcs, hb, hl, hm, hmm, hx, hel⟩
  · exact ⟨none, 0, 0, [], hcs, rfl, ⟨Nat.le_refl _, fun k hk => absurd hk (Nat.not_lt_zero _), fun r hr => absurd hr List.not_mem_nil, fun _ => rfl⟩, fun m hm => absurd hm List.not_mem_nil⟩
  · have key : ∀ k, k < len → ∃ y : M13, (M32 y ∧ M64 y) ∧ ∀ (c : Nat) (v : Value), (mc y)[c]? = some v → ∃ b o, some a = some (⟨b, o, none⟩ : Addr) ∧ W.cell? ⟨b, o + k * 13 + c, none⟩ = some v := by
      intro k hkl
      have hlm : len ≤ m := by rw [hmm]; split <;> omega
      obtain ⟨cs', h1, h2⟩ := hel k (by omega)
      rw [Tryd.cellsMsg] at h1
      obtain ⟨_, hlen, hcell⟩ := World.cells?_some h1
      obtain ⟨b, o, spot⟩ := a
      have hspot : spot = none := by
        obtain ⟨cs0, g1, _⟩ := hel 0 (by omega)
        rw [Tryd.cellsMsg] at g1
        obtain ⟨_, gl, gc⟩ := World.cells?_some g1
        have h3 := World.cell?_spot ((gc 0 (by omega)).trans (List.getElem?_eq_getElem (by omega)))
        simpa [Addr.add] using h3
      subst hspot
      obtain ⟨y, e, b1, b2⟩ := msg_trod h2
      refine ⟨y, ⟨b1, b2⟩, fun c v hv => ⟨b, o, rfl, ?_⟩⟩
      have hc : c < 13 := by have := (List.getElem?_eq_some_iff.1 hv).1; rwa [mc_len] at this
      have h3 := hcell c hc
      rw [addr_plain, addr_plain] at h3
      rw [e] at h3
      exact h3.trans hv
    obtain ⟨L, hL, hQ⟩ := list_of' len key
    refine ⟨some a, len, cap, L, hcs, hL, ⟨by rw [List.length_map]; omega, fun k hk c v hv => ?_, mcs_each L, (fun e => by cases e)⟩, fun y hy => ?_⟩
    · rw [List.length_map] at hk
      rw [List.getElem_map] at hv
      exact (hQ k hk).2 c v hv
    · obtain ⟨k, hk, rfl⟩ := List.getElem_of_mem hy
      exact (hQ k hk).1
set_option maxRecDepth 100000 in
theorem open_msgs {H : Type} {enc : TypeId × Value → H} {r : Reach} {b0 base : Nat} {spare : Nat → Bool} {held : Bool} {W : World} {v : Value} {d : DataW H} {ps : List MemPlace}
    (hval : Value.okWide Tryd.prog W r b0 44 v) (h : DataW.Trod enc Tryd.prog W base spare held 44 v d ps) : ∃ ao n cap L, v = .slice ao n cap ∧ L.length = n ∧ Rows' 13 W ao cap (L.map mc) ∧ InB L := by
  obtain ⟨a0, len, cap0, rfl⟩ := okWide_slice Tryd.underlying44 hval
  obtain ⟨fuel, hf⟩ := h
  obtain ⟨ao, n, cap, L, hcs, h1, h2, h3⟩ := msgs_trod hf
  simp [Value.cells] at hcs
  obtain ⟨rfl, rfl, rfl⟩ := hcs
  exact ⟨_, _, _, L, rfl, h1, h2, h3⟩

/-- A row of calls. -/
structure AskQ (W : World) (ao : Option Addr) (n : Nat) : Prop where
  at_ : ∀ (k : Nat), k < n → ∃ b o kd p c x lo ln lc L, ao = some ⟨b, o, none⟩ ∧ W.cell? ⟨b, o + k * 5, none⟩ = some (.int .i64 kd) ∧ W.cell? ⟨b, o + k * 5 + 1, none⟩ = some (.int .i64 p) ∧ W.cell? ⟨b, o + k * 5 + 2, none⟩ = some (.int .i64 c) ∧ W.cell? ⟨b, o + k * 5 + 3, none⟩ = some (.int .i64 x) ∧ W.cell? ⟨b, o + k * 5 + 4, none⟩ = some (.slice lo ln lc) ∧
    L.length = ln ∧ Rows' 13 W lo lc (L.map mc) ∧ InB L
theorem Tryd.cellsAsk12 : Tryd.prog.cellsOf 46 = 5 := by kernel_rfl
theorem Tryd.cellsMsgs1 : Tryd.prog.cellsOf 44 = 1 := by kernel_rfl

set_option maxRecDepth 100000 in
theorem open_asks12 {H : Type} {enc : TypeId × Value → H} {r : Reach} {b0 base : Nat} {spare : Nat → Bool} {held : Bool} {W : World} {v : Value} {d : DataW H} {ps : List MemPlace}
    (hval : Value.okWide Tryd.prog W r b0 40 v) (h : DataW.Trod enc Tryd.prog W base spare held 40 v d ps) : ∃ ao n cap, v = .slice ao n cap ∧ AskQ W ao n := by
  obtain ⟨a0, len, cap, rfl⟩ := okWide_slice Tryd.underlying40 hval
  obtain ⟨fuel, hf⟩ := h
  refine ⟨a0, len, cap, rfl, ⟨?_⟩⟩
  rcases Go.Deep.open_slice Tryd.underlying40 hf with ⟨hcs, _⟩ | ⟨a, len', cap', m, n, D, Pl, hcs, hb, hl, hm, hmm, hx, hel⟩
  · simp [Value.cells] at hcs
    obtain ⟨rfl, rfl, rfl⟩ := hcs
    intro k hk
    exact absurd hk (Nat.not_lt_zero _)
  · simp [Value.cells] at hcs
    obtain ⟨rfl, rfl, rfl⟩ := hcs
    intro k hkl
    have hlm : len ≤ m := by rw [hmm]; split <;> omega
    obtain ⟨cs', h1, h2⟩ := hel k (by omega)
    rw [Tryd.cellsAsk12] at h1
    obtain ⟨_, hlen, hcell⟩ := World.cells?_some h1
    obtain ⟨b, o, spot⟩ := a
    have hspot : spot = none := by
      obtain ⟨cs0, g1, _⟩ := hel 0 (by omega)
      rw [Tryd.cellsAsk12] at g1
      obtain ⟨_, gl, gc⟩ := World.cells?_some g1
      have h3 := World.cell?_spot ((gc 0 (by omega)).trans (List.getElem?_eq_getElem (by omega)))
      simpa [Addr.add] using h3
    subst hspot
    obtain ⟨xs, q, _, _, _, hxl, hfd⟩ := DataW.trod_struct Tryd.underlying46 h2
    have hxx : ∀ i, i < 5 → ∃ d, xs[i]? = some d := fun i hi => ⟨_, List.getElem?_eq_getElem (by rw [hxl]; exact hi)⟩
    obtain ⟨d0, g0⟩ := hxx 0 (by decide)
    obtain ⟨d1, g1⟩ := hxx 1 (by decide)
    obtain ⟨d2, g2⟩ := hxx 2 (by decide)
    obtain ⟨d3, g3⟩ := hxx 3 (by decide)
    obtain ⟨d4, g4⟩ := hxx 4 (by decide)
    have t0 : DataW.trod enc Tryd.prog W base spare held q 3 ((cs'.drop 0).take (Tryd.prog.cellsOf 3)) = some d0 := (hfd 0 _ rfl).trans g0
    have t1 : DataW.trod enc Tryd.prog W base spare held q 3 ((cs'.drop 1).take (Tryd.prog.cellsOf 3)) = some d1 := (hfd 1 _ rfl).trans g1
    have t2 : DataW.trod enc Tryd.prog W base spare held q 3 ((cs'.drop 2).take (Tryd.prog.cellsOf 3)) = some d2 := (hfd 2 _ rfl).trans g2
    have t3 : DataW.trod enc Tryd.prog W base spare held q 3 ((cs'.drop 3).take (Tryd.prog.cellsOf 3)) = some d3 := (hfd 3 _ rfl).trans g3
    have t4 : DataW.trod enc Tryd.prog W base spare held q 44 ((cs'.drop 4).take (Tryd.prog.cellsOf 44)) = some d4 := (hfd 4 _ rfl).trans g4
    rw [Tryd.cellsI1] at t0 t1 t2 t3
    rw [Tryd.cellsMsgs1] at t4
    obtain ⟨z0, y0, _⟩ := DataW.trod_int Tryd.underlying3 t0
    obtain ⟨z1, y1, _⟩ := DataW.trod_int Tryd.underlying3 t1
    obtain ⟨z2, y2, _⟩ := DataW.trod_int Tryd.underlying3 t2
    obtain ⟨z3, y3, _⟩ := DataW.trod_int Tryd.underlying3 t3
    obtain ⟨lo, ln, lc, L, y4, l1, l2, l3⟩ := msgs_trod t4
    have cc : ∀ c v, c < 5 → cs'[c]? = some v → W.cell? ⟨b, o + k * 5 + c, none⟩ = some v := fun c v hc hv => by
      have h3 := hcell c hc
      rw [addr_plain, addr_plain] at h3
      exact h3.trans hv
    exact ⟨b, o, z0, z1, z2, z3, lo, ln, lc, L, rfl, cc 0 _ (by omega) (take_one' y0), cc 1 _ (by omega) (take_one' y1), cc 2 _ (by omega) (take_one' y2), cc 3 _ (by omega) (take_one' y3), cc 4 _ (by omega) (take_one' y4), l1, l2, l3⟩

end Go.Proofs.YtakomlmbdienpaaDoor

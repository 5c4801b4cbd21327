/- DERIVED of the program: two messages that lie in memory, one behind the other. Own work. -/
import Derived.Test.YtakomlmbdienpaaDoorSgRuns
namespace Go.Proofs.YtakomlmbdienpaaDoor
open Go.RowKit Go.Extern.Stop Go.Stop Go.Extern

/-- What came in lies in the first two blocks of the call. -/
structure SM2 (w : World) (mc nc : Array Value) (W : World) : Prop where
  bA : W.heap[w.heap.size]? = some (.cells mc 32 (0, 0))
  bB : W.heap[w.heap.size + 1]? = some (.cells nc 32 (0, 0))
  be : Below w.heap.size w W
theorem SM2.step {w W W' : World} {mc nc : Array Value} (h : SM2 w mc nc W) (hb : Below W.heap.size W W') : SM2 w mc nc W' :=
  ⟨blk_step h.bA hb, blk_step h.bB hb, bstep h.be (Nat.le_refl _) hb⟩
theorem SM2.start (w : World) (mc nc : Array Value) : SM2 w mc nc ((w.alloc (.cells mc 32)).alloc (.cells nc 32)) := by
  refine ⟨blk_step (heap_alloc_new _ _) (below_alloc _ _), ?_, bstep (below_alloc _ _) (Nat.le_refl _) (below_alloc _ _)⟩
  have hn := heap_alloc_new (w.alloc (.cells mc 32)) (.cells nc 32)
  rwa [show (w.alloc (.cells mc 32)).heap.size = w.heap.size + 1 by simp] at hn
theorem eq_msgIn' (m n : M13) (w : World) : (Op.equalIn 10000 32 (.agg (mv m)) (.agg (mv n))).run Tryd.prog w = .ok (eqB m n) w := by
  obtain ⟨k, c, l, t, o, e, w_, v, d0, d1, d2, d3, h⟩ := m
  obtain ⟨nk, nc, nl, nt, no, ne, nw, nv, nd0, nd1, nd2, nd3, nh⟩ := n
  exact eq_msgIn 9997 k c l t o e w_ v d0 d1 d2 d3 h nk nc nl nt no ne nw nv nd0 nd1 nd2 nd3 nh w
/-- And a third block. -/
structure SM3 (w : World) (mc nc xc : Array Value) (C : Nat) (W : World) : Prop where
  s : SM2 w mc nc W
  bC : W.heap[C]? = some (.cells xc 32 (0, 0))
theorem SM3.step {w W W' : World} {mc nc xc : Array Value} {C : Nat} (h : SM3 w mc nc xc C W) (hb : Below W.heap.size W W') : SM3 w mc nc xc C W' := ⟨h.s.step hb, blk_step h.bC hb⟩
theorem gErr_ne (sa : Nat → Addr) (l : List (ByteArray × Int)) (c : Nat) (h : c ≠ 0) : gErr sa l c = flt opSGet 0 (chn l (snt (sa c))) := if_neg h
theorem eqB_bytes (m n : M13) (hm : M32 m) (hr : rtP m) (hn : M32 n) (hs : rtP n) : decide (encM m = encM n) = eqB m n := by
  rw [Bool.eq_iff_iff, decide_eq_true_eq, eqB_iff]
  exact ⟨fun h => encM_inj m n hm hr hn hs [] (by rw [List.append_nil]; exact h.symm), fun h => by rw [h]⟩
theorem gErr_zero (sa : Nat → Addr) (l : List (ByteArray × Int)) : gErr sa l 0 = .nilIface := rfl
theorem eqB_self (m : M13) : eqB m m = true := (eqB_iff m m).2 rfl
theorem eqB_ne (m n : M13) (h : m ≠ n) : eqB m n = false := by
  rcases hb : eqB m n with _ | _
  · rfl
  · exact absurd ((eqB_iff m n).1 hb) h
/-- What Put tells of a message. -/
noncomputable def putB (m : M13) : List Nat := if rtB m = true then encM m else []
theorem putB_yes (m : M13) (h : rtB m = true) : putB m = encM m := if_pos h
theorem putB_no (m : M13) (h : rtB m = false) : putB m = [] := if_neg (by rw [h]; decide)

end Go.Proofs.YtakomlmbdienpaaDoor
